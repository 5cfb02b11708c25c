import PyProof.Rows.All
import Wide.All
import OpenK.AllK
import Wide.FinOn
import HandS.ForMost
import HandS.ForExc
import HandS.Star
import HandS.Wide
import HandS.TupAny
import HandS.TupMul
import HandS.Deep
import HandS.TupLen
import HandS.TupLe
import HandS.IterNext
import KE.KOwnIter
import HandS.More
import HandS.ExcInit
import HandS.ExcField
import HandS.ExcIs
import KE.KExcIs
import HandS.TryMany
import HandS.DictComp
import HandS.Small
import HandS.Property
import HandS.ClsMeth
import HandS.MakeKw
import HandS.MakeKwOnly
import HandS.DictTup
import HandS.Style
import HandS.Conv
import HandS.IsInst
import HandS.Codes
import HandS.MethStar
import HandS.GenCall
import HandS.Finally
import HandS.Iter
import HandS.SetFor
import HandS.Text
import KE.GoesEnumKw
import KE.KeyNested
import KE.KDictWalk
import KE.KDictDisplayH
import KE.DataMinMax
import HandS.SortKw
import PySem.Challenge.RW_fusewalks_k03_least_sizes
set_option Elab.async false
set_option linter.all false
set_option maxRecDepth 100000
set_option maxHeartbeats 4000000
namespace DL
open PySem L2

/-- the World that the text runs in -/
class Wd where
  w : World
variable [Wd]
/-! ### data -/
inductive D where
  | non | bl (b : Bool) | int (i : Int) | str (x : Str) | ty (n : String) | ptr (a : Addr)
  | tup (ds : List D) | lst (ds : List D) | rol (ds : List D) | dic (es : List (Key × D)) | dit (es : List (D × D)) | obj (C : Addr) (es : List (Str × D))

def allS {α β : Type} (f : α → Option β) : List α → Option (List β)
  | [] => some []
  | x :: xs => match f x, allS f xs with
    | some y, some ys => some (y :: ys)
    | _, _ => none
/-- a key, nested to a depth: 1 and True are one key -/
def toNK : Nat → D → Option NestedKey
  | _, .non => some .none
  | _, .bl b => some (.num (if b = true then 1 else 0))
  | _, .int i => some (.num i)
  | _, .str x => some (.text x)
  | n + 1, .tup ds => (allS (toNK n) ds).map .tup
  | _, _ => none
/-- a dict whose keys are tuples, nested: each entry by its key, the key's own object and the value -/
def hoN (a : Addr) (xs : List (NestedKey × Addr × Value)) : HO := .ext fun h => xs.length ≤ sizeLine ∧ (a == sysModules) = false ∧ (xs.map (·.1)).Nodup ∧
  ∃ o es ep, h.get? a = some o ∧ o.ExactDict ∧ o.data = .dict es ep ∧ es.toList = xs.map fun x => (⟨x.1.hash Wd.w, .ref x.2.1, x.2.2⟩ : DictEntry)
mutual
/-- the value v stands for the data d, in the frozen part F -/
inductive Rep (K : PySem.W.Frag) (F : Hp) : V → D → Prop
  | non : Rep K F .non .non
  | bl (b : Bool) : Rep K F (.bl b) (.bl b)
  | int (i : Int) : Rep K F (.int i) (.int i)
  | str (x : Str) : Rep K F (.str x) (.str x)
  | ty (n : String) : Rep K F (.ty n) (.ty n)
  | ptr (a : Addr) : Rep K F (.ref a) (.ptr a)
  | tup {a : Addr} {xs : List V} {ds : List D} : F a = some (.tup xs) → Reps K F xs ds → Rep K F (.ref a) (.tup ds)
  | lst {a : Addr} {xs : List V} {ds : List D} : F a = some (.lst xs) → Reps K F xs ds → Rep K F (.ref a) (.lst ds)
  | rol {a : Addr} {xs : List V} {ds : List D} : SqL K F a xs → Reps K F xs ds → Rep K F (.ref a) (.rol ds)
  | dic {a : Addr} {kvs : List (Key × V)} {es : List (Key × D)} : F a = some (.dK kvs) → kvs.map (·.1) = es.map (·.1) → Reps K F (kvs.map (·.2)) (es.map (·.2)) → Rep K F (.ref a) (.dic es)
  | dit {a : Addr} {xs : List (NestedKey × Addr × Value)} {vs : List V} {es : List (D × D)} : F a = some (hoN a xs) → (es.map fun e => toNK 8 e.1) = (xs.map fun x => some x.1) → Reps K F (xs.map fun x => V.ref x.2.1) (es.map (·.1)) → Vals vs (xs.map fun x => x.2.2) → Reps K F vs (es.map (·.2)) → Rep K F (.ref a) (.dit es)
  | obj {a C dx : Addr} {kvs : List (Str × V)} {es : List (Str × D)} : F a = some (.ins C dx kvs) → kvs.map (·.1) = es.map (·.1) → Reps K F (kvs.map (·.2)) (es.map (·.2)) → Rep K F (.ref a) (.obj C es)
inductive Reps (K : PySem.W.Frag) (F : Hp) : List V → List D → Prop
  | nil : Reps K F [] []
  | cons {v : V} {d : D} {xs : List V} {ds : List D} : Rep K F v d → Reps K F xs ds → Reps K F (v :: xs) (d :: ds)
end
theorem sqT_mono {F F' : Hp} {a : Addr} {xs : List V} (s : Same F F') (h : F a = some (.tup xs)) : F' a = some (.tup xs) := s _ _ h
mutual
theorem Rep.mono {K : PySem.W.Frag} {F F' : Hp} (s : Same F F') : ∀ {v : V} {d : D}, Rep K F v d → Rep K F' v d
  | _, _, .non => .non
  | _, _, .bl b => .bl b
  | _, _, .int i => .int i
  | _, _, .str x => .str x
  | _, _, .ty n => .ty n
  | _, _, .ptr a => .ptr a
  | _, _, .tup h r => .tup (sqT_mono s h) (Reps.mono s r)
  | _, _, .lst h r => .lst (s _ _ h) (Reps.mono s r)
  | _, _, .rol h r => .rol (s.seq h) (Reps.mono s r)
  | _, _, .dic h l r => .dic (s _ _ h) l (Reps.mono s r)
  | _, _, .dit h l r1 rv r2 => .dit (s _ _ h) l (Reps.mono s r1) rv (Reps.mono s r2)
  | _, _, .obj h l r => .obj (s _ _ h) l (Reps.mono s r)
theorem Reps.mono {K : PySem.W.Frag} {F F' : Hp} (s : Same F F') : ∀ {xs : List V} {ds : List D}, Reps K F xs ds → Reps K F' xs ds
  | _, _, .nil => .nil
  | _, _, .cons r t => .cons (Rep.mono s r) (Reps.mono s t)
end
theorem Reps.length {K : PySem.W.Frag} {F : Hp} : ∀ {xs : List V} {ds : List D}, Reps K F xs ds → xs.length = ds.length
  | _, _, .nil => rfl
  | _, _, .cons _ t => congrArg (· + 1) (Reps.length t)
theorem Reps.append {K : PySem.W.Frag} {F : Hp} : ∀ {xs ys : List V} {ds es : List D}, Reps K F xs ds → Reps K F ys es → Reps K F (xs ++ ys) (ds ++ es)
  | _, _, _, _, .nil, s => s
  | _, _, _, _, .cons r t, s => .cons r (Reps.append t s)
theorem Reps.get {K : PySem.W.Frag} {F : Hp} : ∀ {xs : List V} {ds : List D} {i : Nat} {d : D}, Reps K F xs ds → ds[i]? = some d → ∃ v, xs[i]? = some v ∧ Rep K F v d
  | _, _, _, _, .nil, e => by simp at e
  | _, _, 0, _, .cons r _, e => by simp at e; subst e; exact ⟨_, rfl, r⟩
  | _, _, i + 1, d, .cons _ t, e => by
    obtain ⟨v, h1, h2⟩ := Reps.get (i := i) (d := d) t (by simpa using e)
    exact ⟨v, by simpa using h1, h2⟩
theorem Reps.get' {K : PySem.W.Frag} {F : Hp} : ∀ {xs : List V} {ds : List D} {i : Nat} {v : V}, Reps K F xs ds → xs[i]? = some v → ∃ d, ds[i]? = some d ∧ Rep K F v d
  | _, _, _, _, .nil, e => by simp at e
  | _, _, 0, _, .cons r _, e => by simp at e; subst e; exact ⟨_, rfl, r⟩
  | _, _, i + 1, v, .cons _ t, e => by
    obtain ⟨d, h1, h2⟩ := Reps.get' (i := i) (v := v) t (by simpa using e)
    exact ⟨d, by simpa using h1, h2⟩
theorem Reps.take {K : PySem.W.Frag} {F : Hp} : ∀ {xs : List V} {ds : List D} (n : Nat), Reps K F xs ds → Reps K F (xs.take n) (ds.take n)
  | _, _, 0, _ => .nil
  | _, _, _ + 1, .nil => .nil
  | _, _, n + 1, .cons r t => .cons r (Reps.take n t)
theorem Reps.drop {K : PySem.W.Frag} {F : Hp} : ∀ {xs : List V} {ds : List D} (n : Nat), Reps K F xs ds → Reps K F (xs.drop n) (ds.drop n)
  | _, _, 0, r => r
  | _, _, _ + 1, .nil => .nil
  | _, _, n + 1, .cons _ t => Reps.drop n t
theorem Reps.set {K : PySem.W.Frag} {F : Hp} {v : V} {d : D} (r : Rep K F v d) : ∀ {xs : List V} {ds : List D} (i : Nat), Reps K F xs ds → Reps K F (xs.set i v) (ds.set i d)
  | _, _, _, .nil => .nil
  | _, _, 0, .cons _ t => .cons r t
  | _, _, i + 1, .cons q t => .cons q (Reps.set r i t)
theorem Reps.flat {K : PySem.W.Frag} {F : Hp} {xs : List V} {ds : List D} (r : Reps K F xs ds) : ∀ n : Nat, Reps K F (List.replicate n xs).flatten (List.replicate n ds).flatten
  | 0 => .nil
  | n + 1 => by
    rw [List.replicate_succ, List.replicate_succ, List.flatten_cons, List.flatten_cons]
    exact r.append (Reps.flat r n)

/-! ### what changes: by address -/
inductive MO where
  | lst (ds : List D) | dic (es : List (Key × D)) | dit (es : List (D × D)) | obj (C : Addr) (es : List (Str × D)) | xd (es : List (Str × D)) | exd (dx : Addr) (es : List (Str × D)) | raw (o : HO)
abbrev Mem := List (Addr × MO)
abbrev Rho := List (Option D)
/-- the entries of such a dict stand for the data -/
def Ents (K : PySem.W.Frag) (F : Hp) (xs : List (NestedKey × Addr × Value)) (es : List (D × D)) : Prop :=
  ∃ vs, (es.map fun e => toNK 8 e.1) = (xs.map fun x => some x.1) ∧ Reps K F (xs.map fun x => V.ref x.2.1) (es.map (·.1)) ∧ Vals vs (xs.map fun x => x.2.2) ∧ Reps K F vs (es.map (·.2))
theorem Ents.mono {K : PySem.W.Frag} {F F' : Hp} (s : Same F F') {xs : List (NestedKey × Addr × Value)} {es : List (D × D)} (h : Ents K F xs es) : Ents K F' xs es :=
  let ⟨vs, l, r1, rv, r2⟩ := h; ⟨vs, l, r1.mono s, rv, r2.mono s⟩
def RepM (K : PySem.W.Frag) (F : Hp) (a : Addr) (o : HO) : MO → Prop
  | .lst ds => ∃ xs, o = .lst xs ∧ Reps K F xs ds
  | .dic es => ∃ kvs, o = .dK kvs ∧ kvs.map (·.1) = es.map (·.1) ∧ Reps K F (kvs.map (·.2)) (es.map (·.2))
  | .dit es => ∃ xs, o = hoN a xs ∧ Ents K F xs es
  | .obj C es => ∃ dx kvs, o = .ins C dx kvs ∧ kvs.map (·.1) = es.map (·.1) ∧ Reps K F (kvs.map (·.2)) (es.map (·.2))
  | .xd es => ∃ kvs, o = .xd kvs ∧ kvs.map (·.1) = es.map (·.1) ∧ Reps K F (kvs.map (·.2)) (es.map (·.2))
  | .exd dx es => ∃ kvs, o = exd dx kvs ∧ kvs.map (·.1) = es.map (·.1) ∧ Reps K F (kvs.map (·.2)) (es.map (·.2))
  | .raw u => o = u
theorem RepM.mono {K : PySem.W.Frag} {F F' : Hp} (s : Same F F') {a : Addr} {o : HO} {m : MO} (h : RepM K F a o m) : RepM K F' a o m := by
  cases m with
  | lst ds => obtain ⟨xs, e, r⟩ := h; exact ⟨xs, e, r.mono s⟩
  | dic es => obtain ⟨xs, e, l, r⟩ := h; exact ⟨xs, e, l, r.mono s⟩
  | dit es => obtain ⟨xs, e, r⟩ := h; exact ⟨xs, e, r.mono s⟩
  | obj C es => obtain ⟨dx, xs, e, l, r⟩ := h; exact ⟨dx, xs, e, l, r.mono s⟩
  | xd es => obtain ⟨xs, e, l, r⟩ := h; exact ⟨xs, e, l, r.mono s⟩
  | exd dx es => obtain ⟨xs, e, l, r⟩ := h; exact ⟨xs, e, l, r.mono s⟩
  | raw u => exact h

def isDct : HO → Bool
  | .dK _ => true
  | .ext _ => true
  | _ => false
/-- the frozen part stands in the heap; a dict may be locked -/
def SubF (F H : Hp) : Prop := ∀ a o, F a = some o → H a = some o ∨ (isDct o = true ∧ ∃ z, H a = some (.frz z o))
/-- K: the written part; U: what others hold -/
structure G where
  K : PySem.W.Frag
  U : Hp
/-- what others hold is none of the frozen part, but for a dict that is locked -/
def Apart (F : Hp) (a : Addr) (o : HO) : Prop := F a = none ∨ ∃ z u, o = .frz z u ∧ F a = some u ∧ isDct u = true
structure Sta (g : G) (F : Hp) (M : Mem) (H : Hp) : Prop where
  sub : SubF F H
  out : ∀ a o, g.U a = some o → H a = some o ∧ Apart F a o ∧ ∀ m, (a, m) ∉ M
  mem : ∀ a m, (a, m) ∈ M → F a = none ∧ ∃ o, H a = some o ∧ RepM g.K F a o m
  nd : (M.map (·.1)).Nodup
def at_ : Rho → Nat → Option D
  | [], _ => none
  | x :: _, 0 => x
  | _ :: r, n + 1 => at_ r n
def put : Rho → Nat → Option D → Rho
  | [], _, _ => []
  | _ :: r, 0, y => y :: r
  | x :: r, n + 1, y => x :: put r n y
structure Enr (K : PySem.W.Frag) (F : Hp) (σ : L2.St) (ρ : Rho) : Prop where
  len : σ.length = ρ.length
  has : ∀ i d, at_ ρ i = some d → ∃ v, σ[i]? = some (some v) ∧ Rep K F v d
theorem put_length : ∀ (ρ : Rho) (i : Nat) (x : Option D), (put ρ i x).length = ρ.length
  | [], _, _ => rfl
  | _ :: _, 0, _ => rfl
  | _ :: r, n + 1, y => congrArg (· + 1) (put_length r n y)
theorem at_put_same : ∀ (ρ : Rho) (i : Nat) (x : Option D), i < ρ.length → at_ (put ρ i x) i = x
  | [], _, _, h => by simp at h
  | _ :: _, 0, _, _ => rfl
  | _ :: r, n + 1, y, h => at_put_same r n y (by simpa using h)
theorem at_put_ne : ∀ (ρ : Rho) (i j : Nat) (x : Option D), i ≠ j → at_ (put ρ i x) j = at_ ρ j
  | [], _, _, _, _ => rfl
  | _ :: _, 0, 0, _, h => absurd rfl h
  | _ :: _, 0, _ + 1, _, _ => rfl
  | _ :: _, _ + 1, 0, _, _ => rfl
  | _ :: r, n + 1, m + 1, y, h => at_put_ne r n m y (fun e => h (by rw [e]))
theorem at_lt : ∀ {ρ : Rho} {i : Nat} {d : D}, at_ ρ i = some d → i < ρ.length
  | [], _, _, h => by simp [at_] at h
  | _ :: _, 0, _, _ => Nat.succ_pos _
  | _ :: r, n + 1, _, h => Nat.succ_lt_succ (at_lt (ρ := r) h)
theorem Enr.mono {K : PySem.W.Frag} {F F' : Hp} {σ : L2.St} {ρ : Rho} (s : Same F F') (E : Enr K F σ ρ) : Enr K F' σ ρ :=
  ⟨E.len, fun i d h => let ⟨v, a, r⟩ := E.has i d h; ⟨v, a, r.mono s⟩⟩
theorem Enr.set {K : PySem.W.Frag} {F : Hp} {σ : L2.St} {ρ : Rho} (E : Enr K F σ ρ) (i : Nat) {v : V} {d : D} (r : Rep K F v d) : Enr K F (σ.set i (some v)) (put ρ i (some d)) := by
  refine ⟨by rw [List.length_set, put_length]; exact E.len, fun j e h => ?_⟩
  by_cases hij : i = j
  · subst hij
    have hl := at_lt h
    rw [put_length] at hl
    rw [at_put_same _ _ _ hl] at h
    cases h
    exact ⟨v, by rw [List.getElem?_set_self (by rw [E.len]; exact hl)], r⟩
  · rw [at_put_ne _ _ _ _ hij] at h
    obtain ⟨u, a, ru⟩ := E.has j e h
    exact ⟨u, by rw [List.getElem?_set_ne hij]; exact a, ru⟩
theorem Enr.unset {K : PySem.W.Frag} {F : Hp} {σ : L2.St} {ρ : Rho} (E : Enr K F σ ρ) (i : Nat) (x : Option V) : Enr K F (σ.set i x) (put ρ i none) := by
  refine ⟨by rw [List.length_set, put_length]; exact E.len, fun j e h => ?_⟩
  by_cases hij : i = j
  · subst hij
    have hl := at_lt h
    rw [put_length] at hl
    rw [at_put_same _ _ _ hl] at h
    cases h
  · rw [at_put_ne _ _ _ _ hij] at h
    obtain ⟨u, a, ru⟩ := E.has j e h
    exact ⟨u, by rw [List.getElem?_set_ne hij]; exact a, ru⟩

/-! ### what a step of the heap does to a state -/
section
variable {g : G} {F F' : Hp} {M : Mem} {H : Hp} {a : Addr} {o : HO}
theorem SubF.lst {xs : List V} (s : SubF F H) (h : F a = some (.lst xs)) : H a = some (.lst xs) := by
  rcases s a _ h with q | ⟨q, _⟩
  · exact q
  · cases q
theorem SubF.ins {C dx : Addr} {fs : List (Str × V)} (s : SubF F H) (h : F a = some (.ins C dx fs)) : H a = some (.ins C dx fs) := by
  rcases s a _ h with q | ⟨q, _⟩
  · exact q
  · cases q
theorem SubF.dK {kvs : List (Key × V)} (s : SubF F H) (h : F a = some (.dK kvs)) : Rd H a (.dK kvs) := by
  rcases s a _ h with q | ⟨_, z, q⟩
  · exact .inl q
  · exact .inr ⟨z, q⟩
theorem SubF.nk {xs : List (NestedKey × Addr × Value)} (s : SubF F H) (h : F a = some (hoN a xs)) : Rd H a (hoN a xs) := by
  rcases s a _ h with q | ⟨_, z, q⟩
  · exact .inl q
  · exact .inr ⟨z, q⟩
theorem SubF.tup {xs : List V} (s : SubF F H) (h : F a = some (.tup xs)) : H a = some (.tup xs) := by
  rcases s a _ h with q | ⟨q, _⟩
  · exact q
  · cases q
theorem SubF.sqL {K : PySem.W.Frag} {xs : List V} (s : SubF F H) (h : SqL K F a xs) : SqL K H a xs := by
  rcases h with (h | ⟨z, h⟩) | h
  · exact .inl (.inl (s.lst h))
  · refine .inl (.inr ⟨z, ?_⟩)
    rcases s a _ h with q | ⟨q, _⟩
    · exact q
    · cases q
  · exact .inr h
theorem SubF.sqT {K : PySem.W.Frag} {xs : List V} (s : SubF F H) (h : F a = some (.tup xs)) : SqT K H a xs := .of (s.tup h)
theorem SubF.none (s : SubF F H) (h : H a = none) : F a = none := by
  cases q : F a with
  | none => rfl
  | some o =>
    rcases s a o q with e | ⟨_, z, e⟩
    · rw [h] at e; cases e
    · rw [h] at e; cases e
theorem Sta.fresh (S : Sta g F M H) (h : H a = none) : ∀ m, (a, m) ∉ M := fun m hm => by
  obtain ⟨_, o, e, _⟩ := S.mem a m hm
  rw [h] at e; cases e
theorem Apart.ext {F F' : Hp} {a : Addr} {o : HO} (h : Apart F a o) (e : F' a = F a) : Apart F' a o := by
  unfold Apart
  rw [e]
  exact h
/-- a new object, frozen at once -/
theorem Sta.newF (S : Sta g F M H) (h : H a = none) : Same F (upd F a o) ∧ Sta g (upd F a o) M (upd H a o) := by
  have hF := S.sub.none h
  have s : Same F (upd F a o) := fun b u e => by
    rw [upd_ne (ne_of_none e hF)]; exact e
  refine ⟨s, ⟨fun b u e => ?_, fun b u e => ?_, fun b m hm => ?_, S.nd⟩⟩
  · by_cases hb : b = a
    · subst hb
      rw [upd_same] at e ⊢
      exact .inl e
    · rw [upd_ne hb] at e ⊢
      exact S.sub b u e
  · obtain ⟨h1, h2, h3⟩ := S.out b u e
    have hb : b ≠ a := ne_of_none h1 h
    exact ⟨by rw [upd_ne hb]; exact h1, h2.ext (upd_ne hb), h3⟩
  · obtain ⟨h1, u, h2, h3⟩ := S.mem b m hm
    have hb : b ≠ a := ne_of_none h2 h
    exact ⟨by rw [upd_ne hb]; exact h1, u, by rw [upd_ne hb]; exact h2, h3.mono s⟩
/-- a new object that may change -/
theorem Sta.newM (S : Sta g F M H) (h : H a = none) {m : MO} (r : RepM g.K F a o m) : Sta g F ((a, m) :: M) (upd H a o) := by
  have hF := S.sub.none h
  refine ⟨fun b u e => ?_, fun b u e => ?_, fun b n hm => ?_, ?_⟩
  · have hb : b ≠ a := ne_of_none e hF
    rw [upd_ne hb]
    exact S.sub b u e
  · obtain ⟨h1, h2, h3⟩ := S.out b u e
    have hb : b ≠ a := ne_of_none h1 h
    refine ⟨by rw [upd_ne hb]; exact h1, h2, fun n hn => ?_⟩
    rcases List.mem_cons.mp hn with z | z
    · cases z; exact hb rfl
    · exact h3 n z
  · rcases List.mem_cons.mp hm with z | z
    · cases z
      exact ⟨hF, o, upd_same, r⟩
    · obtain ⟨h1, u, h2, h3⟩ := S.mem b n z
      exact ⟨h1, u, by rw [upd_ne (ne_of_none h2 h)]; exact h2, h3⟩
  · refine List.nodup_cons.mpr ⟨fun z => ?_, S.nd⟩
    obtain ⟨q, hq, e⟩ := List.mem_map.mp z
    obtain ⟨b, n⟩ := q
    cases e
    exact S.fresh h n hq
/-- what H grows by is none of ours -/
theorem Sta.grow (S : Sta g F M H) (h : H a = none) : Sta g F M (upd H a o) := by
  have hF := S.sub.none h
  refine ⟨fun b u e => ?_, fun b u e => ?_, fun b n hm => ?_, S.nd⟩
  · rw [upd_ne (ne_of_none e hF)]; exact S.sub b u e
  · obtain ⟨h1, h2, h3⟩ := S.out b u e
    exact ⟨by rw [upd_ne (ne_of_none h1 h)]; exact h1, h2, h3⟩
  · obtain ⟨h1, u, h2, h3⟩ := S.mem b n hm
    exact ⟨h1, u, by rw [upd_ne (ne_of_none h2 h)]; exact h2, h3⟩
end

/-- a frozen dict is locked -/
theorem Sta.lock {K : PySem.W.Frag} {U F : Hp} {M : Mem} {H : Hp} {a : Addr} {u : HO} {z : Obj} (S : Sta ⟨K, U⟩ F M H) (hF : F a = some u) (hd : isDct u = true) (hH : H a = some u) : Sta ⟨K, upd U a (.frz z u)⟩ F M (upd H a (.frz z u)) ∧ U a = none := by
  have hU : U a = none := by
    cases e : U a with
    | none => rfl
    | some o =>
      obtain ⟨h1, h2, _⟩ := S.out a o e
      rcases h2 with h2 | ⟨z', u', h2, h3, h4⟩
      · rw [hF] at h2; cases h2
      · rw [hH] at h1
        cases h1
        subst h2
        rw [hF] at h3
        cases h3
  refine ⟨⟨fun b o e => ?_, fun b o e => ?_, fun b m hm => ?_, S.nd⟩, hU⟩
  · by_cases hb : b = a
    · subst hb
      rw [hF] at e
      cases e
      exact .inr ⟨hd, z, upd_same⟩
    · rw [upd_ne hb]
      exact S.sub b o e
  · by_cases hb : b = a
    · subst hb
      have e' : upd U b (.frz z u) b = some o := e
      rw [upd_same] at e'
      cases e'
      exact ⟨upd_same, .inr ⟨z, u, rfl, hF, hd⟩, fun m hm => by rw [(S.mem b m hm).1] at hF; cases hF⟩
    · have e' : upd U a (.frz z u) b = some o := e
      rw [upd_ne hb] at e'
      obtain ⟨h1, h2, h3⟩ := S.out b o e'
      exact ⟨by rw [upd_ne hb]; exact h1, h2, h3⟩
  · obtain ⟨h1, w, h2, h3⟩ := S.mem b m hm
    have hb : b ≠ a := fun q => by
      subst q
      rw [hF] at h1
      cases h1
    exact ⟨h1, w, by rw [upd_ne hb]; exact h2, h3⟩
theorem Sta.less {K : PySem.W.Frag} {U U' F : Hp} {M : Mem} {H : Hp} (S : Sta ⟨K, U'⟩ F M H) (h : Same U U') : Sta ⟨K, U⟩ F M H := ⟨S.sub, fun b o e => S.out b o (h b o e), S.mem, S.nd⟩

/-- M with n in the place of m at a -/
inductive Upd (a : Addr) (m n : MO) : Mem → Mem → Prop
  | head {r : Mem} : Upd a m n ((a, m) :: r) ((a, n) :: r)
  | tail {p : Addr × MO} {r r' : Mem} : Upd a m n r r' → Upd a m n (p :: r) (p :: r')
inductive Del (a : Addr) (m : MO) : Mem → Mem → Prop
  | head {r : Mem} : Del a m ((a, m) :: r) r
  | tail {p : Addr × MO} {r r' : Mem} : Del a m r r' → Del a m (p :: r) (p :: r')
theorem Upd.old {a : Addr} {m n : MO} : ∀ {M M' : Mem}, Upd a m n M M' → (a, m) ∈ M
  | _, _, .head => List.mem_cons_self
  | _, _, .tail h => List.mem_cons_of_mem _ (Upd.old h)
theorem Upd.keys {a : Addr} {m n : MO} : ∀ {M M' : Mem}, Upd a m n M M' → M'.map (·.1) = M.map (·.1)
  | _, _, .head => rfl
  | _, _, .tail h => by rw [List.map_cons, List.map_cons, Upd.keys h]
theorem Upd.mem {a : Addr} {m n : MO} : ∀ {M M' : Mem} {b : Addr} {x : MO}, Upd a m n M M' → (b, x) ∈ M' → (b = a ∧ x = n) ∨ (b, x) ∈ M
  | _, _, b, x, .head, h => by
    rcases List.mem_cons.mp h with z | z
    · cases z; exact .inl ⟨rfl, rfl⟩
    · exact .inr (List.mem_cons_of_mem _ z)
  | _, _, b, x, .tail u, h => by
    rcases List.mem_cons.mp h with z | z
    · rw [z]; exact .inr List.mem_cons_self
    · rcases Upd.mem u z with q | q
      · exact .inl q
      · exact .inr (List.mem_cons_of_mem _ q)
theorem Del.old {a : Addr} {m : MO} : ∀ {M M' : Mem}, Del a m M M' → (a, m) ∈ M
  | _, _, .head => List.mem_cons_self
  | _, _, .tail h => List.mem_cons_of_mem _ (Del.old h)
theorem Del.mem {a : Addr} {m : MO} : ∀ {M M' : Mem} {p : Addr × MO}, Del a m M M' → p ∈ M' → p ∈ M
  | _, _, _, .head, h => List.mem_cons_of_mem _ h
  | _, _, p, .tail u, h => by
    rcases List.mem_cons.mp h with z | z
    · rw [z]; exact List.mem_cons_self
    · exact List.mem_cons_of_mem _ (Del.mem u z)
theorem Del.sub {a : Addr} {m : MO} : ∀ {M M' : Mem}, Del a m M M' → (M'.map (·.1)).Sublist (M.map (·.1))
  | _, _, .head => List.Sublist.cons _ (List.Sublist.refl _)
  | _, _, .tail u => List.Sublist.cons_cons _ (Del.sub u)
theorem key_unique {M : Mem} (nd : (M.map (·.1)).Nodup) {a : Addr} {m n : MO} (h1 : (a, m) ∈ M) (h2 : (a, n) ∈ M) : m = n := by
  induction M with
  | nil => cases h1
  | cons p r ih =>
    obtain ⟨d1, d2⟩ := List.nodup_cons.mp nd
    rcases List.mem_cons.mp h1 with e1 | e1
    · rcases List.mem_cons.mp h2 with e2 | e2
      · rw [← e1] at e2; cases e2; rfl
      · subst e1
        exact absurd (List.mem_map.mpr ⟨(a, n), e2, rfl⟩) d1
    · rcases List.mem_cons.mp h2 with e2 | e2
      · subst e2
        exact absurd (List.mem_map.mpr ⟨(a, m), e1, rfl⟩) d1
      · exact ih d2 e1 e2
theorem Del.gone {a : Addr} {m : MO} : ∀ {M M' : Mem}, Del a m M M' → (M.map (·.1)).Nodup → ∀ n, (a, n) ∉ M'
  | _, _, .head, nd, n, h => (List.nodup_cons.mp nd).1 (List.mem_map.mpr ⟨(a, n), h, rfl⟩)
  | _, _, .tail (p := p) (r := r) u, nd, n, h => by
    obtain ⟨d1, d2⟩ := List.nodup_cons.mp nd
    rcases List.mem_cons.mp h with z | z
    · have e : p.1 = a := by rw [← z]
      exact d1 (List.mem_map.mpr ⟨(a, m), Del.old u, e.symm⟩)
    · exact Del.gone u d2 n z
section
variable {g : G} {F F' : Hp} {M M' : Mem} {H : Hp} {a : Addr} {o o' : HO} {m n : MO}
/-- the object at a is changed -/
theorem Sta.upd (S : Sta g F M H) (u : Upd a m n M M') (r : RepM g.K F a o n) : Sta g F M' (L2.upd H a o) := by
  obtain ⟨hF, _, hH, _⟩ := S.mem a m u.old
  refine ⟨fun b w e => ?_, fun b w e => ?_, fun b x hx => ?_, by rw [u.keys]; exact S.nd⟩
  · rw [upd_ne (ne_of_none e hF)]
    exact S.sub b w e
  · obtain ⟨h1, h2, h3⟩ := S.out b w e
    have hb : b ≠ a := fun z => by subst z; exact h3 m u.old
    refine ⟨by rw [upd_ne hb]; exact h1, h2, fun x hx => ?_⟩
    rcases u.mem hx with ⟨z, _⟩ | z
    · exact hb z
    · exact h3 x z
  · by_cases hb : b = a
    · subst hb
      have e : x = n := by
        have k : (b, n) ∈ M' := by
          clear r hF hH S hx
          induction u with
          | head => exact List.mem_cons_self
          | tail _ ih => exact List.mem_cons_of_mem _ ih
        exact key_unique (by rw [u.keys]; exact S.nd) hx k
      subst e
      exact ⟨hF, o, upd_same, r⟩
    · rcases u.mem hx with ⟨z, _⟩ | z
      · exact absurd z hb
      · obtain ⟨h1, w, h2, h3⟩ := S.mem b x z
        exact ⟨h1, w, by rw [upd_ne hb]; exact h2, h3⟩
/-- the object at a is frozen -/
theorem Sta.frz (S : Sta g F M H) (u : Del a m M M') (h : H a = some o) : Same F (L2.upd F a o) ∧ Sta g (L2.upd F a o) M' H := by
  obtain ⟨hF, _⟩ := S.mem a m u.old
  have s : Same F (L2.upd F a o) := fun b w e => by rw [upd_ne (ne_of_none e hF)]; exact e
  refine ⟨s, ⟨fun b w e => ?_, fun b w e => ?_, fun b x hx => ?_, S.nd.sublist u.sub⟩⟩
  · by_cases hb : b = a
    · subst hb
      rw [upd_same] at e
      cases e
      exact .inl h
    · rw [upd_ne hb] at e
      exact S.sub b w e
  · obtain ⟨h1, h2, h3⟩ := S.out b w e
    have hb : b ≠ a := fun z => by subst z; exact h3 m u.old
    exact ⟨h1, h2.ext (upd_ne hb), fun x hx => h3 x (u.mem hx)⟩
  · obtain ⟨h1, w, h2, h3⟩ := S.mem b x (u.mem hx)
    have hb : b ≠ a := fun z => by subst z; exact u.gone S.nd x hx
    exact ⟨by rw [upd_ne hb]; exact h1, w, h2, h3.mono s⟩
end
end DL
namespace DL
variable [Wd]
open PySem L2

abbrev XD := Addr → Addr → Mem → Prop
abbrev DE := Rho → Mem → (D → Mem → Prop) → XD → Prop
abbrev DT := Rho → Mem → (Bool → Mem → Prop) → XD → Prop
abbrev DA := Rho → Mem → (List D → Mem → Prop) → XD → Prop
abbrev NX := Rho → Mem → Prop
/-- next, return, break, continue, an exception (its class, its dict) -/
abbrev DS := NX → (D → Mem → Prop) → NX → NX → (Addr → Addr → Rho → Mem → Prop) → Rho → Mem → Prop
abbrev DG := D → Rho → Mem → NX → Prop
abbrev SpD := List D → Mem → (D → Mem → Prop) → XD → Prop

section
variable (g : G) (W : WX)
def liftE (de : DE) : TE := fun σ H k => ∃ ρ M F Q E, Sta g F M H ∧ Enr g.K F σ ρ ∧ de ρ M Q E ∧
  (∀ d M' F' v H', Q d M' → Same F F' → Sta g F' M' H' → Rep g.K F' v d → k v H') ∧ (∀ C dd M' F' H', E C dd M' → Same F F' → Sta g F' M' H' → W (.ref C) (some dd) σ H')
def liftT (dt : DT) : TT := fun σ H k => ∃ ρ M F Q E, Sta g F M H ∧ Enr g.K F σ ρ ∧ dt ρ M Q E ∧
  (∀ b M' F' H', Q b M' → Same F F' → Sta g F' M' H' → k b H') ∧ (∀ C dd M' F' H', E C dd M' → Same F F' → Sta g F' M' H' → W (.ref C) (some dd) σ H')
def liftA (da : DA) : TA := fun σ H k => ∃ ρ M F Q E, Sta g F M H ∧ Enr g.K F σ ρ ∧ da ρ M Q E ∧
  (∀ ds M' F' vs H', Q ds M' → Same F F' → Sta g F' M' H' → Reps g.K F' vs ds → k vs H') ∧ (∀ C dd M' F' H', E C dd M' → Same F F' → Sta g F' M' H' → W (.ref C) (some dd) σ H')
def liftS (ds : DS) : TS := fun D σ H => ∃ ρ M F nx rt bk ct ex, Sta g F M H ∧ Enr g.K F σ ρ ∧ ds nx rt bk ct ex ρ M ∧
  (∀ ρ' M' F' σ' H', nx ρ' M' → Same F F' → Sta g F' M' H' → Enr g.K F' σ' ρ' → D.nx σ' H') ∧
  (∀ d M' F' v H', rt d M' → Same F F' → Sta g F' M' H' → Rep g.K F' v d → D.rt v H') ∧
  (∀ ρ' M' F' σ' H', bk ρ' M' → Same F F' → Sta g F' M' H' → Enr g.K F' σ' ρ' → D.bk σ' H') ∧
  (∀ ρ' M' F' σ' H', ct ρ' M' → Same F F' → Sta g F' M' H' → Enr g.K F' σ' ρ' → D.ct σ' H') ∧
  (∀ C dd ρ' M' F' σ' H', ex C dd ρ' M' → Same F F' → Sta g F' M' H' → Enr g.K F' σ' ρ' → W (.ref C) (some dd) σ' H')
def liftG (dg : DG) : TG := fun x σ H k => ∃ ρ M F d Q, Sta g F M H ∧ Enr g.K F σ ρ ∧ Rep g.K F x d ∧ dg d ρ M Q ∧
  (∀ ρ' M' F' σ' H', Q ρ' M' → Same F F' → Sta g F' M' H' → Enr g.K F' σ' ρ' → k σ' H')
end
theorem _root_.L2.PE.imp {X : Cx} {e : Expr} {t t' : TE} (h : PE X e t) (i : ∀ σ H k, t' σ H k → t σ H k) : PE X e t' := ⟨fun pins s σ H k I q => h.run pins s σ H k I (i σ H k q)⟩
theorem _root_.L2.PT.imp {X : Cx} {e : Expr} {t t' : TT} (h : PT X e t) (i : ∀ σ H k, t' σ H k → t σ H k) : PT X e t' := ⟨fun pins s σ H k I q => h.run pins s σ H k I (i σ H k q)⟩
theorem _root_.L2.PA.imp {X : Cx} {e : List Expr} {t t' : TA} (h : PA X e t) (i : ∀ σ H k, t' σ H k → t σ H k) : PA X e t' := ⟨fun pos pins s σ H k I q => h.run pos pins s σ H k I (i σ H k q)⟩
theorem _root_.L2.PS.imp {X : Cx} {e : Stmt} {t t' : TS} (h : PS X e t) (i : ∀ D σ H, t' D σ H → t D σ H) : PS X e t' := ⟨fun pins s σ H D I q => h.run pins s σ H D I (i D σ H q)⟩
theorem _root_.L2.PSs.imp {X : Cx} {e : List Stmt} {t t' : TS} (h : PSs X e t) (i : ∀ D σ H, t' D σ H → t D σ H) : PSs X e t' := ⟨fun pins s σ H D I q => h.run pins s σ H D I (i D σ H q)⟩
theorem _root_.L2.PG.imp {X : Cx} {e : Expr} {t t' : TG} (h : PG X e t) (i : ∀ v σ H k, t' v σ H k → t v σ H k) : PG X e t' := ⟨fun pins s σ H v u k I r q => h.run pins s σ H v u k I r (i v σ H k q)⟩
theorem _root_.L2.Same.t {H H1 H2 : Hp} (a : Same H H1) (b : Same H1 H2) : Same H H2 := a.trans b
theorem _root_.L2.Same.r (H : Hp) : Same H H := Same.refl H

section
variable {X : Cx} {g : G} {W : WX} {pos : Pos} {a b c e : Expr} {es : List Expr} {da db dc de : DE} {dA : DA} {dt du : DT} {op : Operator}
/-! ### names and constants -/
def dVar (i : Nat) : DE := fun ρ M Q _ => ∃ d, at_ ρ i = some d ∧ Q d M
def dC (d : D) : DE := fun _ M Q _ => Q d M
theorem de_var (i : Nat) {x : Str} (hN : X.N[i]? = some x := by rfl) (hv : Vis X.env.scope x := by first | exact Or.inl rfl | exact Or.inr (Or.inl rfl) | exact Or.inr (Or.inr rfl)) (hd : (x == ("__debug__" : Str)) = false := by decide)
    (hcd : (x == ("__classdict__" : Str)) = false := by decide) : PE X (.Name x pos) (liftE g W (dVar i)) :=
  (pe_var hN hv hd hcd).imp fun σ H k ⟨ρ, M, F, Q, E, S, En, ⟨d, hd, q⟩, kQ, _⟩ => by
    obtain ⟨v, hv, r⟩ := En.has i d hd
    exact ⟨v, hv, kQ d M F v H q (Same.r F) S r⟩
theorem de_c {v : V} {d : D} (h : PE X e (tC v)) (r : ∀ F, Rep g.K F v d) : PE X e (liftE g W (dC d)) :=
  h.imp fun σ H k ⟨ρ, M, F, Q, E, S, En, q, kQ, _⟩ => kQ d M F v H q (Same.r F) S (r F)
theorem de_int {i : Int} {j : Nat} : PE X (.Constant (.int i) j pos) (liftE g W (dC (.int i))) := de_c pe_int fun _ => .int i
theorem de_bl {b : Bool} {j : Nat} : PE X (.Constant (.bool b) j pos) (liftE g W (dC (.bl b))) := de_c pe_bl fun _ => .bl b
theorem de_non {j : Nat} : PE X (.Constant .none j pos) (liftE g W (dC .non)) := de_c pe_non fun _ => .non
theorem de_str {x : Str} {j : Nat} : PE X (.Constant (.str x) j pos) (liftE g W (dC (.str x))) := de_c pe_str fun _ => .str x
/-! ### a value of another form by the same step: data frozen behind an expression -/
/-- d of M may be taken as d' of M' -/
def Fz (g : G) (d : D) (M : Mem) (d' : D) (M' : Mem) : Prop := ∀ F v H, Sta g F M H → Rep g.K F v d → ∃ F', Same F F' ∧ Sta g F' M' H ∧ Rep g.K F' v d'
theorem Fz.refl (d : D) (M : Mem) : Fz g d M d M := fun F _ _ S r => ⟨F, Same.r F, S, r⟩
def frzD : MO → Option D
  | .lst ds => some (.lst ds)
  | .dic es => some (.dic es)
  | .dit es => some (.dit es)
  | .obj C es => some (.obj C es)
  | _ => none
theorem rep_frz {K : PySem.W.Frag} {F : Hp} {p : Addr} {o : HO} {m : MO} {d : D} (h : frzD m = some d) (r : RepM K F p o m) (e : F p = some o) : Rep K F (.ref p) d := by
  cases m with
  | lst ds => cases h; obtain ⟨xs, rfl, r⟩ := r; exact .lst e r
  | dic es => cases h; obtain ⟨xs, rfl, l, r⟩ := r; exact .dic e l r
  | dit es => cases h; obtain ⟨xs, rfl, vs, l, r1, rv, r2⟩ := r; exact .dit e l r1 rv r2
  | obj C es => cases h; obtain ⟨dx, xs, rfl, l, r⟩ := r; exact .obj e l r
  | xd es => cases h
  | exd _ es => cases h
  | raw u => cases h
/-- what stands at p may be taken as the data itself -/
theorem Fz.one {p : Addr} {m : MO} {d : D} {M M' : Mem} (u : Del p m M M') (h : frzD m = some d) : Fz g (.ptr p) M d M' := fun F v H S r => by
  cases r
  obtain ⟨hF, o, ho, rm⟩ := S.mem p m u.old
  obtain ⟨s, S'⟩ := S.frz u ho
  exact ⟨_, s, S', rep_frz h (rm.mono s) upd_same⟩
/-! ### operators by values -/
abbrev DR2 := D → D → Mem → (D → Mem → Prop) → Prop
def liftR (g : G) (r : DR2) : R2 := fun x y H k => ∃ F M d e Q, Sta g F M H ∧ Rep g.K F x d ∧ Rep g.K F y e ∧ r d e M Q ∧ ∀ d' M' F' v H', Q d' M' → Same F F' → Sta g F' M' H' → Rep g.K F' v d' → k v H'
def OpD (X : Cx) (g : G) (f : Value → Value → Sem Value) (r : DR2) : Prop := OpR X f (liftR g r)
def dOp (r : DR2) (da db : DE) : DE := fun ρ M Q E => da ρ M (fun d M1 => db ρ M1 (fun e M2 => r d e M2 Q) E) E
theorem lift_op {r : DR2} {σ : L2.St} {H : Hp} {k : VK} (h : liftE g W (dOp r da db) σ H k) : tOp (liftR g r) (liftE g W da) (liftE g W db) σ H k := by
  obtain ⟨ρ, M, F, Q, E, S, En, q, kQ, kE⟩ := h
  refine ⟨ρ, M, F, _, E, S, En, q, fun d M1 F1 v H1 q1 s1 S1 r1 => ?_, kE⟩
  refine ⟨ρ, M1, F1, _, E, S1, En.mono s1, q1, fun e M2 F2 u H2 q2 s2 S2 r2 => ?_, fun C dd M' F' H' z s S' => kE C dd M' F' H' z (s1.t s) S'⟩
  exact ⟨F2, M2, d, e, Q, S2, r1.mono s2, r2, q2, fun d' M' F' w H' z s S' r => kQ d' M' F' w H' z ((s1.t s2).t s) S' r⟩
theorem de_op {r : DR2} (ho : OpD X g (binaryOp op) r) (ha : PE X a (liftE g W da)) (hb : PE X b (liftE g W db)) : PE X (.BinOp a op b pos) (liftE g W (dOp r da db)) :=
  (pe_op ho ha hb).imp fun _ _ _ h => lift_op h
theorem de_cmp {r : DR2} {cop : CmpOp} (ho : OpD X g (compareOp cop) r) (ha : PE X a (liftE g W da)) (hb : PE X b (liftE g W db)) (hm : behindInMarks cop b = false) : PE X (.Compare a [cop] [b] pos) (liftE g W (dOp r da db)) :=
  (pe_cmpR ho ha hb hm).imp fun _ _ _ h => lift_op h
theorem dt_cmp {r : DR2} {cop : CmpOp} (ho : OpD X g (compareOp cop) r) (ha : PE X a (liftE g W da)) (hb : PE X b (liftE g W db)) (hm : behindInMarks cop b = false) :
    PT X (.Compare a [cop] [b] pos) (liftT g W (fun ρ M Q E => dOp r da db ρ M (fun d M' => ∃ k, d = .bl k ∧ Q k M') E)) :=
  (pt_cmpR ho ha hb hm).imp fun σ H k ⟨ρ, M, F, Q, E, S, En, q, kQ, kE⟩ => lift_op (W := W) ⟨ρ, M, F, _, E, S, En, q, fun d M' F' v H' ⟨b, e, z⟩ s S' r => by
    subst e
    cases r
    exact ⟨b, rfl, kQ b M' F' H' z s S'⟩, kE⟩

/-! ### tests -/
/-- an expression that gives a bool, as a test -/
def dB (de : DE) : DT := fun ρ M Q E => de ρ M (fun d M' => ∃ k, d = .bl k ∧ Q k M') E
theorem dt_val (h : PE X e (liftE g W de)) (he : ∀ whole, isTrue e X.env whole = (do let v ← whole; standAt e.pos; holding [v] (truthy v)) := by intro _; rfl) : PT X e (liftT g W (dB de)) :=
  (pt_val h he).imp fun σ H k ⟨ρ, M, F, Q, E, S, En, q, kQ, kE⟩ => ⟨ρ, M, F, _, E, S, En, q, fun d M' F' v H' ⟨b, e, z⟩ s S' r => by
    subst e
    cases r
    exact ⟨b, rfl, kQ b M' F' H' z s S'⟩, kE⟩
def dAnd (dt du : DT) : DT := fun ρ M Q E => dt ρ M (fun c M1 => if c = true then du ρ M1 Q E else Q false M1) E
def dOr (dt du : DT) : DT := fun ρ M Q E => dt ρ M (fun c M1 => if c = true then Q true M1 else du ρ M1 Q E) E
def dNot (dt : DT) : DT := fun ρ M Q E => dt ρ M (fun c M1 => Q (!c) M1) E
theorem dt_not (h : PT X a (liftT g W dt)) : PT X (.UnaryOp .Not a pos) (liftT g W (dNot dt)) :=
  (pt_not h).imp fun σ H k ⟨ρ, M, F, Q, E, S, En, q, kQ, kE⟩ => ⟨ρ, M, F, _, E, S, En, q, fun b M' F' H' z s S' => kQ _ M' F' H' z s S', kE⟩
structure PWd (X : Cx) (g : G) (W : WX) (e : Expr) (dt : DT) : Prop where
  pw : PW X e (liftT g W dt)
theorem _root_.L2.PW.imp {X : Cx} {e : Expr} {t t' : TT} (h : PW X e t) (i : ∀ σ H k, t' σ H k → t σ H k) : PW X e t' := ⟨fun w pins s σ H k I q => h.run w pins s σ H k I (i σ H k q)⟩
theorem dw_and1 (ha : PT X a (liftT g W dt)) : PWd X g W (.BoolOp .And [a] pos) dt := ⟨pw_and1 ha⟩
theorem dw_or1 (ha : PT X a (liftT g W dt)) : PWd X g W (.BoolOp .Or [a] pos) dt := ⟨pw_or1 ha⟩
theorem dw_and (ha : PT X a (liftT g W dt)) (hb : PWd X g W (.BoolOp .And (b :: es) pos) du) : PWd X g W (.BoolOp .And (a :: b :: es) pos) (dAnd dt du) :=
  ⟨(pw_and ha hb.pw).imp fun σ H k ⟨ρ, M, F, Q, E, S, En, q, kQ, kE⟩ => ⟨ρ, M, F, _, E, S, En, q, fun c M' F' H' z s S' => by
    cases c with
    | true =>
      rw [if_pos rfl] at z ⊢
      exact ⟨ρ, M', F', Q, E, S', En.mono s, z, fun b M2 F2 H2 q2 s2 S2 => kQ b M2 F2 H2 q2 (s.t s2) S2, fun C dd M2 F2 H2 q2 s2 S2 => kE C dd M2 F2 H2 q2 (s.t s2) S2⟩
    | false =>
      rw [if_neg Bool.false_ne_true] at z ⊢
      exact kQ false M' F' H' z s S', kE⟩⟩
theorem dw_or (ha : PT X a (liftT g W dt)) (hb : PWd X g W (.BoolOp .Or (b :: es) pos) du) : PWd X g W (.BoolOp .Or (a :: b :: es) pos) (dOr dt du) :=
  ⟨(pw_or ha hb.pw).imp fun σ H k ⟨ρ, M, F, Q, E, S, En, q, kQ, kE⟩ => ⟨ρ, M, F, _, E, S, En, q, fun c M' F' H' z s S' => by
    cases c with
    | true =>
      rw [if_pos rfl] at z ⊢
      exact kQ true M' F' H' z s S'
    | false =>
      rw [if_neg Bool.false_ne_true] at z ⊢
      exact ⟨ρ, M', F', Q, E, S', En.mono s, z, fun b M2 F2 H2 q2 s2 S2 => kQ b M2 F2 H2 q2 (s.t s2) S2, fun C dd M2 F2 H2 q2 s2 S2 => kE C dd M2 F2 H2 q2 (s.t s2) S2⟩, kE⟩⟩
theorem dt_w (h : PWd X g W e dt) : PT X e (liftT g W dt) := h.pw.pt
/-- and, or, not of bools as values -/
def dAndV (da db : DE) : DE := fun ρ M Q E => da ρ M (fun d M1 => ∃ c, d = .bl c ∧ if c = true then db ρ M1 Q E else Q (.bl false) M1) E
def dNotV (da : DE) : DE := fun ρ M Q E => da ρ M (fun d M1 => ∃ c, d = .bl c ∧ Q (.bl (!c)) M1) E
theorem de_one {bop : BoolOp} (h : PE X a (liftE g W da)) : PE X (.BoolOp bop [a] pos) (liftE g W da) := pe_one h
theorem de_and (ha : PE X a (liftE g W da)) (hb : PE X (.BoolOp .And (b :: es) pos) (liftE g W db)) : PE X (.BoolOp .And (a :: b :: es) pos) (liftE g W (dAndV da db)) :=
  (pe_and ha hb).imp fun σ H k ⟨ρ, M, F, Q, E, S, En, q, kQ, kE⟩ => ⟨ρ, M, F, _, E, S, En, q, fun d M' F' v H' ⟨c, ec, z⟩ s S' r => by
    subst ec
    cases r
    refine ⟨c, rfl, ?_⟩
    cases c with
    | true =>
      rw [if_pos rfl] at z ⊢
      exact ⟨ρ, M', F', Q, E, S', En.mono s, z, fun b M2 F2 v2 H2 q2 s2 S2 => kQ b M2 F2 v2 H2 q2 (s.t s2) S2, fun C dd M2 F2 H2 q2 s2 S2 => kE C dd M2 F2 H2 q2 (s.t s2) S2⟩
    | false =>
      rw [if_neg Bool.false_ne_true] at z ⊢
      exact kQ _ M' F' _ H' z s S' (.bl false), kE⟩
theorem de_not (ha : PE X a (liftE g W da)) : PE X (.UnaryOp .Not a pos) (liftE g W (dNotV da)) :=
  (pe_not ha).imp fun σ H k ⟨ρ, M, F, Q, E, S, En, q, kQ, kE⟩ => ⟨ρ, M, F, _, E, S, En, q, fun d M' F' v H' ⟨c, ec, z⟩ s S' r => by
    subst ec
    cases r
    exact ⟨c, rfl, kQ _ M' F' _ H' z s S' (.bl _)⟩, kE⟩
def dIf (dt : DT) (da db : DE) : DE := fun ρ M Q E => dt ρ M (fun c M1 => if c = true then da ρ M1 Q E else db ρ M1 Q E) E
theorem de_if {t : Expr} (ht : PT X t (liftT g W dt)) (ha : PE X a (liftE g W da)) (hb : PE X b (liftE g W db)) : PE X (.IfExp t a b pos) (liftE g W (dIf dt da db)) :=
  (pe_ifExp ht ha hb).imp fun σ H k ⟨ρ, M, F, Q, E, S, En, q, kQ, kE⟩ => ⟨ρ, M, F, _, E, S, En, q, fun c M' F' H' z s S' => by
    cases c with
    | true =>
      rw [if_pos rfl] at z ⊢
      exact ⟨ρ, M', F', Q, E, S', En.mono s, z, fun b M2 F2 v2 H2 q2 s2 S2 => kQ b M2 F2 v2 H2 q2 (s.t s2) S2, fun C dd M2 F2 H2 q2 s2 S2 => kE C dd M2 F2 H2 q2 (s.t s2) S2⟩
    | false =>
      rw [if_neg Bool.false_ne_true] at z ⊢
      exact ⟨ρ, M', F', Q, E, S', En.mono s, z, fun b M2 F2 v2 H2 q2 s2 S2 => kQ b M2 F2 v2 H2 q2 (s.t s2) S2, fun C dd M2 F2 H2 q2 s2 S2 => kE C dd M2 F2 H2 q2 (s.t s2) S2⟩, kE⟩
/-! ### arguments, displays -/
def dNil : DA := fun _ M Q _ => Q [] M
def dCons (de : DE) (dA : DA) : DA := fun ρ M Q E => de ρ M (fun d M1 => dA ρ M1 (fun ds M2 => Q (d :: ds) M2) E) E
theorem da_nil : PA X [] (liftA g W dNil) := (pa_nil).imp fun σ H k ⟨ρ, M, F, Q, E, S, En, q, kQ, kE⟩ => kQ [] M F [] H q (Same.r F) S .nil
theorem da_cons (ha : PE X e (liftE g W de)) (hr : PA X es (liftA g W dA)) (hs : starEach (e :: es) X.env = (false, eval e X.env) :: starEach es X.env := by rfl) : PA X (e :: es) (liftA g W (dCons de dA)) :=
  (pa_cons ha hr hs).imp fun σ H k ⟨ρ, M, F, Q, E, S, En, q, kQ, kE⟩ => ⟨ρ, M, F, _, E, S, En, q, fun d M1 F1 v H1 q1 s1 S1 r1 =>
    ⟨ρ, M1, F1, _, E, S1, En.mono s1, q1, fun ds M2 F2 vs H2 q2 s2 S2 r2 => kQ _ M2 F2 _ H2 q2 (s1.t s2) S2 (.cons (r1.mono s2) r2), fun C dd M2 F2 H2 q2 s2 S2 => kE C dd M2 F2 H2 q2 (s1.t s2) S2⟩, kE⟩
/-- (a, b, ..) -/
def dTup (dA : DA) : DE := fun ρ M Q E => dA ρ M (fun ds M' => ds.length ≤ sizeLine ∧ Q (.tup ds) M') E
theorem de_tup {x1} (h : PA X es (liftA g W dA)) : PE X (.Tuple es x1 pos) (liftE g W (dTup dA)) :=
  (pe_tup h).imp fun σ H k ⟨ρ, M, F, Q, E, S, En, q, kQ, kE⟩ => ⟨ρ, M, F, _, E, S, En, q, fun ds M1 F1 vs H1 ⟨hz, q1⟩ s1 S1 r1 => ⟨by rw [r1.length]; exact hz, fun p hp => by
    obtain ⟨s, S'⟩ := S1.newF (o := .tup vs) hp
    exact kQ _ M1 _ _ _ q1 (s1.t s) S' (.tup upd_same (r1.mono s))⟩, kE⟩
/-- a new list: frozen, or one that may change -/
def NewL (ds : List D) (M : Mem) (Q : D → Mem → Prop) : Prop := Q (.lst ds) M ∨ ∀ p, (∀ m, (p, m) ∉ M) → Q (.ptr p) ((p, .lst ds) :: M)
theorem NewL.to {ds : List D} {M : Mem} {Q : D → Mem → Prop} {F : Hp} {H : Hp} {xs : List V} {p : Addr} {k : Prop} (n : NewL ds M Q) (S : Sta g F M H) (hp : H p = none) (r : Reps g.K F xs ds)
    (h : ∀ d M' F', Q d M' → Same F F' → Sta g F' M' (upd H p (.lst xs)) → Rep g.K F' (.ref p) d → k) : k := by
  rcases n with q | q
  · obtain ⟨s, S'⟩ := S.newF (o := .lst xs) hp
    exact h _ _ _ q s S' (.lst upd_same (r.mono s))
  · exact h _ _ _ (q p (S.fresh hp)) (Same.r F) (S.newM (m := .lst ds) hp ⟨xs, rfl, r⟩) (.ptr p)
def dLst (dA : DA) : DE := fun ρ M Q E => dA ρ M (fun ds M' => ds.length ≤ sizeLine ∧ NewL ds M' Q) E
theorem de_lst (h : PA X es (liftA g W dA)) : PE X (.List es pos) (liftE g W (dLst dA)) :=
  (pe_lst h).imp fun σ H k ⟨ρ, M, F, Q, E, S, En, q, kQ, kE⟩ => ⟨ρ, M, F, _, E, S, En, q, fun ds M1 F1 vs H1 ⟨hz, q1⟩ s1 S1 r1 => ⟨by rw [r1.length]; exact hz, fun p hp =>
    q1.to S1 hp r1 fun d M' F' z s S' r => kQ d M' F' _ _ z (s1.t s) S' r⟩, kE⟩
end
end DL
namespace DL
variable [Wd]
open PySem L2
section
variable {X : Cx} {g : G} {W : WX} {pos : Pos} {a b c e : Expr} {es : List Expr} {da db dc de : DE} {dA : DA} {dt : DT} {ds du : DS} {dg : DG} {op : Operator} {st : Stmt} {sts body : List Stmt}
/-! ### statements -/
def sNext : DS := fun nx _ _ _ _ ρ M => nx ρ M
def sSeq (t u : DS) : DS := fun nx rt bk ct ex ρ M => t (u nx rt bk ct ex) rt bk ct ex ρ M
def sDrop (de : DE) : DS := fun nx _ _ _ ex ρ M => de ρ M (fun _ M' => nx ρ M') (fun C dd M' => ex C dd ρ M')
def sRet (de : DE) : DS := fun _ rt _ _ ex ρ M => de ρ M rt (fun C dd M' => ex C dd ρ M')
def sIf (dt : DT) (t u : DS) : DS := fun nx rt bk ct ex ρ M => dt ρ M (fun c M1 => if c = true then t nx rt bk ct ex ρ M1 else u nx rt bk ct ex ρ M1) (fun C dd M' => ex C dd ρ M')
def sCont : DS := fun _ _ _ ct _ ρ M => ct ρ M
def sAsg (de : DE) (dg : DG) : DS := fun nx _ _ _ ex ρ M => de ρ M (fun d M1 => dg d ρ M1 nx) (fun C dd M' => ex C dd ρ M')
theorem ds_next (h : PS X st tNext) : PS X st (liftS g W sNext) := h.imp fun D σ H ⟨ρ, M, F, nx, rt, bk, ct, ex, S, En, q, k1, k2, k3, k4, k5⟩ => k1 ρ M F σ H q (Same.r F) S En
theorem ds_cont : PS X (.Continue pos) (liftS g W sCont) := ps_continue.imp fun D σ H ⟨ρ, M, F, nx, rt, bk, ct, ex, S, En, q, k1, k2, k3, k4, k5⟩ => k4 ρ M F σ H q (Same.r F) S En
theorem dss_nil : PSs X [] (liftS g W sNext) := pss_nil.imp fun D σ H ⟨ρ, M, F, nx, rt, bk, ct, ex, S, En, q, k1, k2, k3, k4, k5⟩ => k1 ρ M F σ H q (Same.r F) S En
theorem dss_one (h : PS X st (liftS g W ds)) : PSs X [st] (liftS g W ds) := pss_one h
theorem dss_cons (h : PS X st (liftS g W ds)) (h2 : PSs X sts (liftS g W du)) : PSs X (st :: sts) (liftS g W (sSeq ds du)) :=
  (pss_cons h h2).imp fun D σ H ⟨ρ, M, F, nx, rt, bk, ct, ex, S, En, q, k1, k2, k3, k4, k5⟩ =>
    ⟨ρ, M, F, _, rt, bk, ct, ex, S, En, q, fun ρ' M' F' σ' H' q' s S' En' => ⟨ρ', M', F', nx, rt, bk, ct, ex, S', En', q', fun a1 a2 a3 a4 a5 a6 a7 => k1 a1 a2 a3 a4 a5 a6 (s.t a7), fun a1 a2 a3 a4 a5 a6 a7 => k2 a1 a2 a3 a4 a5 a6 (s.t a7),
      fun a1 a2 a3 a4 a5 a6 a7 => k3 a1 a2 a3 a4 a5 a6 (s.t a7), fun a1 a2 a3 a4 a5 a6 a7 => k4 a1 a2 a3 a4 a5 a6 (s.t a7), fun a1 a2 a3 a4 a5 a6 a7 a8 a9 => k5 a1 a2 a3 a4 a5 a6 a7 a8 (s.t a9)⟩, k2, k3, k4, k5⟩
theorem ds_expr (h : PE X e (liftE g W de)) (hs : swapsWith e none pos.line X.env = pure false := by rfl) : PS X (.Expr e pos) (liftS g W (sDrop de)) :=
  (ps_expr h hs).imp fun D σ H ⟨ρ, M, F, nx, rt, bk, ct, ex, S, En, q, k1, k2, k3, k4, k5⟩ =>
    ⟨ρ, M, F, _, _, S, En, q, fun d M' F' v H' z s S' _ => k1 ρ M' F' σ H' z s S' (En.mono s), fun C dd M' F' H' z s S' => k5 C dd ρ M' F' σ H' z s S' (En.mono s)⟩
theorem ds_ret (h : PE X e (liftE g W de)) : PS X (.Return (some e) pos) (liftS g W (sRet de)) :=
  (ps_ret h).imp fun D σ H ⟨ρ, M, F, nx, rt, bk, ct, ex, S, En, q, k1, k2, k3, k4, k5⟩ =>
    ⟨ρ, M, F, _, _, S, En, q, k2, fun C dd M' F' H' z s S' => k5 C dd ρ M' F' σ H' z s S' (En.mono s)⟩
theorem liftS_ite {t u : DS} {D : Ends} {σ : L2.St} {H : Hp} {c : Bool} {ρ : Rho} {M : Mem} {F : Hp} {nx rt bk ct ex} (S : Sta g F M H) (En : Enr g.K F σ ρ)
    (q : if c = true then t nx rt bk ct ex ρ M else u nx rt bk ct ex ρ M)
    (k1 : ∀ ρ' M' F' σ' H', nx ρ' M' → Same F F' → Sta g F' M' H' → Enr g.K F' σ' ρ' → D.nx σ' H') (k2 : ∀ d M' F' v H', rt d M' → Same F F' → Sta g F' M' H' → Rep g.K F' v d → D.rt v H')
    (k3 : ∀ ρ' M' F' σ' H', bk ρ' M' → Same F F' → Sta g F' M' H' → Enr g.K F' σ' ρ' → D.bk σ' H') (k4 : ∀ ρ' M' F' σ' H', ct ρ' M' → Same F F' → Sta g F' M' H' → Enr g.K F' σ' ρ' → D.ct σ' H')
    (k5 : ∀ C dd ρ' M' F' σ' H', ex C dd ρ' M' → Same F F' → Sta g F' M' H' → Enr g.K F' σ' ρ' → W (.ref C) (some dd) σ' H') :
    if c = true then liftS g W t D σ H else liftS g W u D σ H := by
  cases c with
  | true =>
    rw [if_pos rfl] at q ⊢
    exact ⟨ρ, M, F, nx, rt, bk, ct, ex, S, En, q, k1, k2, k3, k4, k5⟩
  | false =>
    rw [if_neg Bool.false_ne_true] at q ⊢
    exact ⟨ρ, M, F, nx, rt, bk, ct, ex, S, En, q, k1, k2, k3, k4, k5⟩
theorem ds_if {x y : List Stmt} (hc : PT X c (liftT g W dt)) (ht : PSs X x (liftS g W ds)) (hu : PSs X y (liftS g W du)) : PS X (.If c x y pos) (liftS g W (sIf dt ds du)) :=
  (ps_if hc ht hu).imp fun D σ H ⟨ρ, M, F, nx, rt, bk, ct, ex, S, En, q, k1, k2, k3, k4, k5⟩ =>
    ⟨ρ, M, F, _, _, S, En, q, fun c M' F' H' z s S' => liftS_ite S' (En.mono s) z (fun a1 a2 a3 a4 a5 a6 a7 => k1 a1 a2 a3 a4 a5 a6 (s.t a7)) (fun a1 a2 a3 a4 a5 a6 a7 => k2 a1 a2 a3 a4 a5 a6 (s.t a7))
      (fun a1 a2 a3 a4 a5 a6 a7 => k3 a1 a2 a3 a4 a5 a6 (s.t a7)) (fun a1 a2 a3 a4 a5 a6 a7 => k4 a1 a2 a3 a4 a5 a6 (s.t a7)) (fun a1 a2 a3 a4 a5 a6 a7 a8 a9 => k5 a1 a2 a3 a4 a5 a6 a7 a8 (s.t a9)),
      fun C dd M' F' H' z s S' => k5 C dd ρ M' F' σ H' z s S' (En.mono s)⟩

/-! ### targets -/
def gNm (i : Nat) : DG := fun d ρ M Q => Q (put ρ i (some d)) M
theorem dg_name {i : Nat} {x : Str} (hN : X.N.Nodup) (hi : X.N[i]? = some x) (hx : Loc X.env.scope x) (hf : X.fn x = true ∨ X.env.scope.names.lookup x = some .local := by first | exact .inl rfl | exact .inr rfl | assumption) : PG X (.Name x pos) (liftG g (gNm i)) :=
  (pg_name hN hi hx hf).imp fun v σ H k ⟨ρ, M, F, d, Q, S, En, r, q, kQ⟩ => kQ _ M F _ H q (Same.r F) S (En.set i r)
abbrev DGs := List D → Rho → Mem → NX → Prop
def liftGs (g : G) (dg : DGs) : TGs := fun vs σ H k => ∃ ρ M F ds Q, Sta g F M H ∧ Enr g.K F σ ρ ∧ Reps g.K F vs ds ∧ dg ds ρ M Q ∧ (∀ ρ' M' F' σ' H', Q ρ' M' → Same F F' → Sta g F' M' H' → Enr g.K F' σ' ρ' → k σ' H')
def gsNil : DGs := fun ds ρ M Q => ds = [] ∧ Q ρ M
def gsCons (t : DG) (u : DGs) : DGs := fun ds ρ M Q => ∃ d r, ds = d :: r ∧ t d ρ M (fun ρ' M' => u r ρ' M' Q)
theorem _root_.L2.PGs.imp {X : Cx} {ts : List Expr} {t t' : TGs} (h : PGs X ts t) (i : ∀ vs σ H k, t' vs σ H k → t vs σ H k) : PGs X ts t' := ⟨fun pins s σ H v u k I r q => h.run pins s σ H v u k I r (i v σ H k q)⟩
theorem dgs_nil : PGs X [] (liftGs g gsNil) := pgs_nil.imp fun vs σ H k ⟨ρ, M, F, ds, Q, S, En, r, ⟨e, q⟩, kQ⟩ => by
  subst e
  cases r
  exact ⟨rfl, kQ ρ M F σ H q (Same.r F) S En⟩
theorem dgs_cons {dgs : DGs} (h1 : PG X e (liftG g dg)) (h2 : PGs X es (liftGs g dgs)) (hs : (assignEach (e :: es) X.env).map (·.2) = assign e X.env :: (assignEach es X.env).map (·.2) := by rfl) : PGs X (e :: es) (liftGs g (gsCons dg dgs)) :=
  (pgs_cons h1 h2 hs).imp fun vs σ H k ⟨ρ, M, F, ds, Q, S, En, r, ⟨d, ds', e, q⟩, kQ⟩ => by
    subst e
    cases r with
    | cons r1 r2 =>
      exact ⟨_, _, rfl, ρ, M, F, d, _, S, En, r1, q, fun ρ' M' F' σ' H' z s S' En' => ⟨ρ', M', F', ds', Q, S', En', r2.mono s, z, fun a1 a2 a3 a4 a5 a6 a7 => kQ a1 a2 a3 a4 a5 a6 (s.t a7)⟩⟩
def gTp (n : Nat) (t : DGs) : DG := fun d ρ M Q => ∃ ds, d = .tup ds ∧ ds.length = n ∧ t ds ρ M Q
theorem dg_tup {k n : Nat} {dgs : DGs} (hc : X.calm = true) (hK : g.K = X.K) (h : PGs X es (liftGs g dgs)) (hn : (assignEach es X.env).length = n := by rfl) (hst : (assignEach es X.env).findIdx? (·.1) = none := by rfl) : PG X (.Tuple es k pos) (liftG g (gTp n dgs)) :=
  (pg_tup hc h hn hst).imp fun v σ H k ⟨ρ, M, F, d, Q, S, En, r, ⟨ds, e, hl, q⟩, kQ⟩ => by
    subst e
    cases r with
    | tup hs r => exact ⟨_, _, rfl, by rw [← hK]; exact S.sub.sqT hs, by rw [r.length]; exact hl, ρ, M, F, ds, Q, S, En, r, q, kQ⟩
theorem ds_asg {tg : Expr} (he : PE X e (liftE g W de)) (hg : PG X tg (liftG g dg)) (hs : swapsWithSole [tg] e pos.line X.env = pure false := by rfl) (hw : swappedStores [tg] e X.env = pure none := by rfl)
    (h1 : (assignEach [tg] X.env).map (·.2) = [assign tg X.env] := by rfl) : PS X (.Assign [tg] e pos) (liftS g W (sAsg de dg)) :=
  (ps_asg he hg hs hw h1).imp fun D σ H ⟨ρ, M, F, nx, rt, bk, ct, ex, S, En, q, k1, k2, k3, k4, k5⟩ =>
    ⟨ρ, M, F, _, _, S, En, q, fun d M' F' v H' z s S' r => ⟨ρ, M', F', d, nx, S', En.mono s, r, z, fun a1 a2 a3 a4 a5 a6 a7 => k1 a1 a2 a3 a4 a5 a6 (s.t a7)⟩, fun C dd M' F' H' z s S' => k5 C dd ρ M' F' σ H' z s S' (En.mono s)⟩
theorem ds_set {i : Nat} {x : Str} {pos' : Pos} (hN : X.N.Nodup) (hi : X.N[i]? = some x) (hx : Loc X.env.scope x) (he : PE X e (liftE g W de)) (hs : swapsWith e (some (.Name x pos')) pos.line X.env = pure false := by rfl)
    (hf : X.fn x = true ∨ X.env.scope.names.lookup x = some .local := by first | exact .inl rfl | exact .inr rfl | assumption) : PS X (.Assign [.Name x pos'] e pos) (liftS g W (sAsg de (gNm i))) :=
  (ps_set hN hi hx he hs hf).imp fun D σ H ⟨ρ, M, F, nx, rt, bk, ct, ex, S, En, q, k1, k2, k3, k4, k5⟩ =>
    ⟨ρ, M, F, _, _, S, En, q, fun d M' F' v H' z s S' r => k1 _ M' F' _ H' z s S' ((En.mono s).set i r), fun C dd M' F' H' z s S' => k5 C dd ρ M' F' σ H' z s S' (En.mono s)⟩
/-! ### what a loop walks -/
abbrev DI := Rho → Mem → (List D → (Mem → Prop) → Mem → Prop) → XD → Prop
def noH : Hp := fun _ => none
theorem same_no {U : Hp} : Same noH U := fun _ _ e => nomatch e
/-- J yields ds one after the other, as long as st holds -/
structure Yields (K : PySem.W.Frag) (V : Hp) (J : It) (F1 : Hp) (ds : List D) (st : Mem → Prop) : Prop where
  pl : ∀ b o, V b = some o → ∃ z u, o = HO.frz z u
  go : ∀ (i : Nat) (d : D) (U F : Hp) (M : Mem) (H : Hp), Same V U → Same F1 F → Sta ⟨K, U⟩ F M H → st M → ds[i]? = some d → J.go i H ∧ ∀ x H', J.yld i H x H' → ∃ F', Same F F' ∧ Sta ⟨K, U⟩ F' M H' ∧ Rep K F' x d
  stop : ∀ (i : Nat) (U F : Hp) (M : Mem) (H : Hp), Same V U → Same F1 F → Sta ⟨K, U⟩ F M H → st M → ds.length ≤ i → J.stop i H
def liftI (g : G) (W : WX) (di : DI) : TI := fun σ H R => ∃ ρ M F Q E, Sta g F M H ∧ Enr g.K F σ ρ ∧ di ρ M Q E ∧
  (∀ ds st M' U' V F' J H', Q ds st M' → Same g.U U' → Same V U' → Same F F' → Sta ⟨g.K, U'⟩ F' M' H' → Yields g.K V J F' ds st → R J H') ∧ (∀ C dd M' F' H', E C dd M' → Same F F' → Sta g F' M' H' → W (.ref C) (some dd) σ H')
theorem _root_.L2.PI.imp {X : Cx} {tg e : Expr} {t t' : TI} (h : PI X tg e t) (i : ∀ σ H k, t' σ H k → t σ H k) : PI X tg e t' := ⟨fun pins s σ H R I q => h.run pins s σ H R I (i σ H R q)⟩
/-- the items of a list: of a frozen one, or of one that stands in M -/
inductive IsL (M : Mem) : D → List D → (Mem → Prop) → Prop
  | lst (ds : List D) : IsL M (.lst ds) ds fun _ => True
  | rol (ds : List D) : IsL M (.rol ds) ds fun _ => True
  | ptr {p : Addr} {ds : List D} : (p, .lst ds) ∈ M → IsL M (.ptr p) ds fun M' => (p, .lst ds) ∈ M'
theorem IsL.sq {F : Hp} {M : Mem} {H : Hp} {v : V} {d : D} {ds : List D} {st : Mem → Prop} (h : IsL M d ds st) (S : Sta g F M H) (r : Rep g.K F v d) :
    ∃ a xs, v = .ref a ∧ SqL g.K H a xs ∧ Reps g.K F xs ds ∧ ∀ U F' M' H', Same F F' → Sta ⟨g.K, U⟩ F' M' H' → st M' → ∃ ys, SqL g.K H' a ys ∧ Reps g.K F' ys ds := by
  cases h with
  | lst => cases r with | lst e r => exact ⟨_, _, rfl, .of (S.sub.lst e), r, fun U F' M' H' s S' _ => ⟨_, .of (S'.sub.lst (s _ _ e)), r.mono s⟩⟩
  | rol => cases r with | rol e r => exact ⟨_, _, rfl, S.sub.sqL e, r, fun U F' M' H' s S' _ => ⟨_, S'.sub.sqL (s.seq e), r.mono s⟩⟩
  | ptr h =>
    cases r
    obtain ⟨_, o, ho, xs, rfl, r⟩ := S.mem _ _ h
    refine ⟨_, xs, rfl, .of ho, r, fun U F' M' H' s S' h' => ?_⟩
    obtain ⟨_, o', ho', ys, rfl, r'⟩ := S'.mem _ _ h'
    exact ⟨ys, .of ho', r'⟩
theorem yields_list {F : Hp} {a : Addr} {ds : List D} {st : Mem → Prop} (hK : g.K = X.K) (hr : ∀ U F' M' H', Same F F' → Sta ⟨g.K, U⟩ F' M' H' → st M' → ∃ ys, SqL g.K H' a ys ∧ Reps g.K F' ys ds) : Yields g.K noH (Itl X.K a) F ds st := by
  refine ⟨fun _ _ e => (nomatch e), fun i d U F' M H _ s S h e => ?_, fun i U F' M H _ s S h e => ?_⟩
  · obtain ⟨ys, hq, r⟩ := hr U F' M H s S h
    obtain ⟨v, hv, rv⟩ := r.get e
    refine ⟨⟨ys, v, by rw [← hK]; exact hq, hv⟩, fun x H' ⟨eH, y⟩ => ?_⟩
    subst eH
    have y' := y ys (by rw [← hK]; exact hq)
    rw [hv] at y'
    cases y'
    exact ⟨F', Same.r F', S, rv⟩
  · obtain ⟨ys, hq, r⟩ := hr U F' M H s S h
    exact ⟨ys, by rw [← hK]; exact hq, by rw [r.length]; exact e⟩
/-- over a tuple -/
def iTp (de : DE) : DI := fun ρ M Q E => de ρ M (fun d M' => ∃ ds, d = .tup ds ∧ Q ds (fun _ => True) M') E
theorem di_tup {tg : Expr} (hK : g.K = X.K) (h : PE X e (liftE g W de)) : PI X tg e (liftI g W (iTp de)) :=
  (pi_tup h).imp fun σ H k ⟨ρ, M, F, Q, E, S, En, q, kQ, kE⟩ => ⟨ρ, M, F, _, E, S, En, q, fun d M' F' v H' ⟨ds, ed, z⟩ s S' r => by
    subst ed
    cases r with
    | tup hs r =>
      refine ⟨_, rfl, ⟨_, by rw [← hK]; exact S'.sub.sqT hs⟩, kQ ds _ M' g.U noH F' _ H' z (Same.r _) same_no s S' ⟨fun _ _ e => (nomatch e), fun i d U F2 M2 H2 _ s2 S2 _ e => ?_, fun i U F2 M2 H2 _ s2 S2 _ e => ?_⟩⟩
      · obtain ⟨v, hv, rv⟩ := r.get e
        refine ⟨⟨_, v, by rw [← hK]; exact S2.sub.sqT (sqT_mono s2 hs), hv⟩, fun x H3 ⟨eH, y⟩ => ?_⟩
        subst eH
        have y' := y _ (by rw [← hK]; exact S2.sub.sqT (sqT_mono s2 hs))
        rw [hv] at y'
        cases y'
        exact ⟨F2, Same.r F2, S2, rv.mono s2⟩
      · exact ⟨_, by rw [← hK]; exact S2.sub.sqT (sqT_mono s2 hs), by rw [r.length]; exact e⟩, kE⟩
/-- range -/
def rng (lo : Int) (n : Nat) : List D := (List.range n).map fun (i : Nat) => D.int (lo + (i : Int))
theorem yields_rng {K : PySem.W.Frag} {F : Hp} {lo : Int} {n : Nat} : Yields K noH (Itr lo n) F (rng lo n) fun _ => True := by
  refine ⟨fun _ _ e => (nomatch e), fun i d U F' M H _ s S _ e => ?_, fun i U F' M H _ s S _ e => ?_⟩
  · unfold rng at e
    rw [List.getElem?_map] at e
    by_cases h : i < n
    · rw [List.getElem?_range h] at e
      cases e
      refine ⟨h, fun x H' ⟨eH, ex⟩ => ?_⟩
      subst eH ex
      exact ⟨F', Same.r F', S, .int _⟩
    · rw [List.getElem?_eq_none (by rw [List.length_range]; omega)] at e
      cases e
  · unfold rng at e
    rw [List.length_map, List.length_range] at e
    exact e
def iRg1 (dA : DA) : DI := fun ρ M Q E => dA ρ M (fun ds M' => ∃ j : Int, ds = [.int j] ∧ -(2 ^ 62) ≤ j ∧ j < 2 ^ 62 ∧ Q (rng 0 j.toNat) (fun _ => True) M') E
theorem di_range1 {tg : Expr} {p : Pos} (hg : Gl X "range") (hm : X.mg "range" = none) (ha : PA X [a] (liftA g W dA)) (hs : starEach [a] X.env = [(false, eval a X.env)] := by rfl) : PI X tg (.Call (.Name "range" p) [a] [] pos) (liftI g W (iRg1 dA)) :=
  (pi_range1 hg hm ha hs).imp fun σ H k ⟨ρ, M, F, Q, E, S, En, q, kQ, kE⟩ => ⟨ρ, M, F, _, E, S, En, q, fun ds M' F' vs H' ⟨j, e, h1, h2, z⟩ s S' r => by
    subst e
    cases r with
    | cons r1 r2 =>
      cases r2
      cases r1
      exact ⟨j, rfl, h1, h2, kQ _ _ M' g.U noH F' _ H' z (Same.r _) same_no s S' yields_rng⟩, kE⟩
/-- the turns of a loop -/
def goF (dg : DG) (body : DS) (st : Mem → Prop) (nx : NX) (rt : D → Mem → Prop) (ex : Addr → Addr → Rho → Mem → Prop) : List D → Rho → Mem → Prop
  | [], ρ, M => st M ∧ nx ρ M
  | d :: ds, ρ, M => st M ∧ dg d ρ M (fun ρ' M' => body (goF dg body st nx rt ex ds) rt nx (goF dg body st nx rt ex ds) ex ρ' M')
def sFor (di : DI) (dg : DG) (body : DS) : DS := fun nx rt _ _ ex ρ M => di ρ M (fun ds st M1 => goF dg body st nx rt ex ds ρ M1) (fun C dd M' => ex C dd ρ M')
theorem ds_for {tg iter : Expr} {di : DI} (hp : PassesOwn (model X.prog X.w) X.A X.env X.xe) (hc : X.calm = true) (hi : PI X tg iter (liftI g W di)) (hg : ∀ U, PG X tg (liftG ⟨g.K, U⟩ dg)) (hb : ∀ U, PSs X body (liftS ⟨g.K, U⟩ W ds))
    (hs : ∀ x, foldedSetIterable iter X.env x = pure x := by intro _; rfl) : PS X (.For tg iter body [] pos) (liftS g W (sFor di dg ds)) :=
  PS.imp (ps_for (g := fun v σ H k => ∃ U, liftG ⟨g.K, U⟩ dg v σ H k) (tb := fun D σ H => ∃ U, liftS ⟨g.K, U⟩ W ds D σ H) hp hc hi ⟨fun pins s σ H v u k I r ⟨U, q⟩ => (hg U).run pins s σ H v u k I r q⟩ ⟨fun pins s σ H D I ⟨U, q⟩ => (hb U).run pins s σ H D I q⟩ hs)
    fun D σ H ⟨ρ, M, F, nx, rt, bk, ct, ex, S, En, q, k1, k2, k3, k4, k5⟩ => by
    refine ⟨ρ, M, F, _, _, S, En, q, fun its st M1 U1 V F1 J H1 q1 su sv s1 S1 Y => ?_, fun C dd M' F' H' z s S' => k5 C dd ρ M' F' σ H' z s S' (En.mono s)⟩
    refine ⟨fun i m σ H => m = its.length - i ∧ i ≤ its.length ∧ ∃ ρ M F', Same F1 F' ∧ Sta ⟨g.K, U1⟩ F' M H ∧ Enr g.K F' σ ρ ∧ goF dg ds st nx rt ex (its.drop i) ρ M, ⟨_, rfl, Nat.zero_le _, ρ, M1, F1, Same.r F1, S1, En.mono s1, q1⟩, ?_⟩
    rintro i m σ2 H2 ⟨rfl, hi, ρ2, M2, F2, s2, S2, En2, q2⟩
    by_cases hlt : i < its.length
    · have e := List.drop_eq_getElem_cons hlt
      rw [e] at q2
      obtain ⟨hst, q3⟩ := q2
      obtain ⟨g1, g2⟩ := Y.go i its[i] U1 F2 M2 H2 sv s2 S2 hst (by simp [hlt])
      refine .inr ⟨g1, fun σ' H' => ∃ ρ M F', Same F1 F' ∧ Sta ⟨g.K, U1⟩ F' M H' ∧ Enr g.K F' σ' ρ ∧ goF dg ds st nx rt ex (its.drop (i + 1)) ρ M, fun σ' H' p => ⟨its.length - (i + 1), by omega, rfl, hlt, p⟩, fun x H' y => ?_⟩
      obtain ⟨F3, s3, S3, r3⟩ := g2 x H' y
      refine ⟨U1, ρ2, M2, F3, its[i], _, S3, En2.mono s3, r3, q3, fun ρ4 M4 F4 σ4 H4 q4 s4 S4 En4 => ?_⟩
      have s14 : Same F1 F4 := (s2.t s3).t s4
      have s04 : Same F F4 := s1.t s14
      exact ⟨U1, ρ4, M4, F4, _, rt, _, _, ex, S4, En4, q4, fun ρ5 M5 F5 σ5 H5 z s S' En' => ⟨ρ5, M5, F5, s14.t s, S', En', z⟩, fun a1 a2 a3 a4 a5 a6 a7 a8 => k2 a1 a2 a3 a4 a5 a6 (s04.t a7) (a8.less su),
        fun a1 a2 a3 a4 a5 a6 a7 a8 => k1 a1 a2 a3 a4 a5 a6 (s04.t a7) (a8.less su), fun ρ5 M5 F5 σ5 H5 z s S' En' => ⟨ρ5, M5, F5, s14.t s, S', En', z⟩, fun a1 a2 a3 a4 a5 a6 a7 a8 a9 a10 => k5 a1 a2 a3 a4 a5 a6 a7 a8 (s04.t a9) (a10.less su)⟩
    · have e : its.drop i = [] := List.drop_eq_nil_of_le (by omega)
      rw [e] at q2
      exact .inl ⟨Y.stop i U1 F2 M2 H2 sv s2 S2 q2.1 (by omega), k1 ρ2 M2 F2 σ2 H2 q2.2 (s1.t s2) (S2.less su) En2⟩
/-- by an invariant -/
theorem goF_inv {st : Mem → Prop} {nx : NX} {rt : D → Mem → Prop} {ex : Addr → Addr → Rho → Mem → Prop} {its : List D} (P : Nat → Rho → Mem → Prop)
    (hst : ∀ i ρ M, P i ρ M → st M) (hs : ∀ i d ρ M, its[i]? = some d → P i ρ M → ∀ (go : NX), (∀ ρ' M', P (i + 1) ρ' M' → go ρ' M') → dg d ρ M (fun ρ' M' => ds go rt nx go ex ρ' M'))
    (hd : ∀ ρ M, P its.length ρ M → nx ρ M) {ρ : Rho} {M : Mem} (h0 : P 0 ρ M) : goF dg ds st nx rt ex its ρ M := by
  have key : ∀ (n i : Nat) (ρ : Rho) (M : Mem), i + n = its.length → P i ρ M → goF dg ds st nx rt ex (its.drop i) ρ M := by
    intro n
    induction n with
    | zero =>
      intro i ρ M hi p
      have e : its.drop i = [] := List.drop_eq_nil_of_le (by omega)
      rw [e]
      have : i = its.length := by omega
      subst this
      exact ⟨hst _ _ _ p, hd _ _ p⟩
    | succ n ih =>
      intro i ρ M hi p
      have hlt : i < its.length := by omega
      rw [List.drop_eq_getElem_cons hlt]
      exact ⟨hst _ _ _ p, hs i its[i] ρ M (by simp [hlt]) p _ fun ρ' M' p' => ih (i + 1) ρ' M' (by omega) p'⟩
  have := key its.length 0 ρ M (by omega) h0
  rwa [List.drop_zero] at this
/-- while -/
def sWhile (dt : DT) (body : DS) : DS := fun nx rt _ _ ex ρ M => ∃ P : Nat → Rho → Mem → Prop, (∃ m, P m ρ M) ∧ ∀ m ρ M, P m ρ M →
  dt ρ M (fun b M1 => if b = true then body (fun ρ' M' => ∃ m', m' < m ∧ P m' ρ' M') rt nx (fun ρ' M' => ∃ m', m' < m ∧ P m' ρ' M') ex ρ M1 else nx ρ M1) (fun C dd M' => ex C dd ρ M')
theorem ds_while {c : Expr} (hp : PassesOwn (model X.prog X.w) X.A X.env X.xe) (hc : PT X c (liftT g W dt)) (hb : PSs X body (liftS g W ds)) : PS X (.While c body [] pos) (liftS g W (sWhile dt ds)) :=
  (ps_while hp hc hb).imp fun D σ H ⟨ρ, M, F, nx, rt, bk, ct, ex, S, En, ⟨P, ⟨m0, p0⟩, turn⟩, k1, k2, k3, k4, k5⟩ => by
    refine ⟨fun m σ' H' => ∃ ρ' M' F', Same F F' ∧ Sta g F' M' H' ∧ Enr g.K F' σ' ρ' ∧ P m ρ' M', ⟨m0, ρ, M, F, Same.r F, S, En, p0⟩, ?_⟩
    rintro m σ1 H1 ⟨ρ1, M1, F1, s1, S1, En1, p1⟩
    refine ⟨ρ1, M1, F1, _, _, S1, En1, turn m ρ1 M1 p1, fun b M2 F2 H2 z s2 S2 => ?_, fun C dd M' F' H' z s S' => k5 C dd ρ1 M' F' σ1 H' z (s1.t s) S' (En1.mono s)⟩
    cases b with
    | true =>
      rw [if_pos rfl] at z ⊢
      refine ⟨fun σ' H' => ∃ m', m' < m ∧ ∃ ρ' M' F', Same F F' ∧ Sta g F' M' H' ∧ Enr g.K F' σ' ρ' ∧ P m' ρ' M', fun σ' H' q => q, ?_⟩
      have s12 := s1.t s2
      exact ⟨ρ1, M2, F2, _, rt, _, _, ex, S2, En1.mono s2, z, fun ρ5 M5 F5 σ5 H5 ⟨m', hm, z⟩ s S' En' => ⟨m', hm, ρ5, M5, F5, s12.t s, S', En', z⟩, fun a1 a2 a3 a4 a5 a6 a7 => k2 a1 a2 a3 a4 a5 a6 (s12.t a7),
        fun a1 a2 a3 a4 a5 a6 a7 => k1 a1 a2 a3 a4 a5 a6 (s12.t a7), fun ρ5 M5 F5 σ5 H5 ⟨m', hm, z⟩ s S' En' => ⟨m', hm, ρ5, M5, F5, s12.t s, S', En', z⟩, fun a1 a2 a3 a4 a5 a6 a7 a8 a9 => k5 a1 a2 a3 a4 a5 a6 a7 a8 (s12.t a9)⟩
    | false =>
      rw [if_neg Bool.false_ne_true] at z ⊢
      exact k1 ρ1 M2 F2 σ1 H2 z (s1.t s2) S2 (En1.mono s2)
end
end DL
namespace DL
variable [Wd]
open PySem L2

/-! ### what is equal -/
mutual
def eqD : D → D → Bool
  | .non, .non => true
  | .bl a, .bl b => a == b
  | .bl a, .int j => (if a then 1 else 0) == j
  | .int i, .bl b => i == (if b then 1 else 0)
  | .int i, .int j => i == j
  | .str x, .str y => x == y
  | .tup xs, .tup ys => eqDs xs ys
  | .lst xs, .lst ys => eqDs xs ys
  | _, _ => false
def eqDs : List D → List D → Bool
  | [], [] => true
  | x :: xs, y :: ys => eqD x y && eqDs xs ys
  | _, _ => false
end
mutual
def pyD : D → PyData
  | .bl b => .bool b
  | .int i => .int i
  | .str x => .str x
  | .tup ds => .tuple (pyDs ds)
  | .lst ds => .list (pyDs ds)
  | _ => .none
def pyDs : List D → List PyData
  | [] => []
  | d :: ds => pyD d :: pyDs ds
end
/-- plain data of so small a depth -/
def okD : Nat → D → Bool
  | _, .non => true
  | _, .bl _ => true
  | _, .int _ => true
  | _, .str x => PyData.strOk x
  | n + 1, .tup ds => ds.all (okD n)
  | n + 1, .lst ds => ds.all (okD n)
  | _, _ => false
theorem okD_py : ∀ (n : Nat) (d : D), okD n d = true → (pyD d).canLay0 = true ∧ (pyD d).depth ≤ n
  | n, .non, _ => ⟨rfl, Nat.zero_le n⟩
  | n, .bl _, _ => ⟨rfl, Nat.zero_le n⟩
  | n, .int _, _ => ⟨rfl, Nat.zero_le n⟩
  | 0, .str x, h => ⟨h, Nat.zero_le 0⟩
  | n + 1, .str x, h => ⟨h, Nat.zero_le _⟩
  | 0, .tup ds, h => by simp [okD] at h
  | 0, .lst ds, h => by simp [okD] at h
  | n + 1, .tup ds, h => by
    have h' : ds.all (okD n) = true := h
    have k : ∀ es : List D, es.all (okD n) = true → PyData.canLayAll0 (pyDs es) = true ∧ PyData.depthAll (pyDs es) ≤ n := by
      intro es
      induction es with
      | nil => exact fun _ => ⟨rfl, Nat.zero_le n⟩
      | cons e es ih =>
        intro h
        rw [List.all_cons, Bool.and_eq_true] at h
        obtain ⟨a1, a2⟩ := okD_py n e h.1
        obtain ⟨b1, b2⟩ := ih h.2
        exact ⟨by show (PyData.canLay0 (pyD e) && PyData.canLayAll0 (pyDs es)) = true; rw [a1, b1]; rfl, by show max (pyD e).depth (PyData.depthAll (pyDs es)) ≤ n; omega⟩
    obtain ⟨a, b⟩ := k ds h'
    exact ⟨a, Nat.succ_le_succ b⟩
  | n + 1, .lst ds, h => by
    have h' : ds.all (okD n) = true := h
    have k : ∀ es : List D, es.all (okD n) = true → PyData.canLayAll0 (pyDs es) = true ∧ PyData.depthAll (pyDs es) ≤ n := by
      intro es
      induction es with
      | nil => exact fun _ => ⟨rfl, Nat.zero_le n⟩
      | cons e es ih =>
        intro h
        rw [List.all_cons, Bool.and_eq_true] at h
        obtain ⟨a1, a2⟩ := okD_py n e h.1
        obtain ⟨b1, b2⟩ := ih h.2
        exact ⟨by show (PyData.canLay0 (pyD e) && PyData.canLayAll0 (pyDs es)) = true; rw [a1, b1]; rfl, by show max (pyD e).depth (PyData.depthAll (pyDs es)) ≤ n; omega⟩
    obtain ⟨a, b⟩ := k ds h'
    exact ⟨a, Nat.succ_le_succ b⟩
  | 0, .ty _, h => by simp [okD] at h
  | 0, .ptr _, h => by simp [okD] at h
  | 0, .rol _, h => by simp [okD] at h
  | 0, .dic _, h => by simp [okD] at h
  | 0, .dit _, h => by simp [okD] at h
  | 0, .obj _ _, h => by simp [okD] at h
  | _ + 1, .ty _, h => by simp [okD] at h
  | _ + 1, .ptr _, h => by simp [okD] at h
  | _ + 1, .rol _, h => by simp [okD] at h
  | _ + 1, .dic _, h => by simp [okD] at h
  | _ + 1, .dit _, h => by simp [okD] at h
  | _ + 1, .obj _ _, h => by simp [okD] at h
theorem okD_shaped {n : Nat} {d : D} (h : okD n d = true) (hn : n ≤ 64 := by decide) : SeqAt.shaped (pyD d) = true := by
  obtain ⟨a, b⟩ := okD_py n d h
  unfold SeqAt.shaped
  rw [a, decide_eq_true (by omega)]
  rfl
mutual
theorem eqv_py : ∀ (n : Nat) (d e : D), okD n d = true → okD n e = true → PyData.eqv (pyD d) (pyD e) = eqD d e
  | n, d, e, hd, he => by
    cases d <;> cases e <;> first
      | rfl
      | (exfalso; cases n <;> simp [okD] at hd <;> done)
      | (exfalso; cases n <;> simp [okD] at he <;> done)
      | (cases n with
         | zero => simp [okD] at hd
         | succ n => exact eqvs_py n _ _ hd he)
theorem eqvs_py : ∀ (n : Nat) (ds es : List D), ds.all (okD n) = true → es.all (okD n) = true → PyData.eqvAll (pyDs ds) (pyDs es) = eqDs ds es
  | n, [], [], _, _ => rfl
  | n, [], _ :: _, _, _ => rfl
  | n, _ :: _, [], _, _ => rfl
  | n, d :: ds, e :: es, h1, h2 => by
    rw [List.all_cons, Bool.and_eq_true] at h1 h2
    show (PyData.eqv (pyD d) (pyD e) && PyData.eqvAll (pyDs ds) (pyDs es)) = (eqD d e && eqDs ds es)
    rw [eqv_py n d e h1.1 h2.1, eqvs_py n ds es h1.2 h2.2]
end
mutual
/-- the data behind the addresses -/
inductive Deref (M : Mem) : D → D → Prop
  | non : Deref M .non .non
  | bl (b : Bool) : Deref M (.bl b) (.bl b)
  | int (i : Int) : Deref M (.int i) (.int i)
  | str (x : Str) : Deref M (.str x) (.str x)
  | plain {d : D} {n : Nat} : okD n d = true → Deref M d d
  | rol {ds : List D} {n : Nat} : okD n (.lst ds) = true → Deref M (.rol ds) (.lst ds)
  | ptr {p : Addr} {ds : List D} {n : Nat} : (p, .lst ds) ∈ M → okD n (.lst ds) = true → Deref M (.ptr p) (.lst ds)
  | tupD {ds es : List D} : Derefs M ds es → Deref M (.tup ds) (.tup es)
  | lstD {ds es : List D} : Derefs M ds es → Deref M (.lst ds) (.lst es)
  | ptrD {p : Addr} {ds es : List D} : (p, .lst ds) ∈ M → Derefs M ds es → Deref M (.ptr p) (.lst es)
inductive Derefs (M : Mem) : List D → List D → Prop
  | nil : Derefs M [] []
  | cons {d e : D} {ds es : List D} : Deref M d e → Derefs M ds es → Derefs M (d :: ds) (e :: es)
end
section
variable {X : Cx} {g : G} {F : Hp} {M : Mem} {H : Hp}
mutual
theorem dp_of (S : Sta g F M H) : ∀ (n : Nat) (v : V) (d : D), Rep g.K F v d → okD n d = true → Dp g.K H v (pyD d)
  | n, _, _, .non, _ => .non
  | n, _, _, .bl b, _ => .bl b
  | n, _, _, .int i, _ => .int i
  | n, _, _, .str x, _ => .str x
  | n + 1, _, _, .tup h r, hd => .tup (S.sub.sqT h) (dps_of S n _ _ r hd)
  | n + 1, _, _, .lst h r, hd => .lst (.of (S.sub.lst h)) (dps_of S n _ _ r hd)
  | 0, _, _, .tup h r, hd => by simp [okD] at hd
  | 0, _, _, .lst h r, hd => by simp [okD] at hd
  | n, _, _, .ty _, hd => by cases n <;> simp [okD] at hd
  | n, _, _, .ptr _, hd => by cases n <;> simp [okD] at hd
  | n, _, _, .rol _ _, hd => by cases n <;> simp [okD] at hd
  | n, _, _, .dic _ _ _, hd => by cases n <;> simp [okD] at hd
  | n, _, _, .dit _ _ _ _ _, hd => by cases n <;> simp [okD] at hd
  | n, _, _, .obj _ _ _, hd => by cases n <;> simp [okD] at hd
theorem dps_of (S : Sta g F M H) : ∀ (n : Nat) (vs : List V) (ds : List D), Reps g.K F vs ds → ds.all (okD n) = true → DpAll g.K H vs (pyDs ds)
  | n, _, _, .nil, _ => .nil
  | n, _, _, .cons r t, h => by
    rw [List.all_cons, Bool.and_eq_true] at h
    exact .cons (dp_of S n _ _ r h.1) (dps_of S n _ _ t h.2)
end
mutual
theorem Deref.dp (S : Sta g F M H) : ∀ {v : V} {d d' : D}, Deref M d d' → Rep g.K F v d → Dp g.K H v (pyD d')
  | _, _, _, .non, r => by cases r; exact .non
  | _, _, _, .bl b, r => by cases r; exact .bl b
  | _, _, _, .int i, r => by cases r; exact .int i
  | _, _, _, .str x, r => by cases r; exact .str x
  | _, _, _, .plain h, r => dp_of S _ _ _ r h
  | _, _, _, .rol (n := n) h, r => by
    cases r with
    | rol e r =>
      cases n with
      | zero => simp [okD] at h
      | succ n => exact .lst (S.sub.sqL e) (dps_of S n _ _ r h)
  | _, _, _, .ptr (n := n) hm h, r => by
    cases r
    obtain ⟨_, o, ho, xs, rfl, r⟩ := S.mem _ _ hm
    cases n with
    | zero => simp [okD] at h
    | succ n => exact .lst (.of ho) (dps_of S n _ _ r h)
  | _, _, _, .tupD h, r => by cases r with | tup e r => exact .tup (S.sub.sqT e) (Derefs.dps S h r)
  | _, _, _, .lstD h, r => by cases r with | lst e r => exact .lst (.of (S.sub.lst e)) (Derefs.dps S h r)
  | _, _, _, .ptrD hm h, r => by
    cases r
    obtain ⟨_, o, ho, xs, rfl, r⟩ := S.mem _ _ hm
    exact .lst (.of ho) (Derefs.dps S h r)
theorem Derefs.dps (S : Sta g F M H) : ∀ {vs : List V} {ds es : List D}, Derefs M ds es → Reps g.K F vs ds → DpAll g.K H vs (pyDs es)
  | _, _, _, .nil, r => by cases r; exact .nil
  | _, _, _, .cons h t, r => by cases r with | cons r rs => exact .cons (Deref.dp S h r) (Derefs.dps S t rs)
end

/-! ### operators -/
/-- a list that is tracked: frozen, or in M -/
inductive IsM (M : Mem) : D → List D → Prop
  | lst (ds : List D) : IsM M (.lst ds) ds
  | ptr {p : Addr} {ds : List D} : (p, .lst ds) ∈ M → IsM M (.ptr p) ds
theorem IsM.to {v : V} {d : D} {ds : List D} (h : IsM M d ds) (S : Sta g F M H) (r : Rep g.K F v d) : ∃ a xs, v = .ref a ∧ H a = some (.lst xs) ∧ Reps g.K F xs ds := by
  cases h with
  | lst => cases r with | lst e r => exact ⟨_, _, rfl, S.sub.lst e, r⟩
  | ptr h =>
    cases r
    obtain ⟨_, o, ho, xs, rfl, r⟩ := S.mem _ _ h
    exact ⟨_, xs, rfl, ho, r⟩
/-- a list or a tuple, to be read -/
inductive IsS (M : Mem) : D → List D → Prop
  | lst (ds : List D) : IsS M (.lst ds) ds
  | rol (ds : List D) : IsS M (.rol ds) ds
  | tup (ds : List D) : IsS M (.tup ds) ds
  | ptr {p : Addr} {ds : List D} : (p, .lst ds) ∈ M → IsS M (.ptr p) ds
theorem IsS.to {v : V} {d : D} {ds : List D} (h : IsS M d ds) (S : Sta g F M H) (r : Rep g.K F v d) : ∃ a xs, v = .ref a ∧ (SqL g.K H a xs ∨ SqT g.K H a xs) ∧ Reps g.K F xs ds := by
  cases h with
  | lst => cases r with | lst e r => exact ⟨_, _, rfl, .inl (.of (S.sub.lst e)), r⟩
  | rol => cases r with | rol e r => exact ⟨_, _, rfl, .inl (S.sub.sqL e), r⟩
  | tup => cases r with | tup e r => exact ⟨_, _, rfl, .inr (S.sub.sqT e), r⟩
  | ptr h =>
    cases r
    obtain ⟨_, o, ho, xs, rfl, r⟩ := S.mem _ _ h
    exact ⟨_, xs, rfl, .inl (.of ho), r⟩
inductive AddR (M : Mem) (Q : D → Mem → Prop) : D → D → Prop
  | int {i j : Int} : Q (.int (i + j)) M → AddR M Q (.int i) (.int j)
  | str {x y : Str} : x.length + y.length ≤ sizeLine → Q (.str (x ++ y)) M → AddR M Q (.str x) (.str y)
  | lst {d e : D} {ds es : List D} : IsM M d ds → IsM M e es → ds.length + es.length ≤ sizeLine → NewL (ds ++ es) M Q → AddR M Q d e
  | tup {ds es : List D} : ds.length + es.length ≤ sizeLine → Q (.tup (ds ++ es)) M → AddR M Q (.tup ds) (.tup es)
theorem xs_nil {K : PySem.W.Frag} {xs : List V} {ds : List D} (r : Reps K F xs ds) : xs = [] ↔ ds = [] := by
  cases r with
  | nil => exact ⟨fun _ => rfl, fun _ => rfl⟩
  | cons _ _ => exact ⟨(fun h => nomatch h), (fun h => nomatch h)⟩
theorem od_add (hK : g.K = X.K) : OpD X g (binaryOp .Add) (fun d e M Q => AddR M Q d e) := by
  intro pins s σ H x y v u k I rx ry h
  obtain ⟨F, M, d, e, Q, S, r1, r2, ar, kQ⟩ := h
  cases ar with
  | int q => cases r1; cases r2; exact op_add pins s σ H _ _ v u k I rx ry ⟨_, _, rfl, rfl, kQ _ M F _ H q (Same.r F) S (.int _)⟩
  | str hz q => cases r1; cases r2; exact op_add_str pins s σ H _ _ v u k I rx ry ⟨_, _, rfl, rfl, hz, kQ _ M F _ H q (Same.r F) S (.str _)⟩
  | lst h1 h2 hz q =>
    obtain ⟨a, xs, rfl, ha, ra⟩ := h1.to S r1
    obtain ⟨b, ys, rfl, hb, rb⟩ := h2.to S r2
    exact op_cat pins s σ H _ _ v u k I rx ry ⟨a, b, xs, ys, rfl, rfl, ha, hb, by rw [ra.length, rb.length]; exact hz, fun p hp => q.to S hp (ra.append rb) fun d' M' F' z s S' r => kQ d' M' F' _ _ z s S' r⟩
  | tup hz q =>
    cases r1 with
    | tup h1 ra =>
      cases r2 with
      | tup h2 rb =>
        have k1 := S.sub.sqT (K := g.K) h1
        have k2 := S.sub.sqT (K := g.K) h2
        rw [hK] at k1 k2
        refine op_catA pins s σ H _ _ v u k I rx ry ⟨_, _, _, _, rfl, rfl, k1, k2, by rw [ra.length, rb.length]; exact hz, fun e => ?_, fun _ e => ?_, fun _ _ p hp => ?_⟩
        · have e' := (xs_nil ra).mp e
          subst e'
          exact kQ _ M F _ H q (Same.r F) S (.tup h2 rb)
        · have e' := (xs_nil rb).mp e
          subst e'
          exact kQ _ M F _ H q (Same.r F) S (.tup h1 (by rw [List.append_nil]; exact ra))
        · obtain ⟨s, S'⟩ := S.newF (o := .tup _) hp
          exact kQ _ M _ _ _ q s S' (.tup upd_same ((ra.append rb).mono s))
inductive SubR (M : Mem) (Q : D → Mem → Prop) : D → D → Prop
  | int {i j : Int} : Q (.int (i - j)) M → SubR M Q (.int i) (.int j)
theorem od_sub : OpD X g (binaryOp .Sub) (fun d e M Q => SubR M Q d e) := by
  intro pins s σ H x y v u k I rx ry h
  obtain ⟨F, M, d, e, Q, S, r1, r2, ar, kQ⟩ := h
  cases ar with
  | int q => cases r1; cases r2; exact op_sub pins s σ H _ _ v u k I rx ry ⟨_, _, rfl, rfl, kQ _ M F _ H q (Same.r F) S (.int _)⟩
/-- n times the text -/
def repS (x : Str) (n : Int) : Str := ⟨(List.replicate n.toNat x.cps).foldl (· ++ ·) #[]⟩
inductive MulR (M : Mem) (Q : D → Mem → Prop) : D → D → Prop
  | int {i j : Int} : CMulW i j → Q (.int (i * j)) M → MulR M Q (.int i) (.int j)
  | str {x : Str} {n : Int} : x.length ≤ 1000 → 0 ≤ n → n ≤ 1000 → Q (.str (repS x n)) M → MulR M Q (.str x) (.int n)
  | lst {d : D} {ds : List D} {n : Int} : IsM M d ds → -(2 ^ 63) ≤ n → n < 2 ^ 63 → ds.length * n.toNat ≤ sizeLine → NewL (List.replicate n.toNat ds).flatten M Q → MulR M Q d (.int n)
theorem repS_one (x : Str) : repS x 1 = x := by
  obtain ⟨a⟩ := x
  show (⟨(List.replicate 1 a).foldl (· ++ ·) #[]⟩ : Str) = ⟨a⟩
  simp
theorem repS_nil {x : Str} (h : x.length = 0) (n : Int) : repS x n = x := by
  obtain ⟨a⟩ := x
  have ha : a = #[] := Array.eq_empty_of_size_eq_zero h
  subst ha
  unfold repS
  congr 1
  generalize n.toNat = m
  induction m with
  | zero => rfl
  | succ m ih => rw [List.replicate_succ, List.foldl_cons]; simpa using ih
theorem repS_length (x : Str) (n : Int) : (repS x n).length = x.length * n.toNat := by
  obtain ⟨a⟩ := x
  show ((List.replicate n.toNat a).foldl (· ++ ·) #[]).size = a.size * n.toNat
  generalize n.toNat = m
  have k : ∀ (m : Nat) (b : Array Nat), ((List.replicate m a).foldl (· ++ ·) b).size = b.size + a.size * m := by
    intro m
    induction m with
    | zero => intro b; rfl
    | succ m ih =>
      intro b
      rw [List.replicate_succ, List.foldl_cons, ih, Array.size_append, Nat.mul_succ]
      omega
  rw [k m #[]]
  exact Nat.zero_add _
theorem od_mul : OpD X g (binaryOp .Mult) (fun d e M Q => MulR M Q d e) := by
  intro pins s σ H x y v u k I rx ry h
  obtain ⟨F, M, d, e, Q, S, r1, r2, ar, kQ⟩ := h
  cases ar with
  | int hc q => cases r1; cases r2; exact op_mulW pins s σ H _ _ v u k I rx ry ⟨_, _, rfl, rfl, hc, kQ _ M F _ H q (Same.r F) S (.int _)⟩
  | str hx h0 h1 q =>
    cases r1; cases r2
    rename_i z n
    obtain ⟨t, rfl⟩ := rx
    obtain ⟨t', rfl⟩ := ry
    have hs : (sizeLine : Nat) = 16777216 := sizeLine_eq
    have fin : ∀ s' : Shared, Inv X pins σ H s' → ∀ tk, EP X pins σ k (.str (repS z n) tk) s' := fun s' I' tk => ⟨.str _, H, I', ⟨tk, rfl⟩, kQ _ M F _ H q (Same.r F) S (.str _)⟩
    refine P.mul_str (by rw [decide_eq_false (by omega), decide_eq_false (by omega)]; rfl) (fun hn _ => ?_) (fun hn _ => ?_) ?_
    · have hn1 : 1 ≤ n := by omega
      have h2 : (1000 : Int) ≤ (2 ^ 63 - 1) / n := by
        rw [Int.le_ediv_iff_mul_le (by omega)]
        have : 1000 * n ≤ 1000 * 1000 := by omega
        exact Int.le_trans this (by decide)
      omega
    · unfold PySem.Builtin.Str.tooLong
      have h3 : z.length * n.toNat ≤ 1000 * 1000 := Nat.mul_le_mul hx (by omega)
      simp only [decide_eq_false_iff_not, gt_iff_lt, Nat.not_lt] <;> omega
    · by_cases hn : n < 1
      · rw [if_pos hn]
        have hn0 : n = 0 := by omega
        subst hn0
        exact ⟨by decide, fin _ (I.tok _) _⟩
      · rw [if_neg hn]
        by_cases hq : (n == 1 || z.length == 0) = true
        · rw [if_pos hq]
          have e : repS z n = z := by
            rcases Bool.or_eq_true _ _ ▸ hq with e | e
            · have := eq_of_beq e
              subst this
              exact repS_one z
            · exact repS_nil (eq_of_beq e) n
          have f := fin s I t
          rw [e] at f
          exact f
        · rw [if_neg hq]
          refine ⟨?_, fin _ (I.tok _) _⟩
          have h3 : z.length * n.toNat ≤ 1000 * 1000 := Nat.mul_le_mul hx (by omega)
          have h4 := repS_length z n
          unfold repS at h4
          rw [h4]
          omega
  | lst h1 h2 h3 hz q =>
    cases r2
    obtain ⟨a, xs, rfl, ha, ra⟩ := h1.to S r1
    exact op_rep pins s σ H _ _ v u k I rx ry ⟨a, _, xs, rfl, rfl, ha, h2, h3, by rw [ra.length]; exact hz, fun p hp => q.to S hp (ra.flat _) fun d' M' F' z s S' r => kQ d' M' F' _ _ z s S' r⟩
inductive DivR (M : Mem) (Q : D → Mem → Prop) : D → D → Prop
  | int {i j : Int} : CDivW i j → Q (.int (i / j)) M → DivR M Q (.int i) (.int j)
theorem od_div : OpD X g (binaryOp .FloorDiv) (fun d e M Q => DivR M Q d e) := by
  intro pins s σ H x y v u k I rx ry h
  obtain ⟨F, M, d, e, Q, S, r1, r2, ar, kQ⟩ := h
  cases ar with
  | int hc q => cases r1; cases r2; exact op_fdivW pins s σ H _ _ v u k I rx ry ⟨_, _, rfl, rfl, hc, kQ _ M F _ H q (Same.r F) S (.int _)⟩
inductive ModR (M : Mem) (Q : D → Mem → Prop) : D → D → Prop
  | int {i j : Int} : 0 < j → Q (.int (i % j)) M → ModR M Q (.int i) (.int j)
theorem od_mod : OpD X g (binaryOp .Mod) (fun d e M Q => ModR M Q d e) := by
  intro pins s σ H x y v u k I rx ry h
  obtain ⟨F, M, d, e, Q, S, r1, r2, ar, kQ⟩ := h
  cases ar with
  | int hc q => cases r1; cases r2; exact op_mod pins s σ H _ _ v u k I rx ry ⟨_, _, rfl, rfl, hc, kQ _ M F _ H q (Same.r F) S (.int _)⟩
inductive PowR (M : Mem) (Q : D → Mem → Prop) : D → D → Prop
  | int {i j : Int} : CPow i j → Q (.int (i ^ j.toNat)) M → PowR M Q (.int i) (.int j)
theorem od_pow : OpD X g (binaryOp .Pow) (fun d e M Q => PowR M Q d e) := by
  intro pins s σ H x y v u k I rx ry h
  obtain ⟨F, M, d, e, Q, S, r1, r2, ar, kQ⟩ := h
  cases ar with
  | int hc q => cases r1; cases r2; exact op_pow pins s σ H _ _ v u k I rx ry ⟨_, _, rfl, rfl, hc, kQ _ M F _ H q (Same.r F) S (.int _)⟩
/-- comparisons of ints -/
inductive IntB (f : Int → Int → Bool) (M : Mem) (Q : D → Mem → Prop) : D → D → Prop
  | int {i j : Int} : Q (.bl (f i j)) M → IntB f M Q (.int i) (.int j)
theorem od_intB {f : Value → Value → Sem Value} {p : Int → Int → Bool} (ho : OpR X f (rI0 fun i j => .bl (p i j))) : OpD X g f (fun d e M Q => IntB p M Q d e) := by
  intro pins s σ H x y v u k I rx ry h
  obtain ⟨F, M, d, e, Q, S, r1, r2, ar, kQ⟩ := h
  cases ar with
  | int q => cases r1; cases r2; exact ho pins s σ H _ _ v u k I rx ry ⟨_, _, rfl, rfl, kQ _ M F _ H q (Same.r F) S (.bl _)⟩
theorem od_lt : OpD X g (compareOp .Lt) (fun d e M Q => IntB (fun i j => decide (i < j)) M Q d e) := od_intB op_lt
theorem od_gt : OpD X g (compareOp .Gt) (fun d e M Q => IntB (fun i j => decide (j < i)) M Q d e) := od_intB op_gt
theorem od_ge : OpD X g (compareOp .GtE) (fun d e M Q => IntB (fun i j => decide (j ≤ i)) M Q d e) := od_intB op_ge
/-- ==, != -/
inductive EqR (neg : Bool) (M : Mem) (Q : D → Mem → Prop) : D → D → Prop
  | dat {d e d' e' : D} : Deref M d d' → Deref M e e' → okD 60 d' = true → okD 60 e' = true → Q (.bl (eqD d' e' != neg)) M → EqR neg M Q d e
  | str {x y : Str} : Q (.bl (decide (x = y) != neg)) M → EqR neg M Q (.str x) (.str y)
  | int {x y : Int} : Q (.bl (decide (x = y) != neg)) M → EqR neg M Q (.int x) (.int y)
  | bl {x y : Bool} : Q (.bl ((x == y) != neg)) M → EqR neg M Q (.bl x) (.bl y)
theorem ne_false (b : Bool) : (b != false) = b := by cases b <;> rfl
theorem ne_true (b : Bool) : (b != true) = !b := by cases b <;> rfl
theorem dec_str {x y : Str} : decide (V.str x = V.str y) = decide (x = y) := by
  by_cases h : x = y
  · rw [decide_eq_true h, decide_eq_true (by rw [h])]
  · rw [decide_eq_false h, decide_eq_false (fun e => h (V.str.inj e))]
theorem dec_int {x y : Int} : decide (V.int x = V.int y) = decide (x = y) := by
  by_cases h : x = y
  · rw [decide_eq_true h, decide_eq_true (by rw [h])]
  · rw [decide_eq_false h, decide_eq_false (fun e => h (V.int.inj e))]
theorem dec_bl {x y : Bool} : decide (V.bl x = V.bl y) = (x == y) := by cases x <;> cases y <;> rfl
theorem od_eq (hK : g.K = X.K) (hu : X.A.units + 64 < cLine) : OpD X g (compareOp .Eq) (fun d e M Q => EqR false M Q d e) := by
  intro pins s σ H x y v u k I rx ry h
  obtain ⟨F, M, d, e, Q, S, r1, r2, ar, kQ⟩ := h
  cases ar with
  | dat h1 h2 o1 o2 q =>
    rw [ne_false] at q
    have k1 := Deref.dp S h1 r1
    have k2 := Deref.dp S h2 r2
    rw [hK] at k1 k2
    exact op_eqD hu pins s σ H _ _ v u k I rx ry ⟨_, _, k1, k2, okD_shaped o1, okD_shaped o2, by rw [eqv_py 60 _ _ o1 o2]; exact kQ _ M F _ H q (Same.r F) S (.bl _)⟩
  | str q => rw [ne_false] at q; cases r1; cases r2; exact op_eq pins s σ H _ _ v u k I rx ry ⟨rfl, by rw [dec_str]; exact kQ _ M F _ H q (Same.r F) S (.bl _)⟩
  | int q => rw [ne_false] at q; cases r1; cases r2; exact op_eq pins s σ H _ _ v u k I rx ry ⟨rfl, by rw [dec_int]; exact kQ _ M F _ H q (Same.r F) S (.bl _)⟩
  | bl q => rw [ne_false] at q; cases r1; cases r2; exact op_eq pins s σ H _ _ v u k I rx ry ⟨rfl, by rw [dec_bl]; exact kQ _ M F _ H q (Same.r F) S (.bl _)⟩
theorem od_ne (hK : g.K = X.K) (hu : X.A.units + 64 < cLine) : OpD X g (compareOp .NotEq) (fun d e M Q => EqR true M Q d e) := by
  intro pins s σ H x y v u k I rx ry h
  obtain ⟨F, M, d, e, Q, S, r1, r2, ar, kQ⟩ := h
  cases ar with
  | dat h1 h2 o1 o2 q =>
    rw [ne_true] at q
    have k1 := Deref.dp S h1 r1
    have k2 := Deref.dp S h2 r2
    rw [hK] at k1 k2
    exact op_neD hu pins s σ H _ _ v u k I rx ry ⟨_, _, k1, k2, okD_shaped o1, okD_shaped o2, by rw [eqv_py 60 _ _ o1 o2]; exact kQ _ M F _ H q (Same.r F) S (.bl _)⟩
  | str q => rw [ne_true] at q; cases r1; cases r2; exact op_ne pins s σ H _ _ v u k I rx ry ⟨rfl, by rw [dec_str]; exact kQ _ M F _ H q (Same.r F) S (.bl _)⟩
  | int q => rw [ne_true] at q; cases r1; cases r2; exact op_ne pins s σ H _ _ v u k I rx ry ⟨rfl, by rw [dec_int]; exact kQ _ M F _ H q (Same.r F) S (.bl _)⟩
  | bl q => rw [ne_true] at q; cases r1; cases r2; exact op_ne pins s σ H _ _ v u k I rx ry ⟨rfl, by rw [dec_bl]; exact kQ _ M F _ H q (Same.r F) S (.bl _)⟩
/-- is None, is not None -/
def isN : D → Bool
  | .non => true
  | _ => false
inductive IsR (neg : Bool) (M : Mem) (Q : D → Mem → Prop) : D → D → Prop
  | non {d : D} : Q (.bl (isN d != neg)) M → IsR neg M Q d .non
theorem isN_rep {K : PySem.W.Frag} {v : V} {d : D} (r : Rep K F v d) : decide (v = .non) = isN d := by
  cases r <;> first | rfl | exact decide_eq_false (fun e => nomatch e)
theorem od_is : OpD X g (compareOp .Is) (fun d e M Q => IsR false M Q d e) := by
  intro pins s σ H x y v u k I rx ry h
  obtain ⟨F, M, d, e, Q, S, r1, r2, ar, kQ⟩ := h
  cases ar with
  | non q => rw [ne_false] at q; cases r2; exact op_isN pins s σ H _ _ v u k I rx ry ⟨rfl, by rw [isN_rep r1]; exact kQ _ M F _ H q (Same.r F) S (.bl _)⟩
theorem od_isNot : OpD X g (compareOp .IsNot) (fun d e M Q => IsR true M Q d e) := by
  intro pins s σ H x y v u k I rx ry h
  obtain ⟨F, M, d, e, Q, S, r1, r2, ar, kQ⟩ := h
  cases ar with
  | non q => rw [ne_true] at q; cases r2; exact op_notN pins s σ H _ _ v u k I rx ry ⟨rfl, by rw [isN_rep r1]; exact kQ _ M F _ H q (Same.r F) S (.bl _)⟩
end
end DL
namespace DL
variable [Wd]
open PySem L2 PySem.Spec PyProof.Rows
/-! ### dicts whose keys are tuples, nested -/
inductive EntI (K : PySem.W.Frag) (F : Hp) : List (NestedKey × Addr × Value) → List (D × D) → Prop
  | nil : EntI K F [] []
  | cons {kd d : D} {k : NestedKey} {b : Addr} {u : Value} {v : V} {xs : List (NestedKey × Addr × Value)} {es : List (D × D)} : toNK 8 kd = some k → Rep K F (.ref b) kd → RelV v u → Rep K F v d → EntI K F xs es → EntI K F ((k, b, u) :: xs) ((kd, d) :: es)
theorem Ents.to {K : PySem.W.Frag} {F : Hp} : ∀ {xs : List (NestedKey × Addr × Value)} {es : List (D × D)}, Ents K F xs es → EntI K F xs es
  | [], [], _ => .nil
  | [], _ :: _, ⟨_, l, _⟩ => by cases l
  | _ :: _, [], ⟨_, l, _⟩ => by cases l
  | (k, b, u) :: xs, (kd, d) :: es, ⟨vs, l, r1, rv, r2⟩ => by
    cases r1 with
    | cons a1 t1 =>
      cases rv with
      | cons a2 t2 =>
        cases r2 with
        | cons a3 t3 => exact .cons (List.cons.inj l).1 a1 a2 a3 (Ents.to ⟨_, (List.cons.inj l).2, t1, t2, t3⟩)
theorem EntI.of {K : PySem.W.Frag} {F : Hp} {xs : List (NestedKey × Addr × Value)} {es : List (D × D)} (h : EntI K F xs es) : Ents K F xs es := by
  induction h with
  | nil => exact ⟨[], rfl, .nil, .nil, .nil⟩
  | cons a1 a2 a3 a4 _ ih =>
    obtain ⟨vs, l, r1, rv, r2⟩ := ih
    exact ⟨_ :: vs, by rw [List.map_cons, List.map_cons, l, a1], .cons a2 r1, .cons a3 rv, .cons a4 r2⟩
def lookT (es : List (D × D)) (k : NestedKey) : Option D := (es.find? fun e => decide (toNK 8 e.1 = some k)).map (·.2)
def putT (es : List (D × D)) (kd : D) (k : NestedKey) (d : D) : List (D × D) :=
  if (es.any fun e => decide (toNK 8 e.1 = some k)) = true then es.map (fun e => if toNK 8 e.1 = some k then (e.1, d) else e) else es ++ [(kd, d)]
theorem EntI.length {K : PySem.W.Frag} {F : Hp} {xs : List (NestedKey × Addr × Value)} {es : List (D × D)} (h : EntI K F xs es) : xs.length = es.length := by
  induction h with
  | nil => rfl
  | cons _ _ _ _ _ ih => rw [List.length_cons, List.length_cons, ih]
theorem EntI.look {K : PySem.W.Frag} {F : Hp} {xs : List (NestedKey × Addr × Value)} {es : List (D × D)} (h : EntI K F xs es) (k : NestedKey) :
    (lookT es k = none → atKey xs k = none) ∧ ∀ d, lookT es k = some d → ∃ b u v, atKey xs k = some (b, u) ∧ RelV v u ∧ Rep K F v d := by
  induction h with
  | nil => exact ⟨fun _ => rfl, fun d e => by cases e⟩
  | cons a1 a2 a3 a4 _ ih =>
    rename_i kd d k' b u v xs es h0
    unfold lookT atKey at ih ⊢
    rw [List.find?_cons, List.find?_cons, a1]
    by_cases q : k' = k
    · subst q
      simp only [decide_true]
      exact ⟨(fun z => nomatch z), fun d' e => ⟨b, u, v, rfl, a3, by cases e; exact a4⟩⟩
    · have q2 : ¬ (some k' = some k) := fun z => q (Option.some.inj z)
      simp only [decide_eq_false q2, decide_eq_false q]
      exact ih
theorem EntI.any {K : PySem.W.Frag} {F : Hp} {xs : List (NestedKey × Addr × Value)} {es : List (D × D)} (h : EntI K F xs es) (k : NestedKey) : (es.any fun e => decide (toNK 8 e.1 = some k)) = (atKey xs k).isSome := by
  induction h with
  | nil => rfl
  | cons a1 a2 a3 a4 _ ih =>
    rename_i kd d k' b u v xs es h0
    unfold atKey at ih ⊢
    rw [List.any_cons, ih, a1, List.find?_cons]
    by_cases q : k' = k
    · subst q; simp
    · have q2 : ¬ (some k' = some k) := fun z => q (Option.some.inj z)
      simp [q]
theorem EntI.append {K : PySem.W.Frag} {F : Hp} {xs ys : List (NestedKey × Addr × Value)} {es fs : List (D × D)} (h : EntI K F xs es) (h' : EntI K F ys fs) : EntI K F (xs ++ ys) (es ++ fs) := by
  induction h with
  | nil => exact h'
  | cons a1 a2 a3 a4 _ ih => exact .cons a1 a2 a3 a4 ih
theorem EntI.put {K : PySem.W.Frag} {F : Hp} {xs : List (NestedKey × Addr × Value)} {es : List (D × D)} (h : EntI K F xs es) {kd d : D} {k : NestedKey} {b : Addr} {u : Value} {v : V} (hk : toNK 8 kd = some k) (rk : Rep K F (.ref b) kd) (rv : RelV v u) (rd : Rep K F v d) :
    EntI K F (storedH xs k b u) (putT es kd k d) := by
  unfold storedH putT
  rw [h.any]
  by_cases q : (atKey xs k).isSome = true
  · rw [if_pos q, if_pos q]
    clear q
    induction h with
    | nil => exact .nil
    | cons a1 a2 a3 a4 _ ih =>
      rename_i kd' d' k' b' u' v' xs es h0
      rw [List.map_cons, List.map_cons, a1]
      by_cases z : k' = k
      · subst z
        rw [if_pos rfl]
        show EntI K F (putAt k' u (k', b', u') :: _) _
        unfold putAt
        rw [if_pos rfl]
        exact .cons a1 a2 rv rd ih
      · have z2 : ¬ (some k' = some k) := fun w => z (Option.some.inj w)
        rw [if_neg z2]
        show EntI K F (putAt k u (k', b', u') :: _) _
        unfold putAt
        rw [if_neg z]
        exact .cons a1 a2 a3 a4 ih
  · rw [if_neg q, if_neg q]
    exact h.append (.cons hk rk rv rd .nil)
section
variable {X : Cx} {g : G} {F : Hp} {M : Mem} {H : Hp} {pins : List (Addr × Obj)} {σ : L2.St} {s : Shared}
mutual
theorem rep_nk (I : Inv X pins σ H s) (S : Sta g F M H) : ∀ (n : Nat) (d : D) (k : NestedKey) (v : V) (u : Value), toNK n d = some k → Rep g.K F v d → RelV v u → NestedIs s.heap k u ∧ k.depth ≤ n
  | n, .non, k, v, u, e, r, ru => by
    have e' : some NestedKey.none = some k := by cases n <;> exact e
    cases e'; cases r
    obtain rfl : u = Value.none := ru
    exact ⟨.none, Nat.zero_le _⟩
  | n, .bl b, k, v, u, e, r, ru => by
    have e' : some (NestedKey.num (if b = true then 1 else 0)) = some k := by cases n <;> exact e
    cases e'; cases r
    obtain rfl : u = Value.bool b := ru
    exact ⟨.bool rfl, Nat.zero_le _⟩
  | n, .int i, k, v, u, e, r, ru => by
    have e' : some (NestedKey.num i) = some k := by cases n <;> exact e
    cases e'; cases r
    obtain ⟨t, rfl⟩ : ∃ t, u = Value.int i t := ru
    exact ⟨.int _ _, Nat.zero_le _⟩
  | n, .str x, k, v, u, e, r, ru => by
    have e' : some (NestedKey.text x) = some k := by cases n <;> exact e
    cases e'; cases r
    obtain ⟨t, rfl⟩ : ∃ t, u = Value.str x t := ru
    exact ⟨.text _ _, Nat.zero_le _⟩
  | n + 1, .tup ds, k, v, u, e, r, ru => by
    have e' : (allS (toNK n) ds).map NestedKey.tup = some k := e
    cases q : allS (toNK n) ds with
    | none => rw [q] at e'; cases e'
    | some ks =>
      rw [q] at e'
      cases e'
      cases r with
      | tup ha r =>
        rename_i a xs
        obtain rfl : u = Value.ref a := ru
        obtain ⟨_, its, rv, o, h1, h2, m, h3⟩ := (show ObjOk X.prog X.w H s.heap a (.tup xs) from I.hok a _ (S.sub.tup ha))
        obtain ⟨a1, a2⟩ := reps_nk I S n ds ks xs its q r rv
        refine ⟨.tup h1 h2 h3 (by simpa using a1), ?_⟩
        show NestedKey.depthAll ks + 1 ≤ n + 1
        omega
  | 0, .tup ds, _, _, _, e, _, _ => by cases e
  | n, .lst _, _, _, _, e, _, _ => by cases n <;> cases e
  | n, .ty _, _, _, _, e, _, _ => by cases n <;> cases e
  | n, .ptr _, _, _, _, e, _, _ => by cases n <;> cases e
  | n, .rol _, _, _, _, e, _, _ => by cases n <;> cases e
  | n, .dic _, _, _, _, e, _, _ => by cases n <;> cases e
  | n, .dit _, _, _, _, e, _, _ => by cases n <;> cases e
  | n, .obj _ _, _, _, _, e, _, _ => by cases n <;> cases e
theorem reps_nk (I : Inv X pins σ H s) (S : Sta g F M H) : ∀ (n : Nat) (ds : List D) (ks : List NestedKey) (xs : List V) (its : List Value), allS (toNK n) ds = some ks → Reps g.K F xs ds → Vals xs its → NestedAll s.heap ks its ∧ NestedKey.depthAll ks ≤ n
  | n, [], ks, xs, its, e, r, rv => by
    cases e; cases r; cases rv
    exact ⟨.nil, Nat.zero_le _⟩
  | n, d :: ds, ks, xs, its, e, r, rv => by
    have e' := e
    unfold allS at e'
    cases q1 : toNK n d with
    | none => rw [q1] at e'; cases e'
    | some y =>
      cases q2 : allS (toNK n) ds with
      | none => rw [q1, q2] at e'; cases e'
      | some ys =>
        rw [q1, q2] at e'
        cases e'
        cases r with
        | cons r1 r2 =>
          cases rv with
          | cons v1 v2 =>
            obtain ⟨a1, a2⟩ := rep_nk I S n d y _ _ q1 r1 v1
            obtain ⟨b1, b2⟩ := reps_nk I S n ds ys _ _ q2 r2 v2
            refine ⟨.cons a1 b1, ?_⟩
            show max (NestedKey.depth y) (NestedKey.depthAll ys) ≤ n
            omega
end
/-- the dict itself -/
theorem nk_dict (hw : X.w = Wd.w) (I : Inv X pins σ H s) (S : Sta g F M H) {a : Addr} {xs : List (NestedKey × Addr × Value)} {es : List (D × D)} (h : Rd H a (hoN a xs)) (e : EntI g.K F xs es) :
    s.heap.DictOfH (nestedKind X.prog X.w) a xs ∧ xs.length ≤ sizeLine ∧ (a == sysModules) = false := by
  obtain ⟨⟨z, y, nd, o, es', ep, h1, h2, h3, h4⟩, hr⟩ : ObjOk X.prog X.w H s.heap a (hoN a xs) := by
    rcases h with h | ⟨ob, h⟩
    · exact I.hok a _ h
    · exact (show ObjOk X.prog X.w H s.heap a (.frz ob (hoN a xs)) from I.hok a _ h).2
  refine ⟨⟨o, es', ep, h1, h2, h3, ?_, fun x hx => ?_, nd⟩, z, y⟩
  · rw [h4]
    refine List.map_congr_left fun x _ => ?_
    show _ = (⟨x.1.hash X.w, _, _⟩ : DictEntry)
    rw [hw]
  · clear h1 h2 h3 h4 z nd h hr
    induction e with
    | nil => cases hx
    | cons a1 a2 a3 a4 _ ih =>
      rcases List.mem_cons.mp hx with q | q
      · subst q
        obtain ⟨b1, b2⟩ := rep_nk I S 8 _ _ _ _ a1 a2 rfl
        exact ⟨b1, b2⟩
      · exact ih q
/-- what stands behind d[k] = v -/
theorem nk_new (hw : X.w = Wd.w) {H' : Hp} {h' : Heap} {a : Addr} {xs : List (NestedKey × Addr × Value)} (dd : h'.DictOfH (nestedKind X.prog X.w) a xs) (z : xs.length ≤ sizeLine) (y : (a == sysModules) = false) : ObjOk X.prog X.w H' h' a (hoN a xs) := by
  obtain ⟨o, es', ep, h1, h2, h3, h4, _, nd⟩ := dd
  refine ⟨⟨z, y, nd, o, es', ep, h1, h2, h3, ?_⟩, ⟨o, h1⟩, fun g1 g2 ⟨z1, y1, nd1, o1, es1, ep1, b1, b2, b3, b4⟩ kp => ⟨z1, y1, nd1, o1, es1, ep1, kp o1 b1, b2, b3, b4⟩⟩
  rw [h4]
  refine List.map_congr_left fun x _ => ?_
  show (⟨x.1.hash X.w, _, _⟩ : DictEntry) = _
  rw [hw]
end
end DL
namespace DL
variable [Wd]
open PySem L2
section
variable {X : Cx} {g : G} {W : WX} {pos : Pos} {a b c e o : Expr} {es : List Expr} {da db dc de : DE} {dA : DA} {x : Str} {p apos cpos : Pos}
/-! ### in -/
def flatD : D → Bool
  | .non => true
  | .bl _ => true
  | .int _ => true
  | .str _ => true
  | _ => false
theorem flat_rep {K : PySem.W.Frag} {F : Hp} {v : V} {d : D} (r : Rep K F v d) (h : flatD d = true) : flatV v = true := by
  cases r <;> first | rfl | (simp [flatD] at h)
theorem flats_rep {K : PySem.W.Frag} {F : Hp} : ∀ {vs : List V} {ds : List D}, Reps K F vs ds → ds.all flatD = true → vs.all flatV = true
  | _, _, .nil, _ => rfl
  | _, _, .cons r t, h => by
    rw [List.all_cons, Bool.and_eq_true] at h ⊢
    exact ⟨flat_rep r h.1, flats_rep t h.2⟩
theorem eqV_rep {K : PySem.W.Frag} {F : Hp} {v u : V} {d e : D} (r : Rep K F v d) (s : Rep K F u e) (h : flatD d = true) (h' : flatD e = true) : eqV v u = eqD d e := by
  cases r <;> cases s <;> first | rfl | (simp [flatD] at h) | (simp [flatD] at h')
theorem inV_rep {K : PySem.W.Frag} {F : Hp} {v : V} {d : D} (r : Rep K F v d) (h : flatD d = true) : ∀ {vs : List V} {ds : List D}, Reps K F vs ds → ds.all flatD = true → inV v vs = ds.any fun z => eqD z d
  | _, _, .nil, _ => rfl
  | _, _, .cons q t, h' => by
    rw [List.all_cons, Bool.and_eq_true] at h'
    have ih := inV_rep r h t h'.2
    unfold inV at ih ⊢
    rw [List.any_cons, List.any_cons, eqV_rep q r h'.1 h, ih]
inductive IsDic (M : Mem) : D → List (Key × D) → Prop
  | dic (es : List (Key × D)) : IsDic M (.dic es) es
  | ptr {p : Addr} {es : List (Key × D)} : (p, .dic es) ∈ M → IsDic M (.ptr p) es
inductive IsDit (M : Mem) : D → List (D × D) → Prop
  | dit (es : List (D × D)) : IsDit M (.dit es) es
  | ptr {p : Addr} {es : List (D × D)} : (p, .dit es) ∈ M → IsDit M (.ptr p) es
def keyD : Key → D
  | .inl i => .int i
  | .inr x => .str x
theorem key_rep {K : PySem.W.Frag} {F : Hp} {v : V} {k : Key} (r : Rep K F v (keyD k)) : v = kV k := by
  cases k <;> (cases r; rfl)
def lookD {κ : Type} [DecidableEq κ] (es : List (κ × D)) (k : κ) : Option D := (es.find? fun kv => decide (kv.1 = k)).map (·.2)
def putD {κ : Type} [DecidableEq κ] (es : List (κ × D)) (k : κ) (d : D) : List (κ × D) :=
  if (es.any fun kv => decide (kv.1 = k)) = true then es.map (fun kv => if kv.1 = k then (kv.1, d) else kv) else es ++ [(k, d)]
theorem look_rep {κ : Type} [DecidableEq κ] {K : PySem.W.Frag} {F : Hp} (k : κ) : ∀ {kvs : List (κ × V)} {es : List (κ × D)}, kvs.map (·.1) = es.map (·.1) → Reps K F (kvs.map (·.2)) (es.map (·.2)) →
    (lookD es k = none → valV kvs k = none) ∧ ∀ d, lookD es k = some d → ∃ v, valV kvs k = some v ∧ Rep K F v d
  | [], [], _, _ => ⟨fun _ => rfl, fun d h => by cases h⟩
  | (k1, v1) :: kvs, (k2, d2) :: es, hk, r => by
    have e1 : k1 = k2 := (List.cons.inj hk).1
    subst e1
    cases r with
    | cons r1 r2 =>
      have ih := look_rep k (kvs := kvs) (es := es) (List.cons.inj hk).2 r2
      by_cases h : k1 = k
      · have a1 : lookD ((k1, d2) :: es) k = some d2 := by simp [lookD, List.find?_cons, h]
        have a2 : valV ((k1, v1) :: kvs) k = some v1 := valV_pos h
        rw [a1, a2]
        exact ⟨(fun h => nomatch h), fun d e => ⟨v1, rfl, by cases e; exact r1⟩⟩
      · have a1 : lookD ((k1, d2) :: es) k = lookD es k := by simp [lookD, List.find?_cons, h]
        rw [a1, valV_neg h]
        exact ih
theorem any_rep {κ : Type} [DecidableEq κ] (k : κ) : ∀ {kvs : List (κ × V)} {es : List (κ × D)}, kvs.map (·.1) = es.map (·.1) → (kvs.any fun kv => decide (kv.1 = k)) = es.any fun kv => decide (kv.1 = k)
  | [], [], _ => rfl
  | (k1, v1) :: kvs, (k2, d2) :: es, hk => by
    rw [List.any_cons, List.any_cons, any_rep k (List.cons.inj hk).2, show k1 = k2 from (List.cons.inj hk).1]
theorem put_rep {κ : Type} [DecidableEq κ] {K : PySem.W.Frag} {F : Hp} {v : V} {d : D} (k : κ) {kvs : List (κ × V)} {es : List (κ × D)} (hk : kvs.map (·.1) = es.map (·.1)) (r : Reps K F (kvs.map (·.2)) (es.map (·.2))) (rv : Rep K F v d) :
    (putK kvs k v).map (·.1) = (putD es k d).map (·.1) ∧ Reps K F ((putK kvs k v).map (·.2)) ((putD es k d).map (·.2)) := by
  unfold putK putD
  rw [any_rep k hk]
  by_cases h : (es.any fun kv => decide (kv.1 = k)) = true
  · rw [if_pos h, if_pos h]
    clear h
    induction kvs generalizing es with
    | nil =>
      cases es with
      | nil => exact ⟨rfl, .nil⟩
      | cons _ _ => cases hk
    | cons p kvs ih =>
      obtain ⟨k1, v1⟩ := p
      cases es with
      | nil => cases hk
      | cons q es =>
        obtain ⟨k2, d2⟩ := q
        have e1 : k1 = k2 := (List.cons.inj hk).1
        subst e1
        cases r with
        | cons r1 r2 =>
          obtain ⟨i1, i2⟩ := ih (List.cons.inj hk).2 r2
          by_cases e : k1 = k
          · simp only [List.map_cons, if_pos e]
            exact ⟨by rw [i1], .cons rv i2⟩
          · simp only [List.map_cons, if_neg e]
            exact ⟨by rw [i1], .cons r1 i2⟩
  · rw [if_neg h, if_neg h, List.map_append, List.map_append, List.map_append, List.map_append, hk]
    exact ⟨rfl, r.append (.cons rv .nil)⟩
section
variable {F : Hp} {M : Mem} {H : Hp}
theorem IsDic.to {v : V} {d : D} {es : List (Key × D)} (h : IsDic M d es) (S : Sta g F M H) (r : Rep g.K F v d) : ∃ a kvs, v = .ref a ∧ Rd H a (.dK kvs) ∧ kvs.map (·.1) = es.map (·.1) ∧ Reps g.K F (kvs.map (·.2)) (es.map (·.2)) := by
  cases h with
  | dic => cases r with | dic e l r => exact ⟨_, _, rfl, S.sub.dK e, l, r⟩
  | ptr h =>
    cases r
    obtain ⟨_, o, ho, kvs, rfl, l, r⟩ := S.mem _ _ h
    exact ⟨_, kvs, rfl, .inl ho, l, r⟩
theorem IsDit.to {v : V} {d : D} {es : List (D × D)} (h : IsDit M d es) (S : Sta g F M H) (r : Rep g.K F v d) : ∃ a xs, v = .ref a ∧ Rd H a (hoN a xs) ∧ EntI g.K F xs es := by
  cases h with
  | dit =>
    cases r with
    | dit e l r1 rv r2 => exact ⟨_, _, rfl, S.sub.nk e, Ents.to ⟨_, l, r1, rv, r2⟩⟩
  | ptr h =>
    cases r
    obtain ⟨_, o, ho, xs, rfl, r⟩ := S.mem _ _ h
    exact ⟨_, xs, rfl, .inl ho, r.to⟩
theorem EntI.isSome {K : PySem.W.Frag} {xs : List (NestedKey × Addr × Value)} {es : List (D × D)} (h : EntI K F xs es) (k : NestedKey) : (atKey xs k).isSome = (lookT es k).isSome := by
  obtain ⟨a, b⟩ := h.look k
  cases q : lookT es k with
  | none => rw [a q]; rfl
  | some d =>
    obtain ⟨_, _, _, e, _⟩ := b d q
    rw [e]; rfl
theorem room_in1 {A : Around} (hu : A.units + 64 < cLine) : A.in1.units + 8 < cLine := by
  have e : A.in1.units = A.units + 1 := rfl
  omega
end
inductive InR (neg : Bool) (M : Mem) (Q : D → Mem → Prop) : D → D → Prop
  | seq {d e : D} {ds : List D} : IsS M e ds → flatD d = true → ds.all flatD = true → Q (.bl ((ds.any fun z => eqD z d) != neg)) M → InR neg M Q d e
  | dic {k : Key} {e : D} {es : List (Key × D)} : IsDic M e es → Q (.bl ((lookD es k).isSome != neg)) M → InR neg M Q (keyD k) e
  | dit {e : D} {ds : List D} {k : NestedKey} {es : List (D × D)} : IsDit M e es → toNK 8 (.tup ds) = some k → Q (.bl ((lookT es k).isSome != neg)) M → InR neg M Q (.tup ds) e
  | deep {d d' e e' : D} {ds : List D} : Deref M d d' → Deref M e (.lst ds) → okD 60 d' = true → okD 60 (.lst ds) = true → Q (.bl ((ds.any fun z => eqD z d') != neg)) M → InR neg M Q d e
theorem look_some {o : Option D} {o' : Option V} (h1 : o = none → o' = none) (h2 : ∀ d, o = some d → ∃ v, o' = some v) : o'.isSome = o.isSome := by
  cases o with
  | none => rw [h1 rfl]; rfl
  | some d => obtain ⟨v, e⟩ := h2 d rfl; rw [e]; rfl
theorem okD_up : ∀ (n : Nat) (d : D), okD n d = true → okD (n + 1) d = true
  | n, .non, _ => rfl
  | n, .bl _, _ => rfl
  | n, .int _, _ => rfl
  | 0, .str x, h => h
  | n + 1, .str x, h => h
  | n + 1, .tup ds, h => List.all_eq_true.mpr fun e he => okD_up n e (List.all_eq_true.mp h e he)
  | n + 1, .lst ds, h => List.all_eq_true.mpr fun e he => okD_up n e (List.all_eq_true.mp h e he)
  | 0, .tup ds, h => by simp [okD] at h
  | 0, .lst ds, h => by simp [okD] at h
  | n, .ty _, h => by cases n <;> simp [okD] at h
  | n, .ptr _, h => by cases n <;> simp [okD] at h
  | n, .rol _, h => by cases n <;> simp [okD] at h
  | n, .dic _, h => by cases n <;> simp [okD] at h
  | n, .dit _, h => by cases n <;> simp [okD] at h
  | n, .obj _ _, h => by cases n <;> simp [okD] at h
theorem od_in (hw : X.w = Wd.w) (hK : g.K = X.K) (hu : X.A.units + 65 < cLine) : OpD X g (compareOp .In) (fun d e M Q => InR false M Q d e) := by
  intro pins s σ H x y v u k I rx ry h
  obtain ⟨F, M, d, e, Q, S, r1, r2, ar, kQ⟩ := h
  cases ar with
  | seq hs h1 h2 q =>
    rw [ne_false] at q
    obtain ⟨a, xs, rfl, ha, ra⟩ := hs.to S r2
    rw [hK] at ha
    refine op_in_seq pins s σ H _ _ v u k I rx ry ⟨a, xs, rfl, ha, flat_rep r1 h1, flats_rep ra h2, ?_⟩
    rw [if_neg Bool.false_ne_true, inV_rep r1 h1 ra h2]
    exact kQ _ M F _ H q (Same.r F) S (.bl _)
  | dic hs q =>
    rw [ne_false] at q
    obtain ⟨a, kvs, rfl, ha, l, ra⟩ := hs.to S r2
    obtain rfl := key_rep r1
    cases ry
    obtain ⟨l1, l2⟩ := look_rep _ l ra
    refine d_in (o := valV kvs _) (by omega) I (.inl ⟨kvs, _, ha, rfl, rfl⟩) rx fun s' I' => ⟨.bl _, H, I', rfl, ?_⟩
    rw [look_some l1 fun d e => let ⟨v, a, _⟩ := l2 d e; ⟨v, a⟩]
    exact kQ _ M F _ H q (Same.r F) S (.bl _)
  | dit hs hk q =>
    rw [ne_false] at q
    obtain ⟨a, xs, rfl, ha, en⟩ := hs.to S r2
    obtain ⟨hm, hz, hy⟩ := nk_dict hw I S ha en
    cases ry
    cases r1 with
    | tup hb rb =>
      cases rx
      obtain ⟨b1, b2⟩ := rep_nk I S 8 _ _ _ _ hk (.tup hb rb) rfl
      refine wpAny_in_heap (knd := nestedKind X.prog X.w) (room_in1 (by omega)) ⟨b1, b2⟩ hy hm ⟨.bl _, H, I.tok _, rfl, ?_⟩
      rw [en.isSome]
      exact kQ _ M F _ H q (Same.r F) S (.bl _)
  | deep h1 h2 o1 o2 q =>
    rw [ne_false] at q
    have k1 := Deref.dp S h1 r1
    have k2 := Deref.dp S h2 r2
    rw [hK] at k1 k2
    refine op_inD hu pins s σ H _ _ v u k I rx ry ⟨_, _, k1, k2, okD_shaped o1, okD_shaped o2, ?_⟩
    rename_i d' e' ds
    have e1 : ((pyDs ds).any fun z => PyData.eqv z (pyD d')) = ds.any fun z => eqD z d' := by
      have o1' := okD_up 60 d' o1
      have o2' : ds.all (okD 60) = true := List.all_eq_true.mpr fun z hz => okD_up 59 z (List.all_eq_true.mp o2 z hz)
      clear q k2 h2 o2
      induction ds with
      | nil => rfl
      | cons z zs ih =>
        rw [List.all_cons, Bool.and_eq_true] at o2'
        show (PyData.eqv (pyD z) (pyD d') || (pyDs zs).any fun z => PyData.eqv z (pyD d')) = (eqD z d' || zs.any fun z => eqD z d')
        rw [eqv_py 60 z d' o2'.1 o1, ih o2'.2]
    rw [e1]
    exact kQ _ M F _ H q (Same.r F) S (.bl _)
theorem od_notIn (hw : X.w = Wd.w) (hK : g.K = X.K) (hu : X.A.units + 65 < cLine) : OpD X g (compareOp .NotIn) (fun d e M Q => InR true M Q d e) := by
  intro pins s σ H x y v u k I rx ry h
  obtain ⟨F, M, d, e, Q, S, r1, r2, ar, kQ⟩ := h
  cases ar with
  | seq hs h1 h2 q =>
    rw [ne_true] at q
    obtain ⟨a, xs, rfl, ha, ra⟩ := hs.to S r2
    rw [hK] at ha
    refine op_notIn_seq pins s σ H _ _ v u k I rx ry ⟨a, xs, rfl, ha, flat_rep r1 h1, flats_rep ra h2, ?_⟩
    rw [if_pos rfl, inV_rep r1 h1 ra h2]
    exact kQ _ M F _ H q (Same.r F) S (.bl _)
  | dic hs q =>
    rw [ne_true] at q
    obtain ⟨a, kvs, rfl, ha, l, ra⟩ := hs.to S r2
    obtain rfl := key_rep r1
    cases ry
    obtain ⟨l1, l2⟩ := look_rep _ l ra
    refine d_notIn (o := valV kvs _) (by omega) I (.inl ⟨kvs, _, ha, rfl, rfl⟩) rx fun s' I' => ⟨.bl _, H, I', rfl, ?_⟩
    rw [look_some l1 fun d e => let ⟨v, a, _⟩ := l2 d e; ⟨v, a⟩]
    exact kQ _ M F _ H q (Same.r F) S (.bl _)
  | dit hs hk q =>
    rw [ne_true] at q
    obtain ⟨a, xs, rfl, ha, en⟩ := hs.to S r2
    obtain ⟨hm, hz, hy⟩ := nk_dict hw I S ha en
    cases ry
    cases r1 with
    | tup hb rb =>
      cases rx
      obtain ⟨b1, b2⟩ := rep_nk I S 8 _ _ _ _ hk (.tup hb rb) rfl
      refine PyProof.Rows.wpAny_notIn_heap (knd := nestedKind X.prog X.w) (room_in1 (by omega)) ⟨b1, b2⟩ hy hm ⟨.bl _, H, I.tok _, rfl, ?_⟩
      rw [en.isSome]
      exact kQ _ M F _ H q (Same.r F) S (.bl _)
  | deep h1 h2 o1 o2 q =>
    rw [ne_true] at q
    have k1 := Deref.dp S h1 r1
    have k2 := Deref.dp S h2 r2
    rw [hK] at k1 k2
    refine op_notInD hu pins s σ H _ _ v u k I rx ry ⟨_, _, k1, k2, okD_shaped o1, okD_shaped o2, ?_⟩
    rename_i d' e' ds
    have e1 : ((pyDs ds).any fun z => PyData.eqv z (pyD d')) = ds.any fun z => eqD z d' := by
      have o2' : ds.all (okD 60) = true := List.all_eq_true.mpr fun z hz => okD_up 59 z (List.all_eq_true.mp o2 z hz)
      clear q k2 h2 o2
      induction ds with
      | nil => rfl
      | cons z zs ih =>
        rw [List.all_cons, Bool.and_eq_true] at o2'
        show (PyData.eqv (pyD z) (pyD d') || (pyDs zs).any fun z => PyData.eqv z (pyD d')) = (eqD z d' || zs.any fun z => eqD z d')
        rw [eqv_py 60 z d' o2'.1 o1, ih o2'.2]
    rw [e1]
    exact kQ _ M F _ H q (Same.r F) S (.bl _)

/-! ### subscripts -/
def IxD (X : Cx) (g : G) (r : DR2) : Prop := IxR X (liftR g r)
theorem de_ix {r : DR2} (hr : IxD X g r) (ha : PE X a (liftE g W da)) (hb : PE X b (liftE g W db)) (hs : PlainIx b := by exact fun _ _ => rfl) : PE X (.Subscript a b pos) (liftE g W (dOp r da db)) :=
  PE.imp (pe_ix hr ha hb hs) fun _ _ _ h => lift_op h
inductive IxQ (M : Mem) (Q : D → Mem → Prop) : D → D → Prop
  | seq {d e : D} {ds : List D} {i : Int} : IsS M d ds → atI ds i = some e → Q e M → IxQ M Q d (.int i)
  | str {z : Str} {i : Int} {c : Nat} : z.length ≤ sizeLine → atI z.cps.toList i = some c → Q (.str ⟨#[c]⟩) M → IxQ M Q (.str z) (.int i)
  | dic {k : Key} {d e : D} {es : List (Key × D)} : IsDic M d es → lookD es k = some e → Q e M → IxQ M Q d (keyD k)
  | dit {d e : D} {ds : List D} {k : NestedKey} {es : List (D × D)} : IsDit M d es → toNK 8 (.tup ds) = some k → lookT es k = some e → Q e M → IxQ M Q d (.tup ds)
theorem atI_rep {K : PySem.W.Frag} {F : Hp} {vs : List V} {ds : List D} {i : Int} {d : D} (r : Reps K F vs ds) (h : atI ds i = some d) : ∃ v, atI vs i = some v ∧ Rep K F v d := by
  unfold atI at h ⊢
  rw [r.length]
  cases e : ixN ds.length i with
  | none => rw [e] at h; cases h
  | some j =>
    rw [e] at h
    exact r.get h
theorem ix_gen {value slice : Expr} {pins : List (Addr × Obj)} {s : Shared} {σ : L2.St} {u : Value} {Q : VK} {a : Addr} (hT : s.TypeIs (.ref a) "dict") (hs : subscripted slice false (.ref a) u = operate [.ref a, u] (getItem (.ref a) u))
    (h : wpAny (model X.prog X.w) X.A (getItem (.ref a) u) (EP X pins σ Q) X.xe s) : wpAny (model X.prog X.w) X.A (PyProof.Rows.subscriptTail value slice (.ref a) u) (EP X pins σ Q) X.xe s := by
  unfold PyProof.Rows.subscriptTail
  refine wpAny_bind ?_
  rw [getitemInPython_of_ne hT.not_modules]
  refine wpAny_bind (wpAny_specialOf hT PySem.F.slot_dict_getitem.lookup ?_)
  have fin : wpAny (model X.prog X.w) X.A (subscripted slice false (.ref a) u) (fun r s₃ => wpAny (model X.prog X.w) X.A (letTemporaryGo value (.ref a) r >>= fun _ => pure r) (EP X pins σ Q) X.xe s₃) X.xe s := by
    rw [hs]
    exact wpAny_operating (wpAny_mono h (fun r s₃ h₃ => wpAny_bind (wpAny_letTemporaryGo (wpAny_pure h₃))) fun _ _ x => x)
  first
    | exact wpAny_pure (wpAny_bind fin)
    | exact wpAny_bind (wpAny_pure (wpAny_bind fin))
    | exact wpAny_bind fin
theorem ix_dic (hu : X.A.units + 1 < cLine) : IxR X (fun x y H Q => ∃ a v, x = .ref a ∧ DGet H a y (some v) ∧ Q v H) := by
  intro value slice pins s σ H x y v u Q I rx ry h hs
  obtain ⟨a, z, rfl, gt, q⟩ := h
  cases rx
  have hT := dict_typeIs I gt
  unfold PyProof.Rows.subscriptTail
  refine wpAny_bind ?_
  rw [getitemInPython_of_ne hT.not_modules]
  refine wpAny_bind (wpAny_specialOf hT PySem.F.slot_dict_getitem.lookup ?_)
  have fin : wpAny (model X.prog X.w) X.A (subscripted slice false (.ref a) u) (fun r s₃ => wpAny (model X.prog X.w) X.A (letTemporaryGo value (.ref a) r >>= fun _ => pure r) (EP X pins σ Q) X.xe s₃) X.xe s := by
    rw [hs]
    exact wpAny_operating (wpAny_mono (d_getItem (Q := fun w s' => ∃ z' H', Inv X pins σ H' s' ∧ RelV z' w ∧ Q z' H') hu I gt ry fun w' s3 I3 rw' => ⟨z, H, I3, rw', q⟩) (fun r s₃ h₃ => wpAny_bind (wpAny_letTemporaryGo (wpAny_pure h₃))) fun _ _ x => x)
  first
    | exact wpAny_pure (wpAny_bind fin)
    | exact wpAny_bind (wpAny_pure (wpAny_bind fin))
    | exact wpAny_bind fin
theorem od_ix (hw : X.w = Wd.w) (hK : g.K = X.K) (hu : X.A.units + 64 < cLine) : IxD X g (fun d e M Q => IxQ M Q d e) := by
  intro value slice pins s σ H x y v u k I rx ry h hs
  obtain ⟨F, M, d, e, Q, S, r1, r2, ar, kQ⟩ := h
  cases ar with
  | seq h1 h2 q =>
    obtain ⟨a, xs, rfl, ha, ra⟩ := h1.to S r1
    cases r2
    obtain ⟨w, hw, rw_⟩ := atI_rep ra h2
    rw [hK] at ha
    rcases ha with ha | ha
    · exact ix_list value slice pins s σ H _ _ v u k I rx ry ⟨a, xs, _, w, rfl, rfl, ha, hw, kQ _ M F _ H q (Same.r F) S rw_⟩ hs
    · exact ix_tup value slice pins s σ H _ _ v u k I rx ry ⟨a, xs, _, w, rfl, rfl, ha, hw, kQ _ M F _ H q (Same.r F) S rw_⟩ hs
  | str hz h2 q =>
    cases r1; cases r2
    exact ix_str value slice pins s σ H _ _ v u k I rx ry ⟨_, _, _, rfl, rfl, hz, h2, kQ _ M F _ H q (Same.r F) S (.str _)⟩ hs
  | dic h1 h2 q =>
    obtain ⟨a, kvs, rfl, ha, l, ra⟩ := h1.to S r1
    obtain rfl := key_rep r2
    obtain ⟨_, l2⟩ := look_rep _ l ra
    obtain ⟨w, hw, rw_⟩ := l2 _ h2
    exact ix_dic (by omega) value slice pins s σ H _ _ v u k I rx ry ⟨a, w, rfl, .inl ⟨kvs, _, ha, rfl, hw.symm⟩, kQ _ M F _ H q (Same.r F) S rw_⟩ hs
  | dit hd hk h2 q =>
    obtain ⟨a, xs, rfl, ha, en⟩ := hd.to S r1
    obtain ⟨hm, hz, hy⟩ := nk_dict hw I S ha en
    obtain ⟨_, l2⟩ := en.look _
    obtain ⟨b', u', v', e1, e2, e3⟩ := l2 _ h2
    cases rx
    cases r2 with
    | tup hb rb =>
      cases ry
      obtain ⟨b1, b2⟩ := rep_nk I S 8 _ _ _ _ hk (.tup hb rb) rfl
      exact ix_gen hm.typeIs hs (wpAny_getItem_heap (knd := nestedKind X.prog X.w) (room_in1 hu) ⟨b1, b2⟩ hm e1 ⟨v', H, I.tok _, e2, kQ _ M F _ H q (Same.r F) S e3⟩)
/-! ### slices -/
abbrev DO := Rho → Mem → (Option Int → Mem → Prop) → XD → Prop
def liftO (g : G) (W : WX) (dt : DO) : TO := fun σ H k => ∃ ρ M F Q E, Sta g F M H ∧ Enr g.K F σ ρ ∧ dt ρ M Q E ∧
  (∀ b M' F' H', Q b M' → Same F F' → Sta g F' M' H' → k b H') ∧ (∀ C dd M' F' H', E C dd M' → Same F F' → Sta g F' M' H' → W (.ref C) (some dd) σ H')
theorem _root_.L2.PO.imp {X : Cx} {e : Option Expr} {t t' : TO} (h : PO X e t) (i : ∀ σ H k, t' σ H k → t σ H k) : PO X e t' := ⟨fun pins s σ H k I q => h.run pins s σ H k I (i σ H k q)⟩
def oNone : DO := fun _ M Q _ => Q none M
def oSome (de : DE) : DO := fun ρ M Q E => de ρ M (fun d M' => ∃ i, d = .int i ∧ Q (some i) M') E
theorem do_none : PO X none (liftO g W oNone) := PO.imp po_none fun σ H k ⟨ρ, M, F, Q, E, S, En, q, kQ, kE⟩ => kQ none M F H q (Same.r F) S
theorem do_some (h : PE X e (liftE g W de)) : PO X (some e) (liftO g W (oSome de)) :=
  PO.imp (po_some h) fun σ H k ⟨ρ, M, F, Q, E, S, En, q, kQ, kE⟩ => ⟨ρ, M, F, _, E, S, En, q, fun d M' F' v H' ⟨i, ed, z⟩ s S' r => by
    subst ed
    cases r
    exact ⟨i, rfl, kQ _ M' F' H' z s S'⟩, kE⟩
def cutD (xs : List D) (lo hi : Option Int) : List D := (xs.drop (HT.sIx xs.length 0 lo)).take (HT.sIx xs.length xs.length hi - HT.sIx xs.length 0 lo)
theorem cut_rep {K : PySem.W.Frag} {F : Hp} {vs : List V} {ds : List D} (r : Reps K F vs ds) (lo hi : Option Int) : Reps K F (cutV vs lo hi) (cutD ds lo hi) := by
  unfold cutV cutD
  rw [r.length]
  exact (r.drop _).take _
inductive SlQ (M : Mem) (Q : D → Mem → Prop) (lo hi : Option Int) : D → Prop
  | lst {d : D} {ds : List D} {st : Mem → Prop} : IsL M d ds st → NewL (cutD ds lo hi) M Q → SlQ M Q lo hi d
  | tup {ds : List D} : Q (.tup (cutD ds lo hi)) M → SlQ M Q lo hi (.tup ds)
def dSl (de : DE) (l h : DO) : DE := fun ρ M Q E => de ρ M (fun d M1 => l ρ M1 (fun lo M2 => h ρ M2 (fun hi M3 => SlQ M3 Q lo hi d) E) E) E
theorem cut_all {xs : List V} {lo hi : Option Int} (h1 : HT.sIx xs.length 0 lo = 0) (h2 : HT.sIx xs.length xs.length hi = xs.length) : cutV xs lo hi = xs := by
  unfold cutV
  rw [h1, h2, List.drop_zero, Nat.sub_zero, List.take_length]
theorem sl_any (hK : g.K = X.K) : SlR X (fun x lo hi H k => ∃ F M d Q, Sta g F M H ∧ Rep g.K F x d ∧ SlQ M Q lo hi d ∧ ∀ d' M' F' v H', Q d' M' → Same F F' → Sta g F' M' H' → Rep g.K F' v d' → k v H') := by
  intro pins s σ H x v vl vu lo hi sl k I rx hs pl pu h
  obtain ⟨F, M, d, Q, S, r, q, kQ⟩ := h
  cases q with
  | lst hl q =>
    obtain ⟨a, xs, rfl, ha, ra, _⟩ := hl.sq S r
    rw [hK] at ha
    exact sl_list pins s σ H _ v vl vu lo hi sl k I rx hs pl pu ⟨a, xs, rfl, ha, fun p hp => q.to S hp (cut_rep ra lo hi) fun d' M' F' z s S' r => kQ d' M' F' _ _ z s S' r⟩
  | tup q =>
    cases r with
    | tup ht ra =>
      have k1 := S.sub.sqT (K := g.K) ht
      rw [hK] at k1
      refine sl_tupA pins s σ H _ v vl vu lo hi sl k I rx hs pl pu ⟨_, _, rfl, k1, fun ⟨e1, e2⟩ => ?_, fun _ p hp => ?_⟩
      · have e := cut_rep ra lo hi
        rw [cut_all e1 e2] at e
        exact kQ _ M F _ H q (Same.r F) S (.tup ht e)
      · obtain ⟨s, S'⟩ := S.newF (o := .tup _) hp
        exact kQ _ M _ _ _ q s S' (.tup upd_same ((cut_rep ra lo hi).mono s))
theorem de_slice {lo hi : Option Expr} {l h : DO} {p2 : Pos} (hK : g.K = X.K) (he : PE X e (liftE g W de)) (hl : PO X lo (liftO g W l)) (hu : PO X hi (liftO g W h)) : PE X (.Subscript e (.Slice lo hi none p2) pos) (liftE g W (dSl de l h)) :=
  PE.imp (pe_slice (sl_any hK) he hl hu) fun σ H k ⟨ρ, M, F, Q, E, S, En, q, kQ, kE⟩ => by
    refine ⟨ρ, M, F, _, E, S, En, q, fun d M1 F1 v H1 q1 s1 S1 r1 => ?_, kE⟩
    refine ⟨ρ, M1, F1, _, E, S1, En.mono s1, q1, fun lo M2 F2 H2 q2 s2 S2 => ?_, fun C dd M' F' H' z s S' => kE C dd M' F' H' z (s1.t s) S'⟩
    refine ⟨ρ, M2, F2, _, E, S2, En.mono (s1.t s2), q2, fun hi M3 F3 H3 q3 s3 S3 => ?_, fun C dd M' F' H' z s S' => kE C dd M' F' H' z ((s1.t s2).t s) S'⟩
    exact ⟨F3, M3, d, Q, S3, r1.mono (s2.t s3), q3, fun d' M' F' w H' z s S' r => kQ d' M' F' w H' z (((s1.t s2).t s3).t s) S' r⟩
end
end DL
namespace DL
variable [Wd]
open PySem L2 PySem.Spec PyProof.Rows
/-! ### tuple(d) of a dict: its keys -/
section
variable {prog : Program} {w : World} {A : Around} {E : Value → Shared → Prop} {s : Shared} {T : String} {r d : Addr} {n : Nat} {P : Nat → Value → Prop} {OK : Heap → Prop}
/-- what stands behind a walk over the source -/
structure Took (P : Nat → Value → Prop) (n : Nat) (s s' : Shared) (acc : Array Value) : Prop where
  ex : ∃ (h' : Heap) (tk : Nat), s' = { s with heap := h', toks := tk } ∧ ∀ b o, s.heap.get? b = some o → h'.get? b = some o
  it : ItemsOf P acc n
theorem took_src {Q : List Value → Shared → Prop} (src : PySem.W.KdlSrc prog w T r d n P OK) (hh : A.handled = none) (hok : OK s.heap) (hn : n ≤ sizeLine) (hQ : ∀ s' acc, Took P n s s' acc → Q acc.toList s') :
    wpAny (model prog w) A (collect (.ref r)) Q E s := by
  have lt := src.there _ hok
  let L : Addr := s.heap.objs.size
  let s0 : Shared := { s with heap := s.heap.push { cls := .type "list", data := .seq ([] : List Value).toArray } }
  have at0 : s0.heap.get? L = some { cls := .type "list", data := .seq #[] 0 } := Heap.get?_push_size _ rfl
  have ok0 : OK s0.heap := src.keep _ _ hok fun b _ o e => Heap.get?_push_of_some _ e
  let R : Result → Shared → Prop := fun rr s' => rr = .ok (.ret (.ref L)) ∧ ∃ acc c', s'.heap.get? L = some { cls := .type "list", dict := none, data := .seq acc c', slots := #[] } ∧ Took P n s s' acc
  have main := PySem.W.kdl_extend (A := A) (R := R) (s := s0) src hh ok0 L (Nat.ne_of_gt lt.1) (Nat.ne_of_gt lt.2) (.ref L) 0 at0
    (fun h' tk acc' c' hk hS hi => ⟨rfl, acc', c', hS, ⟨h', tk, rfl, fun b o q => hk b o (Nat.ne_of_lt (Heap.lt_size q)) (Heap.get?_push_of_some _ q)⟩, hi⟩) hn
  have back : ∀ rr s', R rr s' → ∃ acc, rr = .ok (.ret (.ref L)) ∧ wpAny (model prog w) A (load L) (fun o s2 => s2 = s' ∧ ∃ c', o = { cls := .type "list", dict := none, data := .seq acc c', slots := #[] }) E s' ∧ Took P n s s' acc := fun rr s' ⟨e, acc, c', hS, tk⟩ =>
    ⟨acc, e, wpAny_load hS ⟨rfl, c', rfl⟩, tk⟩
  unfold collect
  refine wpAny_bind (wpAny_runValue (codeAny_builtin F.entry_proto_collect ?_))
  rw [Around.under_plainId F.plain_proto_collect _]
  refine wpAny_bind (m := newList []) (wpAny_newObj_type ?_)
  refine wpAny_pure ⟨plainId_quiet F.plain_list_iadd _, codeAny_builtin F.entry_list_iadd ?_⟩
  rw [Around.under_plainId F.plain_list_iadd _]
  refine wpAny_mono main (fun fin s' h => ?_) fun e s' h => nomatch h.1
  cases fin with
  | done f =>
    obtain ⟨acc, e, ld, tk⟩ := back _ _ h
    cases e
    exact wpAny_bind (m := load L) (wpAny_mono ld (fun o s2 ⟨es, c', eo⟩ => by subst es eo; exact wpAny_pure (hQ _ _ tk)) fun _ _ z => z)
  | again c' =>
    refine ⟨h.1, codeAny_mono h.2 fun rr s2 h2 => ?_⟩
    obtain ⟨acc, e, ld, tk⟩ := back _ _ h2
    subst e
    exact wpAny_bind (m := load L) (wpAny_mono ld (fun o s2 ⟨es, c', eo⟩ => by subst es eo; exact wpAny_pure (hQ _ _ tk)) fun _ _ z => z)
theorem new_tup_src {Q₁ : Value → Shared → Prop} (src : PySem.W.KdlSrc prog w T r d n P OK) (hh : A.handled = none) (hok : OK s.heap) (hn : n ≤ sizeLine)
    (h : ∀ s' acc, Took P n s s' acc → Q₁ (.ref s'.heap.objs.size) { s' with heap := s'.heap.push { cls := .type "tuple", data := .seq acc } }) :
    codeAny (model prog w) A (.call (.builtin "tuple.__new__") ⟨[.type "tuple", .ref r], []⟩) (wants Q₁ E) s := by
  have e1 := F.newCall_tuple_1 (.ref r)
  have sT := sub_tuple_self
  have iT := init_tuple_lookup
  have mT := madeHere_tuple
  have ty := src.type s hok
  refine codeAny_of_tree (wpAny_bind (m := checkBuiltinCall "tuple.__new__" ⟨[.type "tuple", .ref r], []⟩) (wpAny_of_eq e1 (wpAny_pure ⟨plainId_quiet F.plain_tuple_new _, codeAny_builtin F.entry_tuple_new ?_⟩)))
  rw [Around.under_plainId F.plain_tuple_new _]
  have hh1 : A.in1.handled = none := hh
  wp_walk using wpAny_typeOf ty
  rw [if_neg (by rw [src.notTuple]; exact Bool.false_ne_true)]
  refine wpAny_bind (took_src (A := A.in1) src hh1 hok hn fun s' acc tk => ?_)
  show wpAny _ _ (Builtin.Tuple.tupleExact acc.toList.toArray >>= fun v => ret v) _ _ _
  rw [Array.toArray_toList]
  unfold Builtin.Tuple.tupleExact
  exact wpAny_bind (wpAny_newObj_type (wpAny_pure (h s' acc tk)) (by show acc.size ≤ sizeLine; rw [tk.it.1]; exact hn))
theorem tup_src {Q : Value → Shared → Prop} (src : PySem.W.KdlSrc prog w T r d n P OK) (hh : A.handled = none) (hok : OK s.heap) (hn : n ≤ sizeLine)
    (h : ∀ s' acc, Took P n s s' acc → Q (.ref s'.heap.objs.size) { s' with heap := s'.heap.push { cls := .type "tuple", data := .seq acc } }) : wpAny (model prog w) A (call (.type "tuple") [.ref r]) Q E s := by
  refine callType_codes (Q₁ := fun o s₁ => s₁.TypeIs o "tuple" ∧ Q o s₁) F.called_tuple (F.typeCall_tuple_1 _) F.entry_object_init
    (new_tup_src (A := A.in1) src hh hok hn fun s' acc tk => ⟨⟨_, Heap.get?_push_size _ rfl, rfl⟩, h s' acc tk⟩) fun o s₁ h₁ => ?_
  refine ⟨h₁.1, F.args_object_init_2 o _, object_init_meets F.called_tuple.init.lookup F.called_tuple.made (by decide) prog w A.in1 _ s₁ ?_⟩
  exact ⟨h₁.1, rfl, h₁.2⟩
/-- tuple(d) -/
theorem call_tupD {X : Cx} (hc : X.calm = true) : CallR X (.type "tuple") (fun xs H Q => ∃ (a : Addr) (kvs : List (Key × V)), xs = [.ref a] ∧ Rd H a (.dK kvs) ∧ ∀ p, H p = none → Q (.ref p) (upd H p (.tup (kvs.map fun kv => kV kv.1)))) := by
  intro pins s σ H xs us Q I r q
  obtain ⟨a, kvs, rfl, hd, q⟩ := q
  obtain ⟨u, rfl, rx⟩ := vals1 r
  cases rx
  obtain ⟨z, lo, vs, rel, dd⟩ := dk_rd I.hok hd
  obtain ⟨ep, at1⟩ := dd.dictAt
  have z' : vs.length ≤ sizeLine := by rw [← rel.length]; exact z
  refine tup_src (PySem.W.kdl_dict (knd := mixKind X.prog X.w) (kvs := vs) (ep := ep) lo) (I.ok.hd hc) at1 z' fun s' acc tk => ?_
  obtain ⟨⟨h', tk', rfl, hk⟩, it⟩ := tk
  have I1 : Inv X pins σ H { s with heap := h', toks := tk' } := I.kept hk
  have hv : Vals (vs.map fun p => kV p.1) acc.toList := keys_at (by rw [Array.length_toList]; exact it.1) fun j v e => it.2 j v (by rw [← Array.getElem?_toList]; exact e)
  have ek : (kvs.map fun kv => kV kv.1) = vs.map fun p => kV p.1 := by
    have e := congrArg (List.map kV) rel.keys
    rwa [List.map_map, List.map_map] at e
  have hv' : Vals (kvs.map fun kv => kV kv.1) acc.toList := by rw [ek]; exact hv
  have hz : (kvs.map fun kv => kV kv.1).length ≤ sizeLine := by rw [List.length_map]; exact z
  have tp : IsTup (h'.push { cls := .type "tuple", data := .seq acc }) h'.objs.size acc.toList.toArray := by rw [Array.toArray_toList]; exact IsTup.new _ _
  have ob : ObjOk X.prog X.w (upd H h'.objs.size (.tup (kvs.map fun kv => kV kv.1))) (h'.push { cls := .type "tuple", data := .seq acc }) h'.objs.size (.tup (kvs.map fun kv => kV kv.1)) := ⟨hz, acc.toList, hv', tp⟩
  exact ⟨.ref h'.objs.size, _, I1.laid (t' := tk') (fun b o e => Heap.get?_push_of_some _ e) (Nat.le_refl _) ob, rfl, q _ (I1.hok.fresh (Nat.le_refl _))⟩
end
end DL
namespace DL
variable [Wd]
open PySem L2
section
variable {X : Cx} {g : G} {W : WX} {pos : Pos} {a b c e o : Expr} {es : List Expr} {da db dc de : DE} {dA : DA} {x f : Str} {p apos cpos : Pos}
/-! ### built-ins by name -/
abbrev DC := List D → Mem → (D → Mem → Prop) → Prop
def liftC (g : G) (r : DC) : List V → Hp → VK → Prop := fun vs H k => ∃ F M ds Q, Sta g F M H ∧ Reps g.K F vs ds ∧ r ds M Q ∧ ∀ d' M' F' v H', Q d' M' → Same F F' → Sta g F' M' H' → Rep g.K F' v d' → k v H'
def CallD (X : Cx) (g : G) (f : Value) (r : DC) : Prop := CallR X f (liftC g r)
def dCB (r : DC) (dA : DA) : DE := fun ρ M Q E => dA ρ M (fun ds M1 => r ds M1 Q) E
theorem lift_cb {r : DC} {σ : L2.St} {H : Hp} {k : VK} (h : liftE g W (dCB r dA) σ H k) : tCB (liftC g r) (liftA g W dA) σ H k := by
  obtain ⟨ρ, M, F, Q, E, S, En, q, kQ, kE⟩ := h
  exact ⟨ρ, M, F, _, E, S, En, q, fun ds M1 F1 vs H1 q1 s1 S1 r1 => ⟨F1, M1, ds, Q, S1, r1, q1, fun d' M' F' v H' z s S' r => kQ d' M' F' v H' z (s1.t s) S' r⟩, kE⟩
theorem de_callB {r : DC} {id : String} (hc : CallD X g (.builtin id) r) (hg : Gl X x) (hm : X.mg x = none) (hv : bootBuiltins x = some (.builtin id)) (ha : PA X (e :: es) (liftA g W dA)) (hn : x ≠ "__name__" := by decide) (hdb : (x == ("__debug__" : Str)) = false := by decide)
    (he : starEach (e :: es) X.env = (false, eval e X.env) :: starEach es X.env := by rfl) (hpl : (backTo pos (starEach es X.env)).any (·.1) = false := by rfl) : PE X (.Call (.Name x p) (e :: es) [] pos) (liftE g W (dCB r dA)) :=
  PE.imp (pe_callB hc hg hm hv ha hn hdb he hpl) fun _ _ _ h => lift_cb h
theorem de_callTy {r : DC} {T : String} (hc : CallD X g (.type T) r) (hg : Gl X x) (hm : X.mg x = none) (hv : bootBuiltins x = some (.type T)) (ha : PA X (e :: es) (liftA g W dA)) (hn : x ≠ "__name__" := by decide) (hdb : (x == ("__debug__" : Str)) = false := by decide)
    (he : starEach (e :: es) X.env = (false, eval e X.env) :: starEach es X.env := by rfl) (hpl : (backTo pos (starEach es X.env)).any (·.1) = false := by rfl) : PE X (.Call (.Name x p) (e :: es) [] pos) (liftE g W (dCB r dA)) :=
  PE.imp (pe_callTy hc hg hm hv ha hn hdb he hpl) fun _ _ _ h => lift_cb h
inductive LenC (M : Mem) (Q : D → Mem → Prop) : List D → Prop
  | seq {d : D} {ds : List D} : IsS M d ds → Q (.int (ds.length : Nat)) M → LenC M Q [d]
  | str {z : Str} : z.length ≤ sizeLine → Q (.int (z.length : Nat)) M → LenC M Q [.str z]
  | dic {d : D} {es : List (Key × D)} : IsDic M d es → Q (.int (es.length : Nat)) M → LenC M Q [d]
  | dit {d : D} {es : List (D × D)} : IsDit M d es → Q (.int (es.length : Nat)) M → LenC M Q [d]
theorem cd_len (hw : X.w = Wd.w) (hK : g.K = X.K) : CallD X g (.builtin "len") (fun ds M Q => LenC M Q ds) := by
  intro pins s σ H vs us k I r h
  obtain ⟨F, M, ds, Q, S, r1, q, kQ⟩ := h
  cases q with
  | seq hs q =>
    cases r1 with
    | cons r1 rn =>
      cases rn
      obtain ⟨a, xs, rfl, ha, ra⟩ := hs.to S r1
      rw [hK] at ha
      have ev : ∀ d : D, d = .int (xs.length : Nat) → d = .int ((_ : List D).length : Nat) := fun d e => by rw [e, ra.length]
      refine call_len pins s σ H _ us k I r ⟨_, xs.length, rfl, ?_, ?_⟩
      · rcases ha with ha | ha
        · exact .inl ⟨xs, ha, rfl⟩
        · exact .inr ⟨xs, ha, rfl⟩
      · rw [ra.length]
        exact kQ _ M F _ H q (Same.r F) S (.int _)
  | str hz q =>
    cases r1 with
    | cons r1 rn =>
      cases rn
      cases r1
      exact call_len pins s σ H _ us k I r ⟨_, _, rfl, ⟨hz, rfl⟩, kQ _ M F _ H q (Same.r F) S (.int _)⟩
  | dic hm q =>
    cases r1 with
    | cons r1 rn =>
      cases rn
      obtain ⟨a, kvs, rfl, ha, l, rr⟩ := hm.to S r1
      obtain ⟨u, eu, rx⟩ := vals1 r
      subst eu
      cases rx
      refine d_len I ha fun t s' I' => ⟨.int (kvs.length : Nat), H, I', ⟨t, rfl⟩, ?_⟩
      have e := congrArg List.length l
      rw [List.length_map, List.length_map] at e
      rw [e]
      exact kQ _ M F _ H q (Same.r F) S (.int _)
  | dit hm q =>
    cases r1 with
    | cons r1 rn =>
      cases rn
      obtain ⟨a, xs, rfl, ha, en⟩ := hm.to S r1
      obtain ⟨u, eu, rx⟩ := vals1 r
      subst eu
      cases rx
      obtain ⟨dd, hz, hy⟩ := nk_dict hw I S ha en
      have hs : (sizeLine : Nat) = 16777216 := sizeLine_eq
      refine call_len_dictH hy dd (by omega) ⟨.int (xs.length : Nat), H, (I.tok _).tok _, ⟨_, rfl⟩, ?_⟩
      rw [en.length]
      exact kQ _ M F _ H q (Same.r F) S (.int _)
inductive ListC (M : Mem) (Q : D → Mem → Prop) : List D → Prop
  | seq {d : D} {ds : List D} : IsS M d ds → NewL ds M Q → ListC M Q [d]
  | dic {d : D} {es : List (Key × D)} : IsDic M d es → NewL (es.map fun kv => keyD kv.1) M Q → ListC M Q [d]
  | dit {d : D} {es : List (D × D)} : IsDit M d es → NewL (es.map (·.1)) M Q → ListC M Q [d]
theorem EntI.keys {K : PySem.W.Frag} {F : Hp} {xs : List (NestedKey × Addr × Value)} {es : List (D × D)} (h : EntI K F xs es) : Reps K F (xs.map fun x => V.ref x.2.1) (es.map (·.1)) := by
  induction h with
  | nil => exact .nil
  | cons _ a2 _ _ _ ih => exact .cons a2 ih
theorem vals_ref : ∀ bs : List Addr, Vals (bs.map V.ref) (bs.map Value.ref)
  | [] => .nil
  | _ :: r => .cons rfl (vals_ref r)
/-- list(d), its keys tuples -/
theorem call_listN (hw : X.w = Wd.w) (hc : X.calm = true) {pins : List (Addr × Obj)} {s : Shared} {σ : L2.St} {H : Hp} {a : Addr} {xs : List (NestedKey × Addr × Value)} {k : VK} (I : Inv X pins σ H s) (h : Rd H a (hoN a xs)) (q : ∀ p, H p = none → k (.ref p) (upd H p (.lst (xs.map fun x => V.ref x.2.1)))) :
    wpAny (model X.prog X.w) X.A (call (.type "list") [.ref a]) (EP X pins σ k) X.xe s := by
  obtain ⟨⟨z, y, nd, o, es', ep, h1, h2, h3, h4⟩, _⟩ : ObjOk X.prog X.w H s.heap a (hoN a xs) := by
    rcases h with h | ⟨ob, h⟩
    · exact I.hok a _ h
    · exact (show ObjOk X.prog X.w H s.heap a (.frz ob (hoN a xs)) from I.hok a _ h).2
  have hsz : es'.size = xs.length := by rw [← Array.length_toList, h4, List.length_map]
  refine PySem.W.kdl_call (kdl_raw y h2 h3) (I.ok.hd hc) h1 (by omega) fun h' tk acc c kp e it => ?_
  have ea : acc.toList = (xs.map fun x => x.2.1).map Value.ref := by
    refine List.ext_getElem? fun j => ?_
    rw [Array.getElem?_toList, List.getElem?_map, List.getElem?_map]
    cases hj : acc[j]? with
    | none =>
      have := it.1
      have h5 := Array.getElem?_eq_none_iff.mp hj
      rw [List.getElem?_eq_none (show xs.length ≤ j by omega)]
      rfl
    | some v =>
      obtain ⟨en, hen, hv⟩ := it.2 j v hj
      rw [← Array.getElem?_toList, h4, List.getElem?_map] at hen
      cases hx : xs[j]? with
      | none => rw [hx] at hen; cases hen
      | some x =>
        rw [hx] at hen
        cases hen
        rw [hv]
        rfl
  have rv : Vals (xs.map fun x => V.ref x.2.1) acc.toList := by
    rw [ea]
    have := vals_ref (xs.map fun x => x.2.1)
    rwa [List.map_map] at this
  refine ⟨.ref s.heap.objs.size, _, I.laid (t' := tk) (o := .lst (xs.map fun x => V.ref x.2.1)) kp (Nat.le_refl _) ?_, rfl, q _ (I.hok.fresh (Nat.le_refl _))⟩
  exact ⟨by rw [List.length_map]; exact z, acc.toList, c, rv, by rw [Array.toArray_toList]; exact e⟩
theorem keys_reps {K : PySem.W.Frag} {F : Hp} {kvs : List (Key × V)} {es : List (Key × D)} (l : kvs.map (·.1) = es.map (·.1)) : Reps K F (kvs.map fun kv => kV kv.1) (es.map fun kv => keyD kv.1) := by
  have g : ∀ ks : List Key, Reps K F (ks.map kV) (ks.map keyD) := fun ks => by
    induction ks with
    | nil => exact .nil
    | cons q ks ih => exact .cons (by cases q <;> first | exact .int _ | exact .str _) ih
  have h := g (kvs.map (·.1))
  rw [List.map_map] at h
  rw [l, List.map_map] at h
  exact h
theorem cd_list (hw : X.w = Wd.w) (hK : g.K = X.K) (hc : X.calm = true) : CallD X g (.type "list") (fun ds M Q => ListC M Q ds) := by
  intro pins s σ H vs us k I r h
  obtain ⟨F, M, ds, Q, S, r1, q, kQ⟩ := h
  cases q with
  | seq hs q =>
    cases r1 with
    | cons r1 rn =>
      cases rn
      obtain ⟨a, xs, rfl, ha, ra⟩ := hs.to S r1
      rw [hK] at ha
      exact call_list_of pins s σ H _ us k I r ⟨a, xs, rfl, ha, fun p hp => q.to S hp ra fun d' M' F' z s S' r => kQ d' M' F' _ _ z s S' r⟩
  | dic hs q =>
    cases r1 with
    | cons r1 rn =>
      cases rn
      obtain ⟨a, kvs, rfl, ha, l, rr⟩ := hs.to S r1
      exact call_listD hc pins s σ H _ us k I r ⟨a, kvs, rfl, ha, fun p hp => q.to S hp (keys_reps l) fun d' M' F' z s S' r => kQ d' M' F' _ _ z s S' r⟩
  | dit hs q =>
    cases r1 with
    | cons r1 rn =>
      cases rn
      obtain ⟨a, xs, rfl, ha, en⟩ := hs.to S r1
      obtain ⟨u, eu, rx⟩ := vals1 r
      subst eu
      cases rx
      exact call_listN hw hc I ha fun p hp => q.to S hp en.keys fun d' M' F' z s S' r => kQ d' M' F' _ _ z s S' r
inductive TupC (M : Mem) (Q : D → Mem → Prop) : List D → Prop
  | lst {d : D} {ds : List D} {st : Mem → Prop} : IsL M d ds st → Q (.tup ds) M → TupC M Q [d]
  | tup {ds : List D} : Q (.tup ds) M → TupC M Q [.tup ds]
  | dic {d : D} {es : List (Key × D)} : IsDic M d es → Q (.tup (es.map fun kv => keyD kv.1)) M → TupC M Q [d]
theorem cd_tuple (hK : g.K = X.K) (hc : X.calm = true) : CallD X g (.type "tuple") (fun ds M Q => TupC M Q ds) := by
  intro pins s σ H vs us k I r h
  obtain ⟨F, M, ds, Q, S, r1, q, kQ⟩ := h
  cases q with
  | lst hs q =>
    cases r1 with
    | cons r1 rn =>
      cases rn
      obtain ⟨a, xs, rfl, ha, ra, _⟩ := hs.sq S r1
      rw [hK] at ha
      refine call_tuple_of pins s σ H _ us k I r ⟨a, xs, rfl, .inl ⟨ha, fun p hp => ?_⟩⟩
      obtain ⟨s, S'⟩ := S.newF (o := .tup xs) hp
      exact kQ _ M _ _ _ q s S' (.tup upd_same (ra.mono s))
  | tup q =>
    cases r1 with
    | cons r1 rn =>
      cases rn
      cases r1 with
      | tup ht ra =>
        have k1 := S.sub.sqT (K := g.K) ht
        rw [hK] at k1
        exact call_tuple_of pins s σ H _ us k I r ⟨_, _, rfl, .inr ⟨k1, kQ _ M F _ H q (Same.r F) S (.tup ht ra)⟩⟩
  | dic hs q =>
    cases r1 with
    | cons r1 rn =>
      cases rn
      obtain ⟨a, kvs, rfl, ha, l, rr⟩ := hs.to S r1
      refine call_tupD hc pins s σ H _ us k I r ⟨a, kvs, rfl, ha, fun p hp => ?_⟩
      obtain ⟨s, S'⟩ := S.newF (o := .tup (kvs.map fun kv => kV kv.1)) hp
      exact kQ _ M _ _ _ q s S' (.tup upd_same ((keys_reps l).mono s))
inductive IntC (M : Mem) (Q : D → Mem → Prop) : List D → Prop
  | int {i : Int} : Q (.int i) M → IntC M Q [.int i]
  | bl {b : Bool} : Q (.int (if b then 1 else 0)) M → IntC M Q [.bl b]
theorem cd_int : CallD X g (.type "int") (fun ds M Q => IntC M Q ds) := by
  intro pins s σ H vs us k I r h
  obtain ⟨F, M, ds, Q, S, r1, q, kQ⟩ := h
  cases q with
  | int q =>
    cases r1 with
    | cons r1 rn =>
      cases rn; cases r1
      exact call_int1 pins s σ H _ us k I r (.inl ⟨_, rfl, kQ _ M F _ H q (Same.r F) S (.int _)⟩)
  | bl q =>
    cases r1 with
    | cons r1 rn =>
      cases rn; cases r1
      exact call_int1 pins s σ H _ us k I r (.inr ⟨_, rfl, kQ _ M F _ H q (Same.r F) S (.int _)⟩)
inductive MinC (M : Mem) (Q : D → Mem → Prop) : List D → Prop
  | two {i j : Int} : Q (.int (if j < i then j else i)) M → MinC M Q [.int i, .int j]
  | lst {d : D} {ns : List Int} {st : Mem → Prop} : IsL M d (ns.map .int) st → 0 < ns.length → (∀ m, m ∈ ns → (∀ y, y ∈ ns → m ≤ y) → Q (.int m) M) → MinC M Q [d]
theorem ints_rep {K : PySem.W.Frag} {F : Hp} : ∀ {vs : List V} {ns : List Int}, Reps K F vs (ns.map .int) → vs = ns.map V.int
  | _, [], .nil => rfl
  | _, _ :: _, .cons r t => by cases r; rw [ints_rep t]; rfl
theorem bls_rep {K : PySem.W.Frag} {F : Hp} : ∀ {vs : List V} {ns : List Bool}, Reps K F vs (ns.map .bl) → vs = ns.map V.bl
  | _, [], .nil => rfl
  | _, _ :: _, .cons r t => by cases r; rw [bls_rep t]; rfl
theorem cd_min (hK : g.K = X.K) (hc : X.calm = true) : CallD X g (.builtin "min") (fun ds M Q => MinC M Q ds) := by
  intro pins s σ H vs us k I r h
  obtain ⟨F, M, ds, Q, S, r1, q, kQ⟩ := h
  cases q with
  | two q =>
    cases r1 with
    | cons r1 rn =>
      cases rn with
      | cons r2 rn =>
        cases rn; cases r1; cases r2
        exact call_min2 hc pins s σ H _ us k I r ⟨_, _, rfl, kQ _ M F _ H q (Same.r F) S (.int _)⟩
  | lst hs hn q =>
    cases r1 with
    | cons r1 rn =>
      cases rn
      obtain ⟨a, xs, rfl, ha, ra, _⟩ := hs.sq S r1
      rw [hK] at ha
      rw [ints_rep ra] at ha
      exact cr_min hc pins s σ H _ us k I r ⟨a, _, rfl, ha, hn, fun m h1 h2 => kQ _ M F _ H (q m h1 h2) (Same.r F) S (.int _)⟩
inductive SumC (M : Mem) (Q : D → Mem → Prop) : List D → Prop
  | lst {d : D} {ns : List Int} {st : Mem → Prop} : IsL M d (ns.map .int) st → Q (.int ns.sum) M → SumC M Q [d]
theorem cd_sum (hK : g.K = X.K) (hc : X.calm = true) : CallD X g (.builtin "sum") (fun ds M Q => SumC M Q ds) := by
  intro pins s σ H vs us k I r h
  obtain ⟨F, M, ds, Q, S, r1, q, kQ⟩ := h
  cases q with
  | lst hs q =>
    cases r1 with
    | cons r1 rn =>
      cases rn
      obtain ⟨a, xs, rfl, ha, ra, _⟩ := hs.sq S r1
      rw [hK] at ha
      rw [ints_rep ra] at ha
      exact cr_sum hc pins s σ H _ us k I r ⟨a, _, rfl, ha, kQ _ M F _ H q (Same.r F) S (.int _)⟩
inductive AnyC (all : Bool) (M : Mem) (Q : D → Mem → Prop) : List D → Prop
  | lst {d : D} {bs : List Bool} {st : Mem → Prop} : IsL M d (bs.map .bl) st → Q (.bl (if all then bs.all id else bs.any id)) M → AnyC all M Q [d]
theorem cd_any (hK : g.K = X.K) (hc : X.calm = true) : CallD X g (.builtin "any") (fun ds M Q => AnyC false M Q ds) := by
  intro pins s σ H vs us k I r h
  obtain ⟨F, M, ds, Q, S, r1, q, kQ⟩ := h
  cases q with
  | lst hs q =>
    cases r1 with
    | cons r1 rn =>
      cases rn
      obtain ⟨a, xs, rfl, ha, ra, _⟩ := hs.sq S r1
      rw [hK] at ha
      rw [bls_rep ra] at ha
      exact cr_any hc pins s σ H _ us k I r ⟨a, _, rfl, ha, kQ _ M F _ H q (Same.r F) S (.bl _)⟩
theorem cd_all (hK : g.K = X.K) (hc : X.calm = true) : CallD X g (.builtin "all") (fun ds M Q => AnyC true M Q ds) := by
  intro pins s σ H vs us k I r h
  obtain ⟨F, M, ds, Q, S, r1, q, kQ⟩ := h
  cases q with
  | lst hs q =>
    cases r1 with
    | cons r1 rn =>
      cases rn
      obtain ⟨a, xs, rfl, ha, ra, _⟩ := hs.sq S r1
      rw [hK] at ha
      rw [bls_rep ra] at ha
      exact cr_all hc pins s σ H _ us k I r ⟨a, _, rfl, ha, kQ _ M F _ H q (Same.r F) S (.bl _)⟩

/-! ### methods of built-in types -/
abbrev DM := D → List D → Mem → (D → Mem → Prop) → Prop
def liftM (g : G) (r : DM) : V → List V → Hp → VK → Prop := fun x vs H k => ∃ F M d ds Q, Sta g F M H ∧ Rep g.K F x d ∧ Reps g.K F vs ds ∧ r d ds M Q ∧ ∀ d' M' F' v H', Q d' M' → Same F F' → Sta g F' M' H' → Rep g.K F' v d' → k v H'
def MtD (X : Cx) (g : G) (id : String) (r : DM) : Prop := MtR X id (liftM g r)
inductive TyD : String → Mem → D → Prop
  | lst {M : Mem} {d : D} {ds : List D} {st : Mem → Prop} : IsL M d ds st → TyD "list" M d
  | str {M : Mem} {z : Str} : TyD "str" M (.str z)
  | dic {M : Mem} {q : Addr} {es : List (Key × D)} : (q, .dic es) ∈ M → TyD "dict" M (.ptr q)
theorem TyD.to {T : String} {F : Hp} {M : Mem} {H : Hp} {v : V} {d : D} (t : TyD T M d) (S : Sta g F M H) (r : Rep g.K F v d) : tyV g.K T v H := by
  cases t with
  | lst hs =>
    obtain ⟨a, xs, rfl, ha, _, _⟩ := hs.sq S r
    exact .inl ⟨rfl, xs, ha⟩
  | str => cases r; exact rfl
  | dic hm =>
    cases r
    obtain ⟨_, o, ho, kvs, rfl, l, rr⟩ := S.mem _ _ hm
    exact .inr (.inr (.inl ⟨rfl, .inl ⟨kvs, ho⟩⟩))
def dBM (T : String) (r : DM) (do_ : DE) (dA : DA) : DE := fun ρ M Q E => do_ ρ M (fun d M1 => TyD T M1 d ∧ dA ρ M1 (fun ds M2 => r d ds M2 Q) E) E
theorem de_bm {T id : String} {name : Str} {r : DM} {do_ : DE} (pa : PlainAttrs T) (slot : Slot T name id) (hty : typeOf (.builtin id) = pure (.type "method_descriptor")) (hK : g.K = X.K) (hm : MtD X g id r) (ho : PE X o (liftE g W do_)) (ha : PA X (e :: es) (liftA g W dA))
    (hbase : attributeBase o name X.env (eval o X.env) = eval o X.env := by rfl)
    (hfew : ((backTo cpos (starEach (e :: es) X.env)).all (fun x => !x.1) && (backToKw cpos (keywordEach [] X.env)).all (fun x => x.1.isSome)
      && decide ((e :: es).length + ([] : List Keyword).length + (if ([] : List Keyword).isEmpty then 0 else 1) < 30)) = true := by rfl)
    (hline : (apos.endLine == cpos.line) = true := by rfl) (hs : starEach (e :: es) X.env = (false, eval e X.env) :: starEach es X.env := by rfl) (hplain : (backTo cpos (starEach es X.env)).any (·.1) = false := by rfl) :
    PE X (.Call (.Attribute o name apos) (e :: es) [] cpos) (liftE g W (dBM T r do_ dA)) :=
  PE.imp (pe_bm pa slot hty hm ho ha hbase hfew hline hs hplain) fun σ H k ⟨ρ, M, F, Q, E, S, En, q, kQ, kE⟩ =>
    ⟨ρ, M, F, _, E, S, En, q, fun d M1 F1 v H1 ⟨t, q1⟩ s1 S1 r1 => ⟨by rw [← hK]; exact t.to S1 r1, ρ, M1, F1, _, E, S1, En.mono s1, q1, fun ds M2 F2 vs H2 q2 s2 S2 r2 =>
      ⟨F2, M2, d, ds, Q, S2, r1.mono s2, r2, q2, fun d' M' F' w H' z s S' r => kQ d' M' F' w H' z ((s1.t s2).t s) S' r⟩, fun C dd M' F' H' z s S' => kE C dd M' F' H' z (s1.t s) S'⟩, kE⟩
inductive AppM (M : Mem) (Q : D → Mem → Prop) : D → List D → Prop
  | ptr {q : Addr} {ds : List D} {d : D} {M' : Mem} : Upd q (.lst ds) (.lst (ds ++ [d])) M M' → ds.length < sizeLine → Q .non M' → AppM M Q (.ptr q) [d]
theorem md_append : MtD X g "list.append" (fun d ds M Q => AppM M Q d ds) := by
  intro pins s σ H x vs v us k I rx rv h
  obtain ⟨F, M, d, ds, Q, S, r1, r2, q, kQ⟩ := h
  cases q with
  | ptr u hz q =>
    cases r1
    cases r2 with
    | cons r2 rn =>
      cases rn
      obtain ⟨_, o, ho, xs, rfl, rr⟩ := S.mem _ _ u.old
      exact mt_append pins s σ H _ _ v us k I rx rv ⟨_, xs, _, rfl, rfl, ho, by rw [rr.length]; exact hz, kQ _ _ F _ _ q (Same.r F) (S.upd u ⟨_, rfl, rr.append (.cons r2 .nil)⟩) .non⟩
end
end DL
namespace DL
variable [Wd]
open PySem L2
section
variable {X : Cx} {g : G} {W : WX} {pos : Pos} {a b c e o : Expr} {es : List Expr} {da db dc de : DE} {dA : DA} {x f m : Str} {p apos cpos : Pos}
/-! ### instances -/
inductive Has : List (Str × D) → Str → D → Prop
  | head {f : Str} {d : D} {r : List (Str × D)} : Has ((f, d) :: r) f d
  | tail {f f' : Str} {d e : D} {r : List (Str × D)} : f' ≠ f → Has r f d → Has ((f', e) :: r) f d
inductive Put : List (Str × D) → Str → D → List (Str × D) → Prop
  | nil {f : Str} {d : D} : Put [] f d [(f, d)]
  | head {f : Str} {d e : D} {r : List (Str × D)} : Put ((f, e) :: r) f d ((f, d) :: r)
  | tail {f f' : Str} {d e : D} {r r' : List (Str × D)} : f' ≠ f → Put r f d r' → Put ((f', e) :: r) f d ((f', e) :: r')
inductive NoF (m : Str) : List (Str × D) → Prop
  | nil : NoF m []
  | cons {f : Str} {d : D} {r : List (Str × D)} : f ≠ m → NoF m r → NoF m ((f, d) :: r)
theorem lookup_hd {f : Str} {v : V} {r : List (Str × V)} : ((f, v) :: r).lookup f = some v := by simp [List.lookup]
theorem lookup_tl {f f' : Str} {v : V} {r : List (Str × V)} (h : f' ≠ f) : ((f', v) :: r).lookup f = r.lookup f := by
  have e : (f == f') = false := by simpa using fun z => h z.symm
  simp [List.lookup, e]
theorem Has.rep {K : PySem.W.Frag} {F : Hp} {es : List (Str × D)} {f : Str} {d : D} (h : Has es f d) : ∀ {kvs : List (Str × V)}, kvs.map (·.1) = es.map (·.1) → Reps K F (kvs.map (·.2)) (es.map (·.2)) → ∃ v, kvs.lookup f = some v ∧ Rep K F v d := by
  induction h with
  | head =>
    intro kvs hk r
    cases kvs with
    | nil => cases hk
    | cons q kvs =>
      obtain ⟨k, v⟩ := q
      have e := (List.cons.inj hk).1
      simp only at e
      subst e
      cases r with
      | cons r _ => exact ⟨v, lookup_hd, r⟩
  | tail ne _ ih =>
    intro kvs hk r
    cases kvs with
    | nil => cases hk
    | cons q kvs =>
      obtain ⟨k, v⟩ := q
      have e := (List.cons.inj hk).1
      simp only at e
      subst e
      cases r with
      | cons _ r =>
        obtain ⟨u, h1, h2⟩ := ih (List.cons.inj hk).2 r
        exact ⟨u, by rw [lookup_tl ne]; exact h1, h2⟩
theorem NoF.rep {es : List (Str × D)} {m : Str} (h : NoF m es) : ∀ {kvs : List (Str × V)}, kvs.map (·.1) = es.map (·.1) → kvs.lookup m = none := by
  induction h with
  | nil =>
    intro kvs hk
    cases kvs with
    | nil => rfl
    | cons _ _ => cases hk
  | cons ne _ ih =>
    intro kvs hk
    cases kvs with
    | nil => cases hk
    | cons q kvs =>
      obtain ⟨k, v⟩ := q
      have e := (List.cons.inj hk).1
      simp only at e
      subst e
      rw [lookup_tl ne]
      exact ih (List.cons.inj hk).2
theorem putF_hd {f : Str} {v w : V} {r : List (Str × V)} : putF f v ((f, w) :: r) = (f, v) :: r := by
  show (if f = f then _ else _) = _
  rw [if_pos rfl]
theorem putF_tl {f f' : Str} {v w : V} {r : List (Str × V)} (h : f' ≠ f) : putF f v ((f', w) :: r) = (f', w) :: putF f v r := by
  show (if f' = f then _ else _) = _
  rw [if_neg h]
theorem Put.rep {K : PySem.W.Frag} {F : Hp} {es es' : List (Str × D)} {f : Str} {d : D} (h : Put es f d es') {v : V} (rv : Rep K F v d) : ∀ {kvs : List (Str × V)}, kvs.map (·.1) = es.map (·.1) → Reps K F (kvs.map (·.2)) (es.map (·.2)) →
    (putF f v kvs).map (·.1) = es'.map (·.1) ∧ Reps K F ((putF f v kvs).map (·.2)) (es'.map (·.2)) := by
  induction h with
  | nil =>
    intro kvs hk r
    cases kvs with
    | nil => exact ⟨rfl, .cons rv .nil⟩
    | cons _ _ => cases hk
  | head =>
    intro kvs hk r
    cases kvs with
    | nil => cases hk
    | cons q kvs =>
      obtain ⟨k, w⟩ := q
      have e := (List.cons.inj hk).1
      simp only at e
      subst e
      rw [putF_hd]
      cases r with
      | cons _ r => exact ⟨congrArg _ (List.cons.inj hk).2, .cons rv r⟩
  | tail ne _ ih =>
    intro kvs hk r
    cases kvs with
    | nil => cases hk
    | cons q kvs =>
      obtain ⟨k, w⟩ := q
      have e := (List.cons.inj hk).1
      simp only at e
      subst e
      rw [putF_tl ne]
      cases r with
      | cons r1 r =>
        obtain ⟨i1, i2⟩ := ih rv (List.cons.inj hk).2 r
        exact ⟨congrArg _ i1, .cons r1 i2⟩
inductive IsO (M : Mem) : D → Addr → List (Str × D) → Prop
  | obj (C : Addr) (es : List (Str × D)) : IsO M (.obj C es) C es
  | ptr {q C : Addr} {es : List (Str × D)} : (q, .obj C es) ∈ M → IsO M (.ptr q) C es
theorem IsO.to {F : Hp} {M : Mem} {H : Hp} {v : V} {d : D} {C : Addr} {es : List (Str × D)} (h : IsO M d C es) (S : Sta g F M H) (r : Rep g.K F v d) :
    ∃ a dx kvs, v = .ref a ∧ H a = some (.ins C dx kvs) ∧ kvs.map (·.1) = es.map (·.1) ∧ Reps g.K F (kvs.map (·.2)) (es.map (·.2)) := by
  cases h with
  | obj => cases r with | obj e l r => exact ⟨_, _, _, rfl, S.sub.ins e, l, r⟩
  | ptr h =>
    cases r
    obtain ⟨_, o, ho, dx, kvs, rfl, l, r⟩ := S.mem _ _ h
    exact ⟨_, dx, kvs, rfl, ho, l, r⟩
/-- f is a plain attribute of the instances of the class at C -/
structure FldOk (K : PySem.W.Frag) (C : Addr) (f : Str) : Prop where
  cl : Cls K C
  no : NoAttr K C f
def dFld (K : PySem.W.Frag) (de : DE) (f : Str) : DE := fun ρ M Q E => de ρ M (fun d M' => ∃ C es d', IsO M' d C es ∧ FldOk K C f ∧ Has es f d' ∧ Q d' M') E
theorem de_fld (hK : g.K = X.K) (he : PE X e (liftE g W de)) (hb : attributeBase e f X.env (eval e X.env) = eval e X.env := by rfl) : PE X (.Attribute e f pos) (liftE g W (dFld X.K de f)) :=
  PE.imp (pe_fld he hb) fun σ H k ⟨ρ, M, F, Q, E, S, En, q, kQ, kE⟩ => ⟨ρ, M, F, _, E, S, En, q, fun d M' F' v H' ⟨C, es, d', ho, fo, hs, z⟩ s S' r => by
    obtain ⟨a, dx, kvs, rfl, ha, l, rr⟩ := ho.to S' r
    obtain ⟨u, h1, h2⟩ := hs.rep l rr
    exact ⟨a, C, dx, kvs, u, rfl, ha, fo.cl, fo.no, h1, kQ _ M' F' _ H' z s S' h2⟩, kE⟩
/-- o.f = e -/
def sFldD (K : PySem.W.Frag) (do_ de : DE) (f : Str) : DS := fun nx _ _ _ ex ρ M => de ρ M (fun d M1 => do_ ρ M1 (fun x M2 => ∃ q C es es' M3, x = .ptr q ∧ FldOk K C f ∧ es.length < 1000 ∧ Put es f d es' ∧ Upd q (.obj C es) (.obj C es') M2 M3 ∧ nx ρ M3) (fun C dd M' => ex C dd ρ M')) (fun C dd M' => ex C dd ρ M')
theorem ds_fld {value : Expr} {pos' : Pos} {do_ : DE} (hK : g.K = X.K) (ho : PE X o (liftE g W do_)) (hv : PE X value (liftE g W de)) (hs : swapsWith value (some (.Attribute o f pos')) pos.line X.env = pure false := by rfl) :
    PS X (.Assign [.Attribute o f pos'] value pos) (liftS g W (sFldD X.K do_ de f)) :=
  PS.imp (ps_fld ho hv hs) fun D σ H ⟨ρ, M, F, nx, rt, bk, ct, ex, S, En, q, k1, k2, k3, k4, k5⟩ =>
    ⟨ρ, M, F, _, _, S, En, q, fun d M1 F1 v H1 q1 s1 S1 r1 => ⟨ρ, M1, F1, _, _, S1, En.mono s1, q1, fun y M2 F2 u H2 ⟨qa, C, fs, fs', M3, ey, fo, hl, hp, hu, z⟩ s2 S2 r2 => by
      subst ey
      cases r2
      obtain ⟨_, o, ho, dx, kvs, rfl, l, rr⟩ := S2.mem _ _ hu.old
      obtain ⟨i1, i2⟩ := hp.rep (r1.mono s2) l rr
      have el : kvs.length = fs.length := by
        have := congrArg List.length l
        rwa [List.length_map, List.length_map] at this
      exact ⟨qa, C, dx, kvs, rfl, ho, fo.cl, fo.no, by rw [el]; exact hl, k1 ρ M3 F2 σ _ z (s1.t s2) (S2.upd hu ⟨dx, _, rfl, i1, i2⟩) (En.mono (s1.t s2))⟩,
      fun C dd M' F' H' z s S' => k5 C dd ρ M' F' σ H' z (s1.t s) S' (En.mono (s1.t s))⟩, fun C dd M' F' H' z s S' => k5 C dd ρ M' F' σ H' z s S' (En.mono s)⟩

/-! ### defs -/
def spOf (K : PySem.W.Frag) (sd : SpD) : Sp := fun vs H Q E => ∃ U M F ds Qd Ed, Sta ⟨K, U⟩ F M H ∧ Reps K F vs ds ∧ sd ds M Qd Ed ∧
  (∀ d M' F' v H', Qd d M' → Same F F' → Sta ⟨K, U⟩ F' M' H' → Rep K F' v d → Q v H') ∧ (∀ C dd M' F' H', Ed C dd M' → Same F F' → Sta ⟨K, U⟩ F' M' H' → E (.ref C) (some dd) H')
abbrev FnD (P : Program) (w : World) (K : PySem.W.Frag) (mg : Str → Option Value) (base : Heap) (k : Nat) (f : Addr) (sd : SpD) : Prop := FnR P w K mg base (L2.CX P w) k f (spOf K sd)
/-- the slots at the entry -/
def start0 (N : List Str) (ds : List D) : Rho := ds.map some ++ List.replicate (N.length - ds.length) none
theorem at_app : ∀ (ds : List D) (n i : Nat) (d : D), at_ (ds.map some ++ List.replicate n none) i = some d → ds[i]? = some d
  | [], n, i, d, h => by
    exfalso
    induction n generalizing i with
    | zero => cases h
    | succ n ih =>
      cases i with
      | zero => cases h
      | succ i => exact ih i h
  | e :: ds, n, 0, d, h => by cases h; rfl
  | e :: ds, n, i + 1, d, h => by simpa using at_app ds n i d h
theorem env_start {K : PySem.W.Frag} {F : Hp} {N : List Str} {vs : List V} {ds : List D} (r : Reps K F vs ds) : Enr K F (L2.start N vs) (start0 N ds) := by
  have hl := r.length
  refine ⟨by unfold L2.start start0; simp [hl], fun i d h => ?_⟩
  have h' := at_app _ _ _ _ h
  obtain ⟨v, h1, h2⟩ := r.get h'
  refine ⟨v, ?_, h2⟩
  unfold L2.start
  have hi : i < vs.length := (List.getElem?_eq_some_iff.mp h1).1
  rw [List.getElem?_append_left (by simpa using hi), List.getElem?_map, h1]
  rfl
section
variable {P : Program} {w : World} {K : PySem.W.Frag} {mg : Str → Option Value} {base : Heap}
theorem fnOk_of {x qual : Str} {st : Stmt} {f : Addr} {fd : FuncData} {N ps : List Str} {k : Nat} {sd : SpD} (Fu : Fun K x qual st f fd) (S : FnScope N ps (defScope st))
    (len : ∀ ds M Q E, sd ds M Q E → ds.length = ps.length)
    (hbody : ∀ (cdv : Value) (A : Around) (outer : List PySem.Env) (s : Shared) (H : Hp) (U : Hp) (E : XK) (ds : List D) (M : Mem) (Qd : D → Mem → Prop) (Ed : XD), Room k (A.deeper (PyProof.Rows.envOfC qual (defScope st) s.heap.objs.size f cdv)) → sd ds M Qd Ed →
      ∃ body : DS, PSs (cxOf (L2.CX P w) P w K mg base N qual (defScope st) f cdv A outer s H E) (defBody st) (liftS ⟨K, U⟩ (fun cls d _ H => E cls d H) body) ∧
        body (fun _ M' => Qd .non M') Qd (fun _ _ => False) (fun _ _ => False) (fun C dd _ M' => Ed C dd M') (start0 N ds) M) : FnOk P w K mg base (L2.CX P w) (k + 1) f fd ps (spOf K sd) := by
  refine Fu.okX S (fun vs H Q E h => ?_) (fun cdv A outer s H vs Q E hr h => ?_)
  · obtain ⟨U, M, F, ds, Qd, Ed, _, r, h, _⟩ := h
    rw [r.length]
    exact len _ _ _ _ h
  · obtain ⟨U, M, F, ds, Qd, Ed, St_, r, h, kQ, kE⟩ := h
    obtain ⟨body, hp, hq⟩ := hbody cdv A outer s H U E ds M Qd Ed hr h
    refine ⟨_, hp, start0 N ds, M, F, _, _, _, _, _, St_, env_start r, hq, ?_, ?_, ?_, ?_, ?_⟩
    · exact fun ρ' M' F' σ' H' z s S' En => kQ _ M' F' .non H' z s S' .non
    · exact kQ
    · exact fun ρ' M' F' σ' H' z s S' En => z.elim
    · exact fun ρ' M' F' σ' H' z s S' En => z.elim
    · exact fun C dd ρ' M' F' σ' H' z s S' En => kE C dd M' F' H' z s S'
theorem FnOk.fnD {k : Nat} {f : Addr} {fd : FuncData} {ps : List Str} {sd : SpD} (ok : FnOk P w K mg base (L2.CX P w) k f fd ps (spOf K sd)) (bi : Binds K fd ps []) : FnD P w K mg base k f sd :=
  FnR.imp (ok.raw (ds := []) (dvs := []) bi .nil) fun vs H Q E h => by
    rw [List.append_nil]
    exact h
end
/-! ### calls -/
theorem run_fnD {k : Nat} {fa : Addr} {sp : Sp} {Ex : XK} {Q : VK} {us : List Value} {vs : List V} {pins : List (Addr × Obj)} {σ : L2.St} {H : Hp} {s : Shared} (F : FnR X.prog X.w X.K X.mg X.base (L2.CX X.prog X.w) k fa sp) (hr : Room k X.A) (tk : Takes X W)
    (hW : ∀ cls d H', Ex cls d H' → W cls d σ H') (I : Inv X pins σ H s) (r : Vals vs us) (h : sp vs H Q Ex) : wpAny (model X.prog X.w) X.A (call (.ref fa) us) (EP X pins σ Q) X.xe s := by
  refine wpAny_call (codeAny_mono (F X.A X.stack s H us vs Q Ex hr I.env0 r h) fun r s' hq => ?_)
  cases r with
  | error e => exact tk e s' (XE.of_call I hW hq)
  | ok fl =>
    cases fl with
    | ret u => exact I.after hq
    | next => exact False.elim hq
    | brk => exact False.elim hq
    | cont => exact False.elim hq
def dCall (sd : SpD) (dA : DA) : DE := fun ρ M Q E => dA ρ M (fun ds M1 => sd ds M1 Q E) E
theorem de_call {k : Nat} {fa : Addr} {sd : SpD} (F : FnD X.prog X.w X.K X.mg X.base k fa sd) (hr : Room k X.A) (hg : Gl X x) (hm : X.mg x = some (.ref fa)) (hk : PySem.W.keepIn X.K (.ref fa) = true) (hK : g.K = X.K) (tk : Takes X W) (ha : PA X (e :: es) (liftA g W dA))
    (hdb : (x == ("__debug__" : Str)) = false := by decide) (he : starEach (e :: es) X.env = (false, eval e X.env) :: starEach es X.env := by rfl) (hpl : (backTo pos (starEach es X.env)).any (·.1) = false := by rfl) :
    PE X (.Call (.Name x p) (e :: es) [] pos) (liftE g W (dCall sd dA)) := by
  refine ⟨fun pins s σ H k I ⟨ρ, M, F1, Q, E, S, En, q, kQ, kE⟩ => ?_⟩
  obtain ⟨K0, U⟩ := g
  simp only at hK
  subst hK
  refine wpAny_Call_Name_kw (ld_glob I hg hm ?_ hdb)
  refine PySem.W.callWith_K (h₀ := X.base) I.ok.mod.kin hk (thn (ha.run pos pins s σ H (fun vs H1 => ∃ M1 F2 ds, Same F1 F2 ∧ Sta ⟨X.K, U⟩ F2 M1 H1 ∧ Reps X.K F2 vs ds ∧ sd ds M1 Q E) I
    ⟨ρ, M, F1, _, E, S, En, q, fun ds M1 F2 vs H1 z s S' r => ⟨M1, F2, ds, s, S', r, z⟩, kE⟩) fun us s1 ⟨vs, H1, I1, r, M1, F2, ds, s12, S1, r1, q1⟩ => ⟨I1.kIn, ?_⟩) he hpl
  exact run_fnD (Ex := fun cls d H' => W cls d σ H') F hr tk (fun _ _ _ h => h) I1 r ⟨U, M1, F2, ds, Q, E, S1, r1, q1, fun d M' F' v H' z s S' r => kQ d M' F' v H' z (s12.t s) S' r, fun C dd M' F' H' z s S' => kE C dd M' F' H' z (s12.t s) S'⟩
/-- o.m(..), o an instance of the class at C -/
def dMeth (C : Addr) (m : Str) (sd : SpD) (do_ : DE) (dA : DA) : DE := fun ρ M Q E => do_ ρ M (fun d M1 => ∃ es, IsO M1 d C es ∧ NoF m es ∧ dA ρ M1 (fun ds M2 => sd (d :: ds) M2 Q E) E) E
theorem de_meth {k : Nat} {C fa : Addr} {sd : SpD} {do_ : DE} {pl : Sem Bool} (c : Cls X.K C) (hm : Meth X.K C m fa) (F : FnD X.prog X.w X.K X.mg X.base k fa sd) (hr : Room k X.A) (hK : g.K = X.K) (tk : Takes X W) (ho : PE X o (liftE g W do_)) (ha : PA X (e :: es) (liftA g W dA))
    (hst : starEach (e :: es) X.env = (false, eval e X.env) :: starEach es X.env := by rfl) (hpl : (backTo pos (starEach es X.env)).any (·.1) = false := by rfl)
    (ht : eval (.Call (.Attribute o m apos) (e :: es) [] pos) X.env = (do
      let ov ← eval o X.env
      standAt apos.atName
      let (f, first) ← holding [ov] (getMethod ov m pl)
      callWith pos f first (backTo pos (starEach (e :: es) X.env)) (backToKw pos (keywordEach [] X.env))) := by rfl) :
    PE X (.Call (.Attribute o m apos) (e :: es) [] pos) (liftE g W (dMeth C m sd do_ dA)) := by
  refine ⟨fun pins s σ H k I ⟨ρ, M, F1, Q, E, S, En, q, kQ, kE⟩ => ?_⟩
  obtain ⟨K0, U⟩ := g
  simp only at hK
  subst hK
  refine PySem.W.methodCall_KW (pl := pl) (thn (ho.run pins s σ H (fun x H1 => ∃ M1 F2 d es, Same F1 F2 ∧ Sta ⟨X.K, U⟩ F2 M1 H1 ∧ Rep X.K F2 x d ∧ IsO M1 d C es ∧ NoF m es ∧ dA ρ M1 (fun ds M2 => sd (d :: ds) M2 Q E) E) I
    ⟨ρ, M, F1, _, E, S, En, q, fun d M1 F2 v H1 ⟨es, h1, h2, z⟩ s S' r => ⟨M1, F2, d, es, s, S', r, h1, h2, z⟩, kE⟩) fun u s1 ⟨x, H1, I1, rx, M1, F2, d, es, s12, S1, rd, ho1, nf, q1⟩ => ?_) ht
  obtain ⟨a, dx, kvs, rfl, ha1, l, rr⟩ := ho1.to S1 rd
  obtain rfl : u = Value.ref a := rx
  refine getmeth_ok I1 ha1 c hm (nf.rep l) ?_
  refine PySem.W.callWith_K (first := [.ref a]) (h₀ := X.base) I.ok.mod.kin hm.kp (thn (ha.run pos pins s1 σ H1 (fun vs H2 => ∃ M2 F3 ds, Same F2 F3 ∧ Sta ⟨X.K, U⟩ F3 M2 H2 ∧ Reps X.K F3 vs ds ∧ sd (d :: ds) M2 Q E) I1
    ⟨ρ, M1, F2, _, E, S1, En.mono s12, q1, fun ds M2 F3 vs H2 z s S' r => ⟨M2, F3, ds, s, S', r, z⟩, fun C dd M' F' H' z s S' => kE C dd M' F' H' z (s12.t s) S'⟩) fun us s2 ⟨vs, H2, I2, r, M2, F3, ds, s23, S2, r2, q2⟩ => ⟨I2.kIn, ?_⟩) hst hpl
  exact run_fnD (us := .ref a :: us) (vs := .ref a :: vs) (Ex := fun cls d H' => W cls d σ H') F hr tk (fun _ _ _ h => h) I2 (.cons rfl r) ⟨U, M2, F3, d :: ds, Q, E, S2, .cons (rd.mono s23) r2, q2, fun d M' F' v H' z s S' r => kQ d M' F' v H' z ((s12.t s23).t s) S' r, fun C dd M' F' H' z s S' => kE C dd M' F' H' z ((s12.t s23).t s) S'⟩
/-- C(..) -/
def dMake (C : Addr) (sd : SpD) (dA : DA) : DE := fun ρ M Q E => dA ρ M (fun ds M1 => ∀ x, (∀ m, (x, m) ∉ M1) → sd (.ptr x :: ds) ((x, .obj C []) :: M1) (fun d M2 => d = .non ∧ Q (.ptr x) M2) E) E
theorem run_makeD {k : Nat} {C fa : Addr} {sp : Sp} {Ex : XK} {Q : VK} {us : List Value} {vs : List V} {pins : List (Addr × Obj)} {σ : L2.St} {H : Hp} {s : Shared} (Mk_ : Mk X.K C fa) (F : FnR X.prog X.w X.K X.mg X.base (L2.CX X.prog X.w) k fa sp) (hr : Room (k + 1) X.A) (tk : Takes X W)
    (hW : ∀ cls d H', Ex cls d H' → W cls d σ H') (I : Inv X pins σ H s) (r : Vals vs us)
    (h : ∀ x dx, H x = Option.none → H dx = Option.none → dx ≠ x → sp (V.ref x :: vs) (upd (upd H dx (.own x)) x (.ins C dx [])) (fun v H2 => v = .non ∧ Q (.ref x) H2) Ex) :
    wpAny (model X.prog X.w) X.A (call (.ref C) us) (EP X pins σ Q) X.xe s := by
  have hq := h (s.heap.objs.size + 1) s.heap.objs.size (I.hok.fresh (Nat.le_succ _)) (I.hok.fresh (Nat.le_refl _)) (Nat.ne_of_lt (Nat.lt_succ_self _))
  have I2 := Inv.made (C := C) I
  have r2 : Vals (V.ref (s.heap.objs.size + 1) :: vs) (Value.ref (s.heap.objs.size + 1) :: us) := .cons rfl r
  refine wpAny_call (make_map (f := fa) I.kIn Mk_.makes Mk_.init (beq_iff_eq.mp Mk_.fn) (codeAny_mono (F _ X.stack _ _ (Value.ref (s.heap.objs.size + 1) :: us) _ _ Ex (hr.make C us []) (I2.env0.make C us []) r2 hq) fun r s' hq' => ?_))
  cases r with
  | error e => exact tk e s' (XE.of_call I2 hW hq')
  | ok fl =>
    cases fl with
    | ret u =>
      obtain ⟨v, H', I3, rv, ev, q3⟩ := I2.after hq'
      subst ev
      exact ⟨rv, ⟨V.ref (s.heap.objs.size + 1), H', I3, rfl, q3⟩⟩
    | next => exact False.elim hq'
    | brk => exact False.elim hq'
    | cont => exact False.elim hq'
theorem sta_made {U : Hp} {F : Hp} {M : Mem} {H : Hp} {K : PySem.W.Frag} {y dx C : Addr} (S : Sta ⟨K, U⟩ F M H) (h1 : H y = none) (h2 : H dx = none) (h3 : dx ≠ y) : Sta ⟨K, U⟩ F ((y, .obj C []) :: M) (upd (upd H dx (.own y)) y (.ins C dx [])) :=
  (S.grow (o := .own y) h2).newM (by rw [upd_ne (Ne.symm h3)]; exact h1) ⟨dx, [], rfl, rfl, .nil⟩
theorem de_make {k : Nat} {C fa : Addr} {sd : SpD} (Mk_ : Mk X.K C fa) (F : FnD X.prog X.w X.K X.mg X.base k fa sd) (hr : Room (k + 1) X.A) (hg : Gl X x) (hm : X.mg x = some (.ref C)) (hK : g.K = X.K) (tk : Takes X W) (ha : PA X (e :: es) (liftA g W dA))
    (hdb : (x == ("__debug__" : Str)) = false := by decide) (he : starEach (e :: es) X.env = (false, eval e X.env) :: starEach es X.env := by rfl) (hpl : (backTo pos (starEach es X.env)).any (·.1) = false := by rfl) :
    PE X (.Call (.Name x p) (e :: es) [] pos) (liftE g W (dMake C sd dA)) := by
  refine ⟨fun pins s σ H k I ⟨ρ, M, F1, Q, E, S, En, q, kQ, kE⟩ => ?_⟩
  obtain ⟨K0, U⟩ := g
  simp only at hK
  subst hK
  refine wpAny_Call_Name_kw (ld_glob I hg hm ?_ hdb)
  refine PySem.W.callWith_K (h₀ := X.base) I.ok.mod.kin Mk_.kp (thn (ha.run pos pins s σ H (fun vs H1 => ∃ M1 F2 ds, Same F1 F2 ∧ Sta ⟨X.K, U⟩ F2 M1 H1 ∧ Reps X.K F2 vs ds ∧ ∀ x, (∀ m, (x, m) ∉ M1) → sd (.ptr x :: ds) ((x, .obj C []) :: M1) (fun d M2 => d = .non ∧ Q (.ptr x) M2) E) I
    ⟨ρ, M, F1, _, E, S, En, q, fun ds M1 F2 vs H1 z s S' r => ⟨M1, F2, ds, s, S', r, z⟩, kE⟩) fun us s1 ⟨vs, H1, I1, r, M1, F2, ds, s12, S1, r1, q1⟩ => ⟨I1.kIn, ?_⟩) he hpl
  refine run_makeD (Ex := fun cls d H' => W cls d σ H') Mk_ F hr tk (fun _ _ _ h => h) I1 r fun y dx h1 h2 h3 => ?_
  exact ⟨U, _, F2, _, _, E, sta_made S1 h1 h2 h3, .cons (.ptr y) r1, q1 y (S1.fresh h1), fun d M' F' v H' ⟨ed, z⟩ s S' r => by
    subst ed
    cases r
    exact ⟨rfl, kQ _ M' F' _ H' z (s12.t s) S' (.ptr y)⟩, fun C dd M' F' H' z s S' => kE C dd M' F' H' z (s12.t s) S'⟩
end
end DL
namespace DL
variable [Wd]
open PySem L2
section
variable {X : Cx} {g : G} {W : WX} {pos : Pos} {a b c e o : Expr} {es : List Expr} {da db dc de do_ : DE} {dA : DA} {x f m : Str} {p apos cpos : Pos}
/-! ### exceptions of own classes -/
theorem Del.keys {a : Addr} {m : MO} : ∀ {M M' : Mem}, Del a m M M' → ∀ {b : Addr} {x : MO}, (b, x) ∈ M → b ≠ a → (b, x) ∈ M'
  | _, _, .head, b, x, h, hb => by
    rcases List.mem_cons.mp h with z | z
    · cases z; exact absurd rfl hb
    · exact z
  | _, _, .tail u, b, x, h, hb => by
    rcases List.mem_cons.mp h with z | z
    · rw [z]; exact List.mem_cons_self
    · exact List.mem_cons_of_mem _ (Del.keys u z hb)
theorem Sta.drop {F : Hp} {M M' : Mem} {H : Hp} {q : Addr} {m : MO} (S : Sta g F M H) (u : Del q m M M') : Sta g F M' (del H q) := by
  obtain ⟨hF, _⟩ := S.mem q m u.old
  refine ⟨fun b w e => ?_, fun b w e => ?_, fun b x hx => ?_, S.nd.sublist u.sub⟩
  · rw [del_ne (ne_of_none e hF)]; exact S.sub b w e
  · obtain ⟨h1, h2, h3⟩ := S.out b w e
    have hb : b ≠ q := fun z => by subst z; exact h3 m u.old
    exact ⟨by rw [del_ne hb]; exact h1, h2, fun x hx => h3 x (u.mem hx)⟩
  · obtain ⟨h1, w, h2, h3⟩ := S.mem b x (u.mem hx)
    have hb : b ≠ q := fun z => by subst z; exact u.gone S.nd x hx
    exact ⟨h1, w, by rw [del_ne hb]; exact h2, h3⟩
/-- self.f = e in the __init__ of an own error -/
def sOst (K : PySem.W.Frag) (f : Str) (do_ de : DE) : DS := fun nx _ _ _ ex ρ M => de ρ M (fun d M1 => do_ ρ M1 (fun x M2 => ∃ q C, x = .ptr q ∧ OexC K C ∧ PySem.W.findIn K (.ref C) f = some none ∧
  (((q, MO.raw (exo q C none)) ∈ M2 ∧ ∀ dx, (∀ m, (dx, m) ∉ M2) → ∃ M3, Upd q (.raw (exo q C none)) (.raw (exo q C (some dx))) M2 M3 ∧ nx ρ ((dx, .exd dx [(f, d)]) :: M3)) ∨
    ∃ dx fs M3, (q, MO.raw (exo q C (some dx))) ∈ M2 ∧ fs.length ≤ 900 ∧ Upd dx (.exd dx fs) (.exd dx ((f, d) :: fs)) M2 M3 ∧ nx ρ M3)) (fun C dd M' => ex C dd ρ M')) (fun C dd M' => ex C dd ρ M')
theorem upd_comm {H : Hp} {a b : Addr} {o u : HO} (h : a ≠ b) : upd (upd H a o) b u = upd (upd H b u) a o := by
  funext c
  unfold upd
  by_cases h1 : c = a
  · subst h1
    rw [if_neg h, if_pos rfl]
    simp
  · by_cases h2 : c = b
    · subst h2; simp [h1]
    · simp [h1, h2]
theorem ds_ost {p' : Pos} (hK : g.K = X.K) (ho : PE X o (liftE g W do_)) (he : PE X e (liftE g W de)) (hs : swapsWith e (some (.Attribute o f p')) pos.line X.env = pure false := by rfl) : PS X (.Assign [.Attribute o f p'] e pos) (liftS g W (sOst X.K f do_ de)) :=
  PS.imp (ps_ost ho he hs) fun D σ H ⟨ρ, M, F, nx, rt, bk, ct, ex, S, En, q, k1, k2, k3, k4, k5⟩ =>
    ⟨ρ, M, F, _, _, S, En, q, fun d M1 F1 v H1 q1 s1 S1 r1 => ⟨ρ, M1, F1, _, _, S1, En.mono s1, q1, fun y M2 F2 u H2 ⟨qa, C, ey, T, no, z⟩ s2 S2 r2 => by
      subst ey
      cases r2
      refine ⟨qa, C, rfl, T, no, ?_⟩
      have rd := r1.mono s2
      rcases z with ⟨hu, z⟩ | ⟨dx, fs, M3, hm, hl, hu, z⟩
      · obtain ⟨_, o, ho, rfl⟩ := S2.mem _ _ hu
        refine .inl ⟨ho, fun dx h1 h2 => ?_⟩
        obtain ⟨M3, hu3, z⟩ := z dx (S2.fresh h1)
        have S3 := S2.upd hu3 (o := exo qa C (some dx)) rfl
        have S4 := S3.newM (a := dx) (o := exd dx [(f, v)]) (m := .exd dx [(f, d)]) (by rw [upd_ne h2]; exact h1) ⟨_, rfl, rfl, .cons rd .nil⟩
        rw [upd_comm (Ne.symm h2)] at S4
        exact k1 ρ _ F2 σ _ z (s1.t s2) S4 (En.mono (s1.t s2))
      · obtain ⟨_, o, ho, rfl⟩ := S2.mem _ _ hm
        obtain ⟨_, o', ho', kvs, rfl, l, rr⟩ := S2.mem _ _ hu.old
        have el : kvs.length = fs.length := by
          have := congrArg List.length l
          rwa [List.length_map, List.length_map] at this
        exact .inr ⟨dx, kvs, ho, ho', by rw [el]; exact hl, k1 ρ _ F2 σ _ z (s1.t s2) (S2.upd hu ⟨_, rfl, by rw [List.map_cons, List.map_cons, l], .cons rd rr⟩) (En.mono (s1.t s2))⟩,
      fun C dd M' F' H' z s S' => k5 C dd ρ M' F' σ H' z (s1.t s) S' (En.mono (s1.t s))⟩, fun C dd M' F' H' z s S' => k5 C dd ρ M' F' σ H' z s S' (En.mono s)⟩
/-- raise C(..) -/
def sRaise (C : Addr) (sd : SpD) (dA : DA) : DS := fun _ _ _ _ ex ρ M => dA ρ M (fun ds M1 => ds.length ≤ 1000 ∧ ∀ q, (∀ m, (q, m) ∉ M1) → sd (.ptr q :: ds) ((q, .raw (exo q C none)) :: M1) (fun d M2 => d = .non ∧ ∃ dx es M3 M4,
  Del q (.raw (exo q C (some dx))) M2 M3 ∧ Upd dx (.exd dx es) (.xd es) M3 M4 ∧ (∀ m, (dx, m) ∉ M1) ∧ ex C dx ρ M4) (fun _ _ _ => False)) (fun C dd M' => ex C dd ρ M')
open Classical in
theorem ds_raise {C fI : Addr} {k : Nat} {sd : SpD} {pos2 : Pos} (hc : X.calm = true) (hK : g.K = X.K) (tk : Takes X W) (T : OexC X.K C) (iC : PySem.W.findIn X.K (.ref C) "__init__" = some (some (.ref fI))) (tI : PySem.W.typeIn X.K (.ref fI) = some (.type "function"))
    {fd : FuncData} {ps : List Str} (F1 : FnOk X.prog X.w X.K X.mg X.base (L2.CX X.prog X.w) k fI fd ps (spOf X.K sd)) (hb : Binds X.K fd ps []) (hr : Room (k + 1) X.A) (hg : Gl X x) (hm : X.mg x = some (.ref C)) (ha : PA X (e :: es) (liftA g W dA))
    (hdb : (x == ("__debug__" : Str)) = false := by decide) (he : starEach (e :: es) X.env = (false, eval e X.env) :: starEach es X.env := by rfl) (hpl : (backTo pos (starEach es X.env)).any (·.1) = false := by rfl) :
    PS X (.Raise (some (.Call (.Name x p) (e :: es) [] pos)) none pos2) (liftS g W (sRaise C sd dA)) :=
  PS.imp (ps_raise hc tk (pmk_oex T iC tI F1 hr hb .nil passL hg hm ha hdb he hpl)) fun D σ H ⟨ρ, M, F, nx, rt, bk, ct, ex, S, En, q, k1, k2, k3, k4, k5⟩ => by
    refine ⟨ρ, M, F, _, _, S, En, q, fun ds M1 F1 vs H1 ⟨hz, q1⟩ s1 S1 r1 => ⟨by rw [r1.length]; exact hz, fun a hn => ?_⟩, fun C dd M' F' H' z s S' => k5 C dd ρ M' F' σ H' z s S' (En.mono s)⟩
    rw [List.append_nil]
    have q2 := q1 a (S1.fresh hn)
    obtain ⟨K0, U⟩ := g
    simp only at hK
    subst hK
    -- all that is known of H1, in the place of what others hold
    have S2 : Sta ⟨X.K, fun b => if U b = none then (if F1 b = none ∧ (∀ m, (b, m) ∉ M1) then H1 b else none) else U b⟩ F1 M1 H1 := by
      refine ⟨S1.sub, fun b o hb => ?_, S1.mem, S1.nd⟩
      have hb' : (if U b = none then (if F1 b = none ∧ (∀ m, (b, m) ∉ M1) then H1 b else none) else U b) = some o := hb
      by_cases cu : U b = none
      · rw [if_pos cu] at hb'
        by_cases c : F1 b = none ∧ (∀ m, (b, m) ∉ M1)
        · rw [if_pos c] at hb'
          exact ⟨hb', .inl c.1, c.2⟩
        · rw [if_neg c] at hb'
          cases hb'
      · rw [if_neg cu] at hb'
        exact S1.out b o hb'
    have S3 := S2.newM (a := a) (o := exo a C none) (m := .raw (exo a C none)) hn rfl
    refine ⟨_, _, F1, _, _, _, S3, .cons (.ptr a) r1, q2, fun d M2 F2 v H2 ⟨ed, dx, fs, M3, M4, hd, hu, hf, z⟩ s2 S2' r2 => ?_, fun C dd M' F' H' z s S' => z.elim⟩
    subst ed
    cases r2
    have hb : dx ≠ a := fun z => by
      subst z
      exact hd.gone S2'.nd _ hu.old
    obtain ⟨_, o1, ho1, e1⟩ := S2'.mem _ _ hd.old
    subst e1
    have S5 := S2'.drop hd
    obtain ⟨hF2, o2, ho2, kvs, e2, l, rr⟩ := S5.mem _ _ hu.old
    subst e2
    rw [del_ne hb] at ho2
    have hU : H1 dx = none := by
      have c0 : F1 dx = none := by
        cases e : F1 dx with
        | none => rfl
        | some o =>
          rw [s2 _ _ e] at hF2
          exact nomatch hF2
      have c : F1 dx = none ∧ (∀ m, (dx, m) ∉ M1) := ⟨c0, hf⟩
      cases e : H1 dx with
      | none => rfl
      | some o =>
        cases eu : U dx with
        | some o' =>
          have := (S2'.out dx o' (by show (if U dx = none then (if F1 dx = none ∧ (∀ m, (dx, m) ∉ M1) then H1 dx else none) else U dx) = some o'; rw [if_neg (by rw [eu]; exact fun z => nomatch z)]; exact eu)).2.2
          exact absurd (hd.mem hu.old) (this _)
        | none =>
          have := (S2'.out dx o (by show (if U dx = none then (if F1 dx = none ∧ (∀ m, (dx, m) ∉ M1) then H1 dx else none) else U dx) = some o; rw [if_pos eu, if_pos c]; exact e)).2.2
          exact absurd (hd.mem hu.old) (this _)
    refine ⟨rfl, dx, kvs, ho1, ho2, hU, ?_⟩
    have S6 := S5.upd hu (o := .xd kvs) ⟨kvs, rfl, l, rr⟩
    have S7 : Sta ⟨X.K, U⟩ F2 M4 (upd (del H2 a) dx (.xd kvs)) := by
      refine ⟨S6.sub, fun b o hb' => ?_, S6.mem, S6.nd⟩
      exact S6.out b o (by show (if U b = none then (if F1 b = none ∧ (∀ m, (b, m) ∉ M1) then H1 b else none) else U b) = some o; rw [if_neg (by rw [show U b = some o from hb']; exact fun z => nomatch z)]; exact hb')
    exact k5 C dx ρ M4 F2 σ _ z (s1.t s2) S7 (En.mono (s1.t s2))
end
end DL
namespace DL
variable [Wd]
open PySem L2 PySem.Spec PyProof.Rows
/-! ### try .. except, several clauses, each with or without a name -/
abbrev HdT := Value × Option Nat × (Addr → Value → Option Addr → TS)
def unset (i : Nat) (D : Ends) : Ends := { nx := fun σ H => D.nx (σ.set i none) H, rt := D.rt, bk := fun σ H => D.bk (σ.set i none) H, ct := fun σ H => D.ct (σ.set i none) H }
def wH (K : PySem.W.Frag) (Wout : WX) (D : Ends) : List HdT → WX
  | [] => Wout
  | (c, none, ts) :: r => fun cls d σ H => ∃ b, PySem.W.exmOne K cls c = some b ∧ (b = true → ∀ a, H a = none → ts a cls d D σ H) ∧ (b = false → wH K Wout D r cls d σ H)
  | (c, some i, ts) :: r => fun cls d σ H => ∃ b, PySem.W.exmOne K cls c = some b ∧ (b = true → ∀ a, H a = none → ts a cls d (unset i D) (σ.set i (some (.ref a))) H) ∧ (b = false → wH K Wout D r cls d σ H)
inductive HdK (X : Cx) : List ExceptHandler → List HdT → Prop
  | nil : HdK X [] []
  | bare {x : Str} {c : Value} {ts : Addr → Value → Option Addr → TS} {b₀ : Stmt} {suite : List Stmt} {np pos' : Pos} {hds : List ExceptHandler} {l : List HdT} : Names X x c →
      (∀ (a : Addr) (oe : Obj) (cls : Value) (d : Option Addr) (pn : List (Addr × Obj)), Zc cls d oe → (∃ vs, oe.data = .fields vs) → PSs (X.suite a ((a, oe) :: pn)) (b₀ :: suite) (ts a cls d)) → HdK X hds l →
      HdK X (.ExceptHandler (some (.Name x np)) none (b₀ :: suite) pos' :: hds) ((c, none, ts) :: l)
  | named {x n : Str} {i : Nat} {c : Value} {ts : Addr → Value → Option Addr → TS} {b₀ : Stmt} {suite : List Stmt} {np pos' : Pos} {hds : List ExceptHandler} {l : List HdT} : X.N.Nodup → X.N[i]? = some n → X.env.kindOf n = some .local → Names X x c →
      (∀ (a : Addr) (oe : Obj) (cls : Value) (d : Option Addr) (pn : List (Addr × Obj)), Zc cls d oe → (∃ vs, oe.data = .fields vs) → PSs (X.suite a ((a, oe) :: pn)) (b₀ :: suite) (ts a cls d)) → HdK X hds l →
      HdK X (.ExceptHandler (some (.Name x np)) (some n) (b₀ :: suite) pos' :: hds) ((c, some i, ts) :: l)
section
variable {X : Cx} {pins : List (Addr × Obj)} {σ : L2.St} {H : Hp} {s' : Shared} {cls : Value} {d : Option Addr} {a : Addr} {Wout : WX} {D : Ends}
/-- what the clauses do, once the exception is looked at -/
theorem clauses (ok : X.Ok) (hs : X.stack = X.env :: X.outer) (hf : X.env.frame = some X.env.locals) (tk : Takes X Wout) {B : Heap} {sI : Shared} (J : Inv X pins σ H sI)
    (nb : ∀ b o, sI.heap.get? b = some o → b ∉ frs X.stack → B.get? b = some o) (up : sI.heap.UpToSlots s'.heap) (os : s'.os = sI.os) (ag : AllBare s'.gens) (na : H a = none) (nL : a ≠ X.env.locals) (nF : a ∉ X.fs) {h3 : Heap}
    (fl3 : HandSPX.FlyingZ B (X.env :: X.outer) a (Zc cls d) h3) (up3 : s'.heap.UpToSlots h3) {hds : List ExceptHandler} {l : List HdT} (hk : HdK X hds l) (w : wH X.K Wout D l cls d σ H) :
    wpAny (model X.prog X.w) X.A (handleBy (.ref a) X.env hds) (SP X pins D) X.xe { s' with heap := h3 } := by
  have J3 : Inv X pins σ H { s' with heap := h3 } := J.landed nb fl3.1 (up.trans up3) os ag
  obtain ⟨oe3, vs3, he3, hz3, hd3⟩ := fl3.there
  have S3 := J3.suite he3 hd3 na nL nF
  -- the class that a clause names, and whether it is the exception's
  have named : ∀ {x : Str} {c : Value} {np : Pos} {Q E : Value → Shared → Prop}, Names X x c → Q c { s' with heap := h3 } → wpAny (model X.prog X.w) (X.A.mark (some (.ref a))) (eval (.Name x np) X.env) Q E { s' with heap := h3 } := by
    intro x c np Q E hc q
    obtain ⟨hg, hdbg, hm | ⟨hm, hv, hnn⟩⟩ := hc
    · exact ld_glob (X := X.suite a ((a, oe3) :: (X.pn ++ pins))) S3 hg hm q hdbg
    · exact ld_blt (X := X.suite a ((a, oe3) :: (X.pn ++ pins))) S3 hg hm hv q hnn hdbg
  have tells : ∀ {c : Value} {b : Bool}, PySem.W.exmOne X.K cls c = some b → PySem.W.Looks (model X.prog X.w) h3 _ b := fun {c b} hb =>
    PySem.W.exm_one (M := model X.prog X.w) J3.kIn (fun A Q E s k q => wpAny_typeOf_ref (k _ _ he3) (by rw [hz3.1]; exact q)) hb
  induction hk with
  | nil =>
    refine wpAny_handleBy_nil ?_
    obtain ⟨_, _, _, oe, vs, T, _, _, he, _, hd, h1, _⟩ := id fl3
    unfold PySem.passOn
    refine wpAny_bind (wpAny_field he hd h1 ?_)
    rw [if_neg (show ¬ ((Value.ref T == Value.none) = true) from by simp)]
    have out : wpAny (model X.prog X.w) X.A (setFlight (.ref a) X.env.frame) (fun _ s4 => wpAny (model X.prog X.w) X.A (throw (.ref a) : Sem Flow) (SP X pins D) X.xe s4) X.xe { s' with heap := h3 } := by
      rw [hf]
      exact HandSPX.setFlight_upZ fl3 fun h4 hh4 up4 => wpAny_throw (tk _ _ ⟨a, B, sI, pins, σ, H, cls, d, rfl, J, nb, (up.trans up3).trans up4, .inr (.inr (by rw [hs]; exact hh4)), na, os, ag, w⟩)
    first
      | exact wpAny_bind (wpAny_pure (wpAny_bind out))
      | exact wpAny_bind out
  | bare hc hsu _ ih =>
    obtain ⟨b, hb1, hyes, hno⟩ := w
    refine wpAny_handleBy_cons (codeAny_handlers_test (named hc ((tells hb1).here ?_))) (by intro q; cases q)
    cases b with
    | false => exact ih (hno rfl)
    | true =>
      refine codeAny_handlers_suite (HandSPX.lands_againZ fl3 fun h4 fl4 up4 => ?_)
      have J4 : Inv X pins σ H { s' with heap := h4 } := J.landed nb fl4.1 ((up.trans up3).trans up4) os ag
      obtain ⟨oe4, vs4, he4, hz4, hd4⟩ := fl4.there
      refine wpAny_mono ((hsu a oe4 cls d (X.pn ++ pins) hz4 ⟨_, hd4⟩).run [] _ _ H _ (J4.suite he4 hd4 na nL nF) (hyes rfl a na)) (fun f s6 hsp => ?_) (fun _ _ z => False.elim z)
      cases f with
      | ret u =>
        obtain ⟨v6, σ6, H6, S6, r6, q6⟩ := hsp
        exact ⟨_, _, _, S6.unsuite ok, r6, q6⟩
      | next => obtain ⟨σ6, H6, S6, q6⟩ := hsp; exact ⟨_, _, S6.unsuite ok, q6⟩
      | brk => obtain ⟨σ6, H6, S6, q6⟩ := hsp; exact ⟨_, _, S6.unsuite ok, q6⟩
      | cont => obtain ⟨σ6, H6, S6, q6⟩ := hsp; exact ⟨_, _, S6.unsuite ok, q6⟩
  | named hN hi hln hc hsu _ ih =>
    obtain ⟨b, hb1, hyes, hno⟩ := w
    refine wpAny_handleBy_cons (codeAny_handlers_test (named hc ((tells hb1).here ?_))) (by intro q; cases q)
    cases b with
    | false => exact ih (hno rfl)
    | true =>
      refine codeAny_handlers_suite_as (HandSPX.lands_againZ fl3 fun h4 fl4 up4 => ?_)
      have J4 : Inv X pins σ H { s' with heap := h4 } := J.landed nb fl4.1 ((up.trans up3).trans up4) os ag
      obtain ⟨oe4, vs4, he4, hz4, hd4⟩ := fl4.there
      refine store_ok (X := X.suite a ((a, oe4) :: (X.pn ++ pins))) (v := .ref a) (J4.suite he4 hd4 na nL nF) hN hi (.inl hln) rfl (fun s5 S5 => ?_) (.inr hln)
      refine wpAny_mono ((hsu a oe4 cls d (X.pn ++ pins) hz4 ⟨_, hd4⟩).run [] s5 _ H _ S5 (hyes rfl a na)) (fun f s6 hsp => ?_) (fun _ _ z => False.elim z)
      cases f with
      | ret u =>
        obtain ⟨v6, σ6, H6, S6, r6, q6⟩ := hsp
        exact gone_ok (S6.unsuite ok) hN hi hln fun s7 J7 => ⟨_, _, _, J7, r6, q6⟩
      | next => obtain ⟨σ6, H6, S6, q6⟩ := hsp; exact gone_ok (S6.unsuite ok) hN hi hln fun s7 J7 => ⟨_, _, J7, q6⟩
      | brk => obtain ⟨σ6, H6, S6, q6⟩ := hsp; exact gone_ok (S6.unsuite ok) hN hi hln fun s7 J7 => ⟨_, _, J7, q6⟩
      | cont => obtain ⟨σ6, H6, S6, q6⟩ := hsp; exact gone_ok (S6.unsuite ok) hN hi hln fun s7 J7 => ⟨_, _, J7, q6⟩
theorem ps_try_k {body : List Stmt} {h₀ : ExceptHandler} {hds : List ExceptHandler} {l : List HdT} {pos : Pos} {tb : WX → TS} (hs : X.stack = X.env :: X.outer) (hf : X.env.frame = some X.env.locals) (tk : Takes X Wout)
    (hb : ∀ (W : WX) (pn : List (Addr × Obj)) (xe : Value → Shared → Prop), Takes (X.tr pn xe) W → PassesOwn (model X.prog X.w) X.A X.env xe → PSs (X.tr pn xe) body (tb W))
    (hh : HdK X (h₀ :: hds) l) : PS X (.Try body (h₀ :: hds) [] [] pos) (fun D σ H => tb (wH X.K Wout D l) D σ H) := by
  refine ⟨fun pins s σ H D I h => ?_⟩
  have ok := I.ok
  refine wpAny_Try_except (wpAny_mono ((hb (wH X.K Wout D l) (X.pn ++ pins) (fun e s₁ => wpAny (model X.prog X.w) X.A (noteFrame e X.env) (fun _ s₂ => wpAny (model X.prog X.w) X.A (setFlight e none) (fun _ s₃ =>
    wpAny (model X.prog X.w) X.A (handleBy e X.env (h₀ :: hds)) (SP X pins D) X.xe s₃) X.xe s₂) X.xe s₁) (fun u s' xx => ?_) PassesOwn.looking).run [] s σ H D (I.toTry _) h) (fun f s1 hsp => ?_) (fun e s1 he => he))
  · obtain ⟨a, B, sI, pins', σ', H', cls, d, rfl, J', nb, up, sky, na, os, ag, w⟩ := xx
    have J : Inv X pins σ' H' sI := J'.ofTry ok
    refine Sky.land Zc.steady (by rw [ok.frames, hs]) hf (by rw [← hs]; exact sky) fun h3 fl3 up3 => ?_
    obtain ⟨oe3, vs3, he3, _, hd3⟩ := fl3.there
    have nfr : a ∉ frs (X.env :: X.outer) := fun hm => by
      obtain ⟨_, o', e', hnf⟩ := fl3.2.2.1.mem hm
      rw [he3] at e'; cases e'
      exact hnf _ hd3
    have nL : a ≠ X.env.locals := fun z => nfr (List.mem_filterMap.mpr ⟨X.env, List.mem_cons_self, by rw [hf, z]⟩)
    have nF : a ∉ X.fs := fun hm => by
      obtain ⟨e, he, q⟩ := List.mem_filterMap.mp hm
      exact nfr (List.mem_filterMap.mpr ⟨e, List.mem_cons_of_mem _ he, q⟩)
    exact clauses ok hs hf tk J nb up os ag na nL nF fl3 up3 hh w
  · cases f with
    | next => obtain ⟨σ', H', J', q⟩ := hsp; exact wpAny_execs_nil ⟨σ', H', J'.ofTry ok, q⟩
    | brk => obtain ⟨σ', H', J', q⟩ := hsp; exact ⟨σ', H', J'.ofTry ok, q⟩
    | cont => obtain ⟨σ', H', J', q⟩ := hsp; exact ⟨σ', H', J'.ofTry ok, q⟩
    | ret u => obtain ⟨v, σ', H', J', r, q⟩ := hsp; exact ⟨v, σ', H', J'.ofTry ok, r, q⟩
end

abbrev HdD := Value × Option Nat × (Addr → Addr → Addr → DS)
abbrev XR := Addr → Addr → Rho → Mem → Prop
def noX : XR := fun _ _ _ _ => False
abbrev W0 : WX := fun _ _ _ _ => False
def hGo (K : PySem.W.Frag) (nx : NX) (rt : D → Mem → Prop) (bk ct : NX) (ex : XR) : List HdD → XR
  | [] => ex
  | (c, none, h) :: r => fun C dd ρ M => ∃ b, PySem.W.exmOne K (.ref C) c = some b ∧ (b = true → ∀ a, h a C dd nx rt bk ct noX ρ M) ∧ (b = false → hGo K nx rt bk ct ex r C dd ρ M)
  | (c, some i, h) :: r => fun C dd ρ M => ∃ b, PySem.W.exmOne K (.ref C) c = some b ∧
      (b = true → ∀ a, h a C dd (fun ρ' M' => nx (put ρ' i none) M') rt (fun ρ' M' => bk (put ρ' i none) M') (fun ρ' M' => ct (put ρ' i none) M') noX (put ρ i (some (.ptr a))) M) ∧ (b = false → hGo K nx rt bk ct ex r C dd ρ M)
def sTry (K : PySem.W.Frag) (body : DS) (hds : List HdD) : DS := fun nx rt bk ct ex ρ M => body nx rt bk ct (hGo K nx rt bk ct ex hds) ρ M
def ofH (g : G) (p : HdD) : HdT := (p.1, p.2.1, fun a cls d D σ H => ∃ C dd, cls = .ref C ∧ d = some dd ∧ liftS g W0 (p.2.2 a C dd) D σ H)
section
variable {X : Cx} {g : G} {W : WX} {pos : Pos} {a b c e : Expr} {es : List Expr} {de : DE}
/-- the clauses' suites -/
inductive HdKD (X : Cx) (g : G) : List ExceptHandler → List HdD → Prop
  | nil : HdKD X g [] []
  | bare {x : Str} {c : Value} {h : Addr → Addr → Addr → DS} {b₀ : Stmt} {suite : List Stmt} {np pos' : Pos} {hds : List ExceptHandler} {l : List HdD} : Names X x c →
      (∀ (a : Addr) (oe : Obj) (C dd : Addr) (pn : List (Addr × Obj)), Zc (.ref C) (some dd) oe → (∃ vs, oe.data = .fields vs) → PSs (X.suite a ((a, oe) :: pn)) (b₀ :: suite) (liftS g W0 (h a C dd))) → HdKD X g hds l →
      HdKD X g (.ExceptHandler (some (.Name x np)) none (b₀ :: suite) pos' :: hds) ((c, none, h) :: l)
  | named {x n : Str} {i : Nat} {c : Value} {h : Addr → Addr → Addr → DS} {b₀ : Stmt} {suite : List Stmt} {np pos' : Pos} {hds : List ExceptHandler} {l : List HdD} : X.N.Nodup → X.N[i]? = some n → X.env.kindOf n = some .local → Names X x c →
      (∀ (a : Addr) (oe : Obj) (C dd : Addr) (pn : List (Addr × Obj)), Zc (.ref C) (some dd) oe → (∃ vs, oe.data = .fields vs) → PSs (X.suite a ((a, oe) :: pn)) (b₀ :: suite) (liftS g W0 (h a C dd))) → HdKD X g hds l →
      HdKD X g (.ExceptHandler (some (.Name x np)) (some n) (b₀ :: suite) pos' :: hds) ((c, some i, h) :: l)
theorem suite_of {st : List Stmt} {a : Addr} {oe : Obj} {cls : Value} {d : Option Addr} {pn : List (Addr × Obj)} {h : Addr → Addr → Addr → DS} (hz : Zc cls d oe) (hf : ∃ vs, oe.data = .fields vs)
    (hs : ∀ (a : Addr) (oe : Obj) (C dd : Addr) (pn : List (Addr × Obj)), Zc (.ref C) (some dd) oe → (∃ vs, oe.data = .fields vs) → PSs (X.suite a ((a, oe) :: pn)) st (liftS g W0 (h a C dd))) :
    PSs (X.suite a ((a, oe) :: pn)) st (fun D σ H => ∃ C dd, cls = .ref C ∧ d = some dd ∧ liftS g W0 (h a C dd) D σ H) :=
  ⟨fun pins s σ H D I ⟨C, dd, e1, e2, q⟩ => by
    subst e1 e2
    exact (hs a oe C dd pn hz hf).run pins s σ H D I q⟩
theorem HdKD.to {hds : List ExceptHandler} {l : List HdD} (h : HdKD X g hds l) : HdK X hds (l.map (ofH g)) := by
  induction h with
  | nil => exact .nil
  | bare hc hs _ ih => exact .bare hc (fun a oe cls d pn hz hf => suite_of hz hf hs) ih
  | named hN hi hl hc hs _ ih => exact .named hN hi hl hc (fun a oe cls d pn hz hf => suite_of hz hf hs) ih
theorem hGo_w {Wout : WX} {Dn : Ends} {F : Hp} {nx : NX} {rt : D → Mem → Prop} {bk ct : NX} {ex : XR}
    (k1 : ∀ ρ' M' F' σ' H', nx ρ' M' → Same F F' → Sta g F' M' H' → Enr g.K F' σ' ρ' → Dn.nx σ' H') (k2 : ∀ d M' F' v H', rt d M' → Same F F' → Sta g F' M' H' → Rep g.K F' v d → Dn.rt v H')
    (k3 : ∀ ρ' M' F' σ' H', bk ρ' M' → Same F F' → Sta g F' M' H' → Enr g.K F' σ' ρ' → Dn.bk σ' H') (k4 : ∀ ρ' M' F' σ' H', ct ρ' M' → Same F F' → Sta g F' M' H' → Enr g.K F' σ' ρ' → Dn.ct σ' H')
    (k5 : ∀ C dd ρ' M' F' σ' H', ex C dd ρ' M' → Same F F' → Sta g F' M' H' → Enr g.K F' σ' ρ' → Wout (.ref C) (some dd) σ' H') :
    ∀ (hds : List HdD) (C dd : Addr) (ρ' : Rho) (M' : Mem) (F' : Hp) (σ' : L2.St) (H' : Hp), hGo g.K nx rt bk ct ex hds C dd ρ' M' → Same F F' → Sta g F' M' H' → Enr g.K F' σ' ρ' → wH g.K Wout Dn (hds.map (ofH g)) (.ref C) (some dd) σ' H'
  | [], C, dd, ρ', M', F', σ', H', q, s, S, En => k5 C dd ρ' M' F' σ' H' q s S En
  | (c, none, h) :: r, C, dd, ρ', M', F', σ', H', ⟨b, hb, hy, hn⟩, s, S, En => by
    refine ⟨b, hb, fun e a ha => ⟨C, dd, rfl, rfl, ρ', M', F', nx, rt, bk, ct, noX, S, En, hy e a, fun a1 a2 a3 a4 a5 a6 a7 => k1 a1 a2 a3 a4 a5 a6 (s.t a7), fun a1 a2 a3 a4 a5 a6 a7 => k2 a1 a2 a3 a4 a5 a6 (s.t a7),
      fun a1 a2 a3 a4 a5 a6 a7 => k3 a1 a2 a3 a4 a5 a6 (s.t a7), fun a1 a2 a3 a4 a5 a6 a7 => k4 a1 a2 a3 a4 a5 a6 (s.t a7), fun _ _ _ _ _ _ _ z => z.elim⟩, fun e => hGo_w k1 k2 k3 k4 k5 r C dd ρ' M' F' σ' H' (hn e) s S En⟩
  | (c, some i, h) :: r, C, dd, ρ', M', F', σ', H', ⟨b, hb, hy, hn⟩, s, S, En => by
    refine ⟨b, hb, fun e a ha => ⟨C, dd, rfl, rfl, put ρ' i (some (.ptr a)), M', F', _, rt, _, _, noX, S, En.set i (.ptr a), hy e a, fun a1 a2 a3 a4 a5 a6 a7 a8 a9 => k1 _ a2 a3 _ a5 a6 (s.t a7) a8 (a9.unset i none), fun a1 a2 a3 a4 a5 a6 a7 => k2 a1 a2 a3 a4 a5 a6 (s.t a7),
      fun a1 a2 a3 a4 a5 a6 a7 a8 a9 => k3 _ a2 a3 _ a5 a6 (s.t a7) a8 (a9.unset i none), fun a1 a2 a3 a4 a5 a6 a7 a8 a9 => k4 _ a2 a3 _ a5 a6 (s.t a7) a8 (a9.unset i none), fun _ _ _ _ _ _ _ z => z.elim⟩, fun e => hGo_w k1 k2 k3 k4 k5 r C dd ρ' M' F' σ' H' (hn e) s S En⟩
theorem ds_try {body : List Stmt} {h₀ : ExceptHandler} {hds : List ExceptHandler} {l : List HdD} {db : DS} (hs : X.stack = X.env :: X.outer) (hf : X.env.frame = some X.env.locals) (hK : g.K = X.K) (tk : Takes X W)
    (hb : ∀ (W : WX) (pn : List (Addr × Obj)) (xe : Value → Shared → Prop), Takes (X.tr pn xe) W → PassesOwn (model X.prog X.w) X.A X.env xe → PSs (X.tr pn xe) body (liftS g W db))
    (hh : HdKD X g (h₀ :: hds) l) : PS X (.Try body (h₀ :: hds) [] [] pos) (liftS g W (sTry X.K db l)) :=
  PS.imp (ps_try_k (tb := fun W => liftS g W db) hs hf tk hb hh.to) fun D σ H ⟨ρ, M, F, nx, rt, bk, ct, ex, S, En, q, k1, k2, k3, k4, k5⟩ => by
    rw [← hK] at q ⊢
    exact ⟨ρ, M, F, nx, rt, bk, ct, _, S, En, q, k1, k2, k3, k4, fun C dd ρ' M' F' σ' H' z s S' En' => hGo_w k1 k2 k3 k4 k5 l C dd ρ' M' F' σ' H' z s S' En'⟩
/-- err.f in a suite -/
def dXf (K : PySem.W.Frag) (a C dd : Addr) (n : Str) (de : DE) : DE := fun ρ M Q E => de ρ M (fun d M' => ∃ es d', d = .ptr a ∧ XfC K C ∧ PySem.W.findIn K (.ref C) n = some none ∧ (dd, MO.xd es) ∈ M' ∧ Has es n d' ∧ Q d' M') E
theorem de_xf {a C dd : Addr} {oe : Obj} {pn : List (Addr × Obj)} {n : Str} (hK : g.K = X.K) (hz : Zc (.ref C) (some dd) oe) (hf : ∃ vs, oe.data = .fields vs) (he : PE (X.suite a ((a, oe) :: pn)) e (liftE g W de)) (hb : attributeBase e n X.env (eval e X.env) = eval e X.env := by rfl) :
    PE (X.suite a ((a, oe) :: pn)) (.Attribute e n pos) (liftE g W (dXf X.K a C dd n de)) := by
  refine ⟨fun pins s σ H k I ⟨ρ, M, F, Q, E, S, En, q, kQ, kE⟩ => ?_⟩
  by_cases hT : XfC X.K C ∧ PySem.W.findIn X.K (.ref C) n = some none
  · refine (pe_xf hT.1 hT.2 hz hf he hb).run pins s σ H k I ⟨ρ, M, F, _, E, S, En, q, fun d M' F' v H' ⟨es, d', ed, _, _, hm, hh, z⟩ s S' r => ?_, kE⟩
    subst ed
    cases r
    obtain ⟨_, o, ho, kvs, rfl, l, rr⟩ := S'.mem _ _ hm
    obtain ⟨u, h1, h2⟩ := hh.rep l rr
    exact ⟨rfl, rfl, dd, kvs, u, rfl, ho, h1, kQ _ M' F' _ H' z s S' h2⟩
  · refine wpAny_mono (attr_of hb (thn (he.run pins s σ H (fun _ _ => False) I ⟨ρ, M, F, _, E, S, En, q, fun d M' F' v H' ⟨es, d', ed, h1, h2, _⟩ s S' r => hT ⟨h1, h2⟩, kE⟩) fun u s1 hh => ?_)) (fun _ _ z => z) (fun _ _ z => z)
    obtain ⟨_, _, _, _, z⟩ := hh
    exact z.elim
end
end DL
namespace DL
variable [Wd]
open PySem L2
section
variable {X : Cx} {g : G} {W : WX} {pos : Pos} {a b c e : Expr} {es : List Expr} {de : DE} {dt : DT}
/-! ### list comprehensions -/
/-- a target: a name, or a tuple of names -/
inductive CT where
  | nm (i : Nat) | tp (is : List Nat)
def putAll : Rho → List Nat → List D → Rho
  | ρ, i :: is, d :: ds => putAll (put ρ i (some d)) is ds
  | ρ, _, _ => ρ
def CT.go : CT → D → Rho → (Rho → Prop) → Prop
  | .nm i, d, ρ, k => k (put ρ i (some d))
  | .tp is, d, ρ, k => ∃ ds, d = .tup ds ∧ ds.length = is.length ∧ k (putAll ρ is ds)
def gNs : List Nat → TGs
  | [] => gNil
  | i :: is => gCons (gName i) (gNs is)
def CT.tg (K : PySem.W.Frag) : CT → TG
  | .nm i => gName i
  | .tp is => gTup K is.length (gNs is)
def CT.slots : CT → List Nat
  | .nm i => [i]
  | .tp is => is
def setAll : L2.St → List Nat → List V → L2.St
  | σ, i :: is, v :: vs => setAll (σ.set i (some v)) is vs
  | σ, _, _ => σ
theorem gNs_set : ∀ {is : List Nat} {xs : List V} {σ : L2.St} {H : Hp} {k : L2.St → Hp → Prop}, xs.length = is.length → k (setAll σ is xs) H → gNs is xs σ H k
  | [], [], _, _, _, _, h => ⟨rfl, h⟩
  | [], _ :: _, _, _, _, e, _ => by cases e
  | _ :: _, [], _, _, _, e, _ => by cases e
  | i :: is, x :: xs, σ, H, k, e, h => ⟨x, xs, rfl, gNs_set (Nat.succ.inj e) h⟩
theorem enr_setAll {K : PySem.W.Frag} {F : Hp} : ∀ {is : List Nat} {xs : List V} {ds : List D} {σ : L2.St} {ρ : Rho}, Reps K F xs ds → Enr K F σ ρ → Enr K F (setAll σ is xs) (putAll ρ is ds)
  | [], _, _, _, _, _, En => by unfold setAll putAll; exact En
  | _ :: _, _, _, _, _, .nil, En => En
  | i :: is, _, _, σ, ρ, .cons r t, En => enr_setAll (is := is) t (En.set i r)
def wipeD : Rho → List Nat → Rho
  | ρ, [] => ρ
  | ρ, v :: vs => put (wipeD ρ vs) v none
theorem enr_wipe {K : PySem.W.Frag} {F : Hp} {σ : L2.St} {ρ : Rho} (En : Enr K F σ ρ) : ∀ vs : List Nat, Enr K F (wipe σ vs) (wipeD ρ vs)
  | [] => En
  | v :: vs => (enr_wipe En vs).unset v none
theorem get_wipe (σ : L2.St) (j : Nat) : ∀ vs : List Nat, (wipe σ vs)[j]? = if j ∈ vs then (if j < σ.length then some none else none) else σ[j]?
  | [] => by simp [wipe]
  | v :: vs => by
    unfold wipe
    by_cases h : j = v
    · subst h
      rw [if_pos List.mem_cons_self]
      by_cases hl : j < σ.length
      · rw [if_pos hl, List.getElem?_set_self (by rw [wipe_length]; exact hl)]
      · rw [if_neg hl, List.getElem?_eq_none]
        rw [List.length_set, wipe_length]
        omega
    · rw [List.getElem?_set_ne (fun e => h e.symm), get_wipe σ j vs]
      by_cases hm : j ∈ vs
      · rw [if_pos hm, if_pos (List.mem_cons_of_mem _ hm)]
      · rw [if_neg hm, if_neg (fun z => (List.mem_cons.mp z).elim h hm)]
theorem wipe_set {σ : L2.St} {vs : List Nat} {i : Nat} {x : Option V} (h : i ∈ vs) : wipe ((wipe σ vs).set i x) vs = wipe σ vs := by
  apply List.ext_getElem?
  intro j
  rw [get_wipe, get_wipe, List.length_set, wipe_length]
  by_cases hm : j ∈ vs
  · rw [if_pos hm, if_pos hm]
  · rw [if_neg hm, if_neg hm, List.getElem?_set_ne (fun e => hm (by rw [← e]; exact h)), get_wipe, if_neg hm]
theorem wipe_of {σ τ : L2.St} {vs : List Nat} {i : Nat} {x : Option V} (h : i ∈ vs) (e : wipe τ vs = wipe σ vs) : wipe (τ.set i x) vs = wipe σ vs := by
  rw [← e]
  apply List.ext_getElem?
  intro j
  rw [get_wipe, get_wipe, List.length_set]
  by_cases hm : j ∈ vs
  · rw [if_pos hm, if_pos hm]
  · rw [if_neg hm, if_neg hm, List.getElem?_set_ne (fun e => hm (by rw [← e]; exact h))]
theorem wipe_setAll {σ : L2.St} {vs : List Nat} : ∀ {is : List Nat} {xs : List V} {τ : L2.St}, (∀ i ∈ is, i ∈ vs) → wipe τ vs = wipe σ vs → wipe (setAll τ is xs) vs = wipe σ vs
  | [], _, _, _, e => by unfold setAll; exact e
  | _ :: _, [], _, _, e => e
  | i :: is, x :: xs, τ, h, e => wipe_setAll (is := is) (xs := xs) (fun j hj => h j (List.mem_cons_of_mem _ hj)) (wipe_of (h i List.mem_cons_self) e)
theorem wipe_wipe {σ : L2.St} (vs : List Nat) : wipe (wipe σ vs) vs = wipe σ vs := by
  apply List.ext_getElem?
  intro j
  rw [get_wipe, get_wipe, wipe_length]
  by_cases hm : j ∈ vs
  · rw [if_pos hm, if_pos hm]
  · rw [if_neg hm, if_neg hm]
def noE : XD := fun _ _ _ => False
/-- the turns: what is left, what stands so far -/
def goC (ct : CT) (dt : DT) (de : DE) (st : Mem → Prop) (ρ : Rho) (Q : List D → Mem → Prop) : List D → List D → Mem → Prop
  | [], acc, M => st M ∧ Q acc M
  | d :: ds, acc, M => st M ∧ ct.go d ρ (fun ρ' => dt ρ' M (fun b M2 => if b = true then de ρ' M2 (fun e M3 => goC ct dt de st ρ Q ds (acc ++ [e]) M3) noE else goC ct dt de st ρ Q ds acc M2) noE)
def dLc (di : DI) (ct : CT) (dt : DT) (de : DE) (vs : List Nat) : DE := fun ρ M Q E => di ρ M (fun ds st M1 => ds.length < sizeLine ∧ goC ct dt de st (wipeD ρ vs) (fun acc M2 => NewL acc M2 Q) ds [] M1) E
def dYes : DT := fun _ M Q _ => Q true M
theorem dts_nil : PTs X [] (liftT g W dYes) := ⟨fun pins s σ H k I ⟨ρ, M, F, Q, E, S, En, q, kQ, _⟩ => pts_nil.run pins s σ H k I (kQ true M F H q (Same.r F) S)⟩
theorem dts_one (h : PT X c (liftT g W dt)) : PTs X [c] (liftT g W dt) := pts_one h
theorem lift_lc {di : DI} {ct : CT} {vs : List Nat} {K : PySem.W.Frag} {U : Hp} {tt : TT} {te : TE} (hv : ∀ i ∈ ct.slots, i ∈ vs) (ht : ∀ U σ H k, liftT ⟨K, U⟩ W0 dt σ H k → tt σ H k) (he : ∀ U σ H k, liftE ⟨K, U⟩ W0 de σ H k → te σ H k) {σ : L2.St} {H : Hp} {k : VK}
    (h : liftE ⟨K, U⟩ W (dLc di ct dt de vs) σ H k) : tLc (liftI ⟨K, U⟩ W di) (ct.tg K) tt te vs σ H k := by
  obtain ⟨ρ, M, F, Q, E, S, En, q, kQ, kE⟩ := h
  refine ⟨ρ, M, F, _, _, S, En, q, fun its st M1 U1 V F1 J H1 ⟨hz, q1⟩ su sv s1 S1 Y => fun p hp => ?_, kE⟩
  -- the state of a turn: p's list apart from all else
  refine ⟨fun i m H => m = its.length - i ∧ i ≤ its.length ∧ ∃ acc xs M F', acc.length ≤ i ∧ Same F1 F' ∧ Sta ⟨K, U1⟩ F' M H ∧ H p = some (.lst xs) ∧ F' p = none ∧ (∀ m, (p, m) ∉ M) ∧ U1 p = none ∧ Reps K F' xs acc ∧
    goC ct dt de st (wipeD ρ vs) (fun acc M2 => NewL acc M2 Q) (its.drop i) acc M, ⟨_, rfl, Nat.zero_le _, [], [], M1, F1, Nat.le_refl _, Same.r F1, S1.grow hp, upd_same, S1.sub.none hp, S1.fresh hp, ?_, .nil, q1⟩, ?_⟩
  · cases e : U1 p with
    | none => rfl
    | some o =>
      have := (S1.out p o e).1
      rw [hp] at this
      cases this
  rintro i m H2 ⟨rfl, hi, acc, xs, M2, F2, ha, s2, S2, hpH, hpF, hpM, hpU, ra, q2⟩
  by_cases hlt : i < its.length
  · rw [List.drop_eq_getElem_cons hlt] at q2
    obtain ⟨hst, q3⟩ := q2
    -- p among what others hold
    have S2' : Sta ⟨K, upd U1 p (.lst xs)⟩ F2 M2 H2 := ⟨S2.sub, fun b o hb => by
      by_cases hbp : b = p
      · subst hbp
        have hb' : (upd U1 b (.lst xs)) b = some o := hb
        rw [upd_same] at hb'
        cases hb'
        exact ⟨hpH, .inl hpF, hpM⟩
      · have hb' : (upd U1 p (.lst xs)) b = some o := hb
        rw [upd_ne hbp] at hb'
        exact S2.out b o hb', S2.mem, S2.nd⟩
    have sup : Same U1 (upd U1 p (.lst xs)) := fun b o hb => by rw [upd_ne (ne_of_none hb hpU)]; exact hb
    obtain ⟨g1, g2⟩ := Y.go i its[i] _ F2 M2 H2 (sv.t sup) s2 S2' hst (by simp [hlt])
    -- back
    have back : ∀ {F : Hp} {M : Mem} {H : Hp}, Sta ⟨K, upd U1 p (.lst xs)⟩ F M H → Sta ⟨K, U1⟩ F M H ∧ H p = some (.lst xs) ∧ F p = none ∧ (∀ m, (p, m) ∉ M) := fun {F M H} S => by
      obtain ⟨u1, u2', u3⟩ := S.out p (.lst xs) upd_same
      have u2 : F p = none := by
        rcases u2' with h | ⟨_, _, h, _⟩
        · exact h
        · cases h
      refine ⟨⟨S.sub, fun b o hb => S.out b o ?_, S.mem, S.nd⟩, u1, u2, u3⟩
      have hbp : b ≠ p := fun z => by
        subst z
        have hb' : U1 b = some o := hb
        rw [hpU] at hb'
        cases hb'
      show (upd U1 p (.lst xs)) b = some o
      rw [upd_ne hbp]
      exact hb
    refine .inr ⟨g1, fun H' => i + 1 ≤ its.length ∧ ∃ acc xs M F', acc.length ≤ i + 1 ∧ Same F1 F' ∧ Sta ⟨K, U1⟩ F' M H' ∧ H' p = some (.lst xs) ∧ F' p = none ∧ (∀ m, (p, m) ∉ M) ∧ U1 p = none ∧ Reps K F' xs acc ∧
      goC ct dt de st (wipeD ρ vs) (fun acc M2 => NewL acc M2 Q) (its.drop (i + 1)) acc M, fun H' pr => ⟨_, by omega, rfl, pr⟩, fun x H' y => ?_⟩
    obtain ⟨F3, s3, S3, r3⟩ := g2 x H' y
    have s13 := s2.t s3
    -- behind the target
    have inner : ∀ σ2 ρ2, wipe σ2 vs = wipe σ vs → Enr K F3 σ2 ρ2 → dt ρ2 M2 (fun b M3 => if b = true then de ρ2 M3 (fun e M4 => goC ct dt de st (wipeD ρ vs) (fun acc M2 => NewL acc M2 Q) (its.drop (i + 1)) (acc ++ [e]) M4) noE
        else goC ct dt de st (wipeD ρ vs) (fun acc M2 => NewL acc M2 Q) (its.drop (i + 1)) acc M3) noE →
        wipe σ2 vs = wipe σ vs ∧ tt σ2 H' fun b H3 => if b = true then te σ2 H3 fun y H4 => ∃ acc, H4 p = some (.lst acc) ∧ acc.length < sizeLine ∧ (i + 1 ≤ its.length ∧ ∃ acc' xs M F', acc'.length ≤ i + 1 ∧ Same F1 F' ∧ Sta ⟨K, U1⟩ F' M (upd H4 p (.lst (acc ++ [y]))) ∧ (upd H4 p (.lst (acc ++ [y]))) p = some (.lst xs) ∧ F' p = none ∧ (∀ m, (p, m) ∉ M) ∧ U1 p = none ∧ Reps K F' xs acc' ∧
          goC ct dt de st (wipeD ρ vs) (fun acc M2 => NewL acc M2 Q) (its.drop (i + 1)) acc' M) else (i + 1 ≤ its.length ∧ ∃ acc xs M F', acc.length ≤ i + 1 ∧ Same F1 F' ∧ Sta ⟨K, U1⟩ F' M H3 ∧ H3 p = some (.lst xs) ∧ F' p = none ∧ (∀ m, (p, m) ∉ M) ∧ U1 p = none ∧ Reps K F' xs acc ∧
          goC ct dt de st (wipeD ρ vs) (fun acc M2 => NewL acc M2 Q) (its.drop (i + 1)) acc M) := by
      intro σ2 ρ2 hw En2 q4
      refine ⟨hw, ht (upd U1 p (.lst xs)) _ _ _ ⟨ρ2, M2, F3, _, _, S3, En2, q4, fun b M4 F4 H4 q5 s4 S4 => ?_, fun _ _ _ _ _ z => z.elim⟩⟩
      cases b with
      | false =>
        rw [if_neg Bool.false_ne_true] at q5 ⊢
        obtain ⟨S4', u1, u2, u3⟩ := back S4
        exact ⟨hlt, acc, xs, M4, F4, by omega, s13.t s4, S4', u1, u2, u3, hpU, (ra.mono s3).mono s4, q5⟩
      | true =>
        rw [if_pos rfl] at q5 ⊢
        refine he (upd U1 p (.lst xs)) _ _ _ ⟨ρ2, M4, F4, _, _, S4, En2.mono s4, q5, fun d M5 F5 v H5 q6 s5 S5 r5 => ?_, fun _ _ _ _ _ z => z.elim⟩
        obtain ⟨S5', u1, u2, u3⟩ := back S5
        have hl : xs.length < sizeLine := by rw [ra.length]; omega
        refine ⟨xs, u1, hl, hlt, acc ++ [d], xs ++ [v], M5, F5, by rw [List.length_append]; simp; omega, (s13.t s4).t s5, ?_, upd_same, u2, u3, hpU, (((ra.mono s3).mono s4).mono s5).append (.cons r5 .nil), q6⟩
        refine ⟨fun b o hb => ?_, fun b o hb => ?_, fun b m hm => ?_, S5'.nd⟩
        · rw [upd_ne (ne_of_none hb u2)]
          exact S5'.sub b o hb
        · have hbp : b ≠ p := fun z => by
            subst z
            have hb' : U1 b = some o := hb
            rw [hpU] at hb'
            cases hb'
          rw [upd_ne hbp]
          exact S5'.out b o hb
        · have hbp : b ≠ p := fun z => by
            subst z
            exact u3 m hm
          rw [upd_ne hbp]
          exact S5'.mem b m hm
    have En3 : Enr K F3 (wipe σ vs) (wipeD ρ vs) := enr_wipe (En.mono (s1.t s13)) vs
    cases ct with
    | nm j => exact inner _ _ (wipe_set (hv j List.mem_cons_self)) (En3.set j r3) q3
    | tp is =>
      obtain ⟨ds, ed, hl, q4⟩ := q3
      rw [ed] at r3
      cases r3 with
      | tup hs rr =>
        exact ⟨_, _, rfl, S3.sub.sqT hs, by rw [rr.length]; exact hl, gNs_set (by rw [rr.length]; exact hl) (inner _ _ (wipe_setAll (fun j hj => hv j hj) (wipe_wipe vs)) (enr_setAll rr En3) q4)⟩
  · have e : its.drop i = [] := List.drop_eq_nil_of_le (by omega)
    rw [e] at q2
    refine .inl ⟨Y.stop i U1 F2 M2 H2 sv s2 S2 q2.1 (by omega), ?_⟩
    obtain ⟨_, q4⟩ := q2
    rcases q4 with q4 | q4
    · -- the list is frozen
      have s : Same F2 (upd F2 p (.lst xs)) := fun b w hb => by rw [upd_ne (ne_of_none hb hpF)]; exact hb
      refine kQ _ M2 (upd F2 p (.lst xs)) _ H2 q4 ((s1.t s2).t s) (Sta.less (U' := U1) ⟨fun b o hb => ?_, fun b o hb => ?_, fun b m hm => ?_, S2.nd⟩ su) (.lst upd_same (ra.mono s))
      · by_cases hbp : b = p
        · subst hbp
          rw [upd_same] at hb
          cases hb
          exact .inl hpH
        · rw [upd_ne hbp] at hb
          exact S2.sub b o hb
      · have hbp : b ≠ p := fun z => by
          subst z
          have hb' : U1 b = some o := hb
          rw [hpU] at hb'
          cases hb'
        obtain ⟨o1, o2, o3⟩ := S2.out b o hb
        exact ⟨o1, o2.ext (upd_ne hbp), o3⟩
      · have hbp : b ≠ p := fun z => by
          subst z
          exact hpM m hm
        rw [upd_ne hbp]
        obtain ⟨h1, w, h2, h3⟩ := S2.mem b m hm
        exact ⟨h1, w, h2, h3.mono s⟩
    · refine kQ _ _ F2 _ H2 (q4 p hpM) (s1.t s2) (Sta.less (U' := U1) ⟨S2.sub, fun b o hb => ?_, fun b m hm => ?_, ?_⟩ su) (.ptr p)
      · obtain ⟨u1, u2, u3⟩ := S2.out b o hb
        refine ⟨u1, u2, fun m hm => ?_⟩
        rcases List.mem_cons.mp hm with z | z
        · have e : b = p := congrArg Prod.fst z
          subst e
          have hb' : U1 b = some o := hb
          rw [hpU] at hb'
          cases hb'
        · exact u3 m z
      · rcases List.mem_cons.mp hm with z | z
        · cases z
          exact ⟨hpF, _, hpH, xs, rfl, ra⟩
        · exact S2.mem b m z
      · refine List.nodup_cons.mpr ⟨fun z => ?_, S2.nd⟩
        obtain ⟨q, hq, e⟩ := List.mem_map.mp z
        obtain ⟨b, n⟩ := q
        cases e
        exact hpM n hq
theorem de_lc {elt tg iter : Expr} {ifs : List Expr} {scope : Scope} {own : List (Str × Nat)} {di : DI} {ct : CT} (hc : X.calm = true) (hK : g.K = X.K) (hN : X.N.Nodup) (hi : PI X tg iter (liftI g W di)) (ok : BlkOk X.N X.env.scope scope own)
    (hv : ∀ i ∈ ct.slots, i ∈ own.map (·.2))
    (hg : ∀ (s : Shared) (H : Hp) (C : Addr) (cl : List (Str × Addr)) (fp : List Addr), PG (X.blk s H scope (PySem.compEnvC scope cl C X.env) fp) tg (ct.tg X.K))
    (ht : ∀ (U : Hp) (s : Shared) (H : Hp) (C : Addr) (cl : List (Str × Addr)) (fp : List Addr), PTs (X.blk s H scope (PySem.compEnvC scope cl C X.env) fp) ifs (liftT ⟨X.K, U⟩ W0 dt))
    (he : ∀ (U : Hp) (s : Shared) (H : Hp) (C : Addr) (cl : List (Str × Addr)) (fp : List Addr), PE (X.blk s H scope (PySem.compEnvC scope cl C X.env) fp) elt (liftE ⟨X.K, U⟩ W0 de)) (hs : ∀ x, foldedSetIterable iter X.env x = pure x := by intro _; rfl) :
    PE X (.ListComp elt [⟨tg, iter, ifs, 0⟩] scope pos) (liftE g W (dLc di ct dt de (own.map (·.2)))) := by
  obtain ⟨K0, U⟩ := g
  simp only at hK
  subst hK
  exact PE.imp (pe_lc (tt := fun σ H k => ∃ U, liftT ⟨X.K, U⟩ W0 dt σ H k) (te := fun σ H k => ∃ U, liftE ⟨X.K, U⟩ W0 de σ H k) hc hN hi ok hg (fun s H C cl fp => ⟨fun pins s1 σ H1 Q I ⟨U, q⟩ => (ht U s H C cl fp).run pins s1 σ H1 Q I q⟩)
    (fun s H C cl fp => ⟨fun pins s1 σ H1 Q I ⟨U, q⟩ => (he U s H C cl fp).run pins s1 σ H1 Q I q⟩) hs) fun σ H k h => lift_lc hv (fun U σ H k q => ⟨U, q⟩) (fun U σ H k q => ⟨U, q⟩) h
/-- y = [..] -/
theorem ds_setLc {i : Nat} {y : Str} {py spos : Pos} {elt tg iter : Expr} {ifs : List Expr} {scope : Scope} {own : List (Str × Nat)} {di : DI} {ct : CT} (hc : X.calm = true) (hK : g.K = X.K) (hN : X.N.Nodup) (hy : X.N[i]? = some y) (hyl : X.env.scope.names.lookup y = some .local)
    (hsw : swapsWith (.ListComp elt [⟨tg, iter, ifs, 0⟩] scope pos) (some (.Name y py)) spos.line X.env = pure true) (hi : PI X tg iter (liftI g W di)) (ok : BlkOk X.N X.env.scope scope own)
    (hv : ∀ i ∈ ct.slots, i ∈ own.map (·.2))
    (hg : ∀ (s : Shared) (H : Hp) (C : Addr) (cl : List (Str × Addr)) (fp : List Addr), PG (X.blk s H scope (PySem.compEnvC scope cl C X.env) fp) tg (ct.tg X.K))
    (ht : ∀ (U : Hp) (s : Shared) (H : Hp) (C : Addr) (cl : List (Str × Addr)) (fp : List Addr), PTs (X.blk s H scope (PySem.compEnvC scope cl C X.env) fp) ifs (liftT ⟨X.K, U⟩ W0 dt))
    (he : ∀ (U : Hp) (s : Shared) (H : Hp) (C : Addr) (cl : List (Str × Addr)) (fp : List Addr), PE (X.blk s H scope (PySem.compEnvC scope cl C X.env) fp) elt (liftE ⟨X.K, U⟩ W0 de)) (hs : ∀ x, foldedSetIterable iter X.env x = pure x := by intro _; rfl) :
    PS X (.Assign [.Name y py] (.ListComp elt [⟨tg, iter, ifs, 0⟩] scope pos) spos) (liftS g W (sAsg (dLc di ct dt de (own.map (·.2))) (gNm i))) := by
  obtain ⟨K0, U⟩ := g
  simp only at hK
  subst hK
  refine PS.imp (ps_setLc (tt := fun σ H k => ∃ U, liftT ⟨X.K, U⟩ W0 dt σ H k) (te := fun σ H k => ∃ U, liftE ⟨X.K, U⟩ W0 de σ H k) hc hN hy hyl hsw hi ok hg (fun s H C cl fp => ⟨fun pins s1 σ H1 Q I ⟨U, q⟩ => (ht U s H C cl fp).run pins s1 σ H1 Q I q⟩)
    (fun s H C cl fp => ⟨fun pins s1 σ H1 Q I ⟨U, q⟩ => (he U s H C cl fp).run pins s1 σ H1 Q I q⟩) hs) fun D σ H ⟨ρ, M, F, nx, rt, bk, ct', ex, S, En, q, k1, k2, k3, k4, k5⟩ => ?_
  refine lift_lc (W := W) hv (fun U σ H k q => ⟨U, q⟩) (fun U σ H k q => ⟨U, q⟩) ⟨ρ, M, F, _, _, S, En, q, fun d M' F' v H' z s S' r => ?_, fun C dd M' F' H' z s S' => k5 C dd ρ M' F' σ H' z s S' (En.mono s)⟩
  exact k1 _ M' F' _ H' z s S' ((En.mono s).set i r)
end
end DL
namespace DL
variable [Wd]
open PySem L2
section
variable {X : Cx} {g : G} {W : WX} {pos : Pos} {a b c e o i : Expr} {es : List Expr} {da db dc de do_ di_ : DE} {dA : DA} {x f m : Str} {p apos cpos : Pos}
/-! ### a frozen dict is held while it is walked -/
def tLk (td : TE) : TE := fun σ H Q => td σ H fun x H1 => ∃ d u, x = .ref d ∧ ((∃ z, H1 d = some (.frz z u) ∧ Q x H1) ∨ (H1 d = some u ∧ Mut (some u) ∧ ∀ z, Q x (upd H1 d (.frz z u))))
theorem pe_lk {td : TE} (h : PE X e td) : PE X e (tLk td) := by
  refine ⟨fun pins s σ H Q I q => thn (h.run pins s σ H _ I q) fun v s1 ⟨x, H1, I1, rx, d, u, ex, q1⟩ => ?_⟩
  subst ex
  rcases q1 with ⟨z, _, q1⟩ | ⟨hd, mu, q1⟩
  · exact ⟨_, H1, I1, rx, q1⟩
  · obtain ⟨z, I2⟩ := I1.lock hd mu
    exact ⟨_, _, I2, rx, q1 z⟩
theorem sta_hold {K : PySem.W.Frag} {U F : Hp} {M : Mem} {H : Hp} {a : Addr} {u : HO} {z : Obj} (S : Sta ⟨K, U⟩ F M H) (hF : F a = some u) (hd : isDct u = true) (hH : H a = some (.frz z u)) : Sta ⟨K, upd U a (.frz z u)⟩ F M H ∧ Same U (upd U a (.frz z u)) := by
  refine ⟨⟨S.sub, fun b w hb => ?_, S.mem, S.nd⟩, fun b w hb => ?_⟩
  · by_cases e : b = a
    · subst e
      have hb' : upd U b (.frz z u) b = some w := hb
      rw [upd_same] at hb'
      cases hb'
      exact ⟨hH, .inr ⟨z, u, rfl, hF, hd⟩, fun m hm => by rw [(S.mem b m hm).1] at hF; cases hF⟩
    · have hb' : upd U a (.frz z u) b = some w := hb
      rw [upd_ne e] at hb'
      exact S.out b w hb'
  · by_cases e : b = a
    · subst e
      obtain ⟨h1, _⟩ := S.out b w hb
      rw [hH] at h1
      cases h1
      exact upd_same
    · rw [upd_ne e]; exact hb
/-- what a walk over a locked dict needs -/
theorem lock_dic {F : Hp} {M : Mem} {H : Hp} {v : V} {xs : List (Key × D)} {R : V → Hp → Prop} (S : Sta g F M H) (r : Rep g.K F v (.dic xs))
    (h : ∀ d z kvs U' H', v = .ref d → F d = some (.dK kvs) → H' d = some (.frz z (.dK kvs)) → (∃ V, V d = some (.frz z (.dK kvs)) ∧ Same V U' ∧ ∀ b o, V b = some o → ∃ z u, o = HO.frz z u) → Same g.U U' → Sta ⟨g.K, U'⟩ F M H' → kvs.map (·.1) = xs.map (·.1) → Reps g.K F (kvs.map (·.2)) (xs.map (·.2)) → R v H') :
    ∃ d u, v = .ref d ∧ ((∃ z, H d = some (.frz z u) ∧ R v H) ∨ (H d = some u ∧ Mut (some u) ∧ ∀ z, R v (upd H d (.frz z u)))) := by
  obtain ⟨K, U⟩ := g
  cases r with
  | dic e l r =>
    rename_i kvs
    refine ⟨_, .dK kvs, rfl, ?_⟩
    have lone : ∀ (d : Addr) (z : Obj) (U' : Hp) (u : HO), U' d = some (.frz z u) → ∃ V : Hp, V d = some (.frz z u) ∧ Same V U' ∧ ∀ b o, V b = some o → ∃ z u, o = HO.frz z u := fun d z U' u hU => by
      refine ⟨upd noH d (.frz z u), upd_same, fun b w hb => ?_, fun b w hb => ?_⟩
      · by_cases e : b = d
        · subst e
          rw [upd_same] at hb
          cases hb
          exact hU
        · rw [upd_ne e] at hb
          cases hb
      · by_cases e : b = d
        · subst e
          rw [upd_same] at hb
          cases hb
          exact ⟨_, _, rfl⟩
        · rw [upd_ne e] at hb
          cases hb
    rcases S.sub.dK e with q | ⟨z, q⟩
    · refine .inr ⟨q, trivial, fun z => ?_⟩
      obtain ⟨S', hU⟩ := S.lock (z := z) e rfl q
      exact h _ z _ _ _ rfl e upd_same (lone _ z _ _ upd_same) (fun b w hb => by rw [upd_ne (ne_of_none hb hU)]; exact hb) S' l r
    · obtain ⟨S', su⟩ := sta_hold S e rfl q
      exact .inl ⟨z, q, h _ z _ _ _ rfl e q (lone _ z _ _ upd_same) su S' l r⟩
theorem kv_get {K : PySem.W.Frag} {F : Hp} {kvs : List (Key × V)} {xs : List (Key × D)} (l : kvs.map (·.1) = xs.map (·.1)) (r : Reps K F (kvs.map (·.2)) (xs.map (·.2))) {i : Nat} {k : Key} {v : V} (h : kvs[i]? = some (k, v)) :
    ∃ d, xs[i]? = some (k, d) ∧ Rep K F v d := by
  have h2 : (kvs.map (·.2))[i]? = some v := by rw [List.getElem?_map, h]; rfl
  obtain ⟨d, e, rd⟩ := r.get' h2
  have h1 : (kvs.map (·.1))[i]? = some k := by rw [List.getElem?_map, h]; rfl
  rw [l, List.getElem?_map] at h1
  rw [List.getElem?_map] at e
  cases q : xs[i]? with
  | none => rw [q] at h1; cases h1
  | some y =>
    obtain ⟨k', d'⟩ := y
    rw [q] at h1 e
    cases h1
    cases e
    exact ⟨_, rfl, rd⟩
theorem rep_key {K : PySem.W.Frag} {F : Hp} (k : Key) : Rep K F (kV k) (keyD k) := by
  cases k <;> first | exact .int _ | exact .str _
theorem kvs_len {kvs : List (Key × V)} {xs : List (Key × D)} (l : kvs.map (·.1) = xs.map (·.1)) : kvs.length = xs.length := by
  have e := congrArg List.length l
  rwa [List.length_map, List.length_map] at e
theorem held {K : PySem.W.Frag} {U1 U F : Hp} {M : Mem} {H : Hp} {d : Addr} {o : HO} (hU : U1 d = some o) (su : Same U1 U) (S : Sta ⟨K, U⟩ F M H) : H d = some o := (S.out d o (su _ _ hU)).1
def itemsD (xs : List (Key × D)) : List D := xs.map fun kv => .tup [keyD kv.1, kv.2]
def iItm (de : DE) : DI := fun ρ M Q E => de ρ M (fun d M' => ∃ xs, d = .dic xs ∧ Q (itemsD xs) (fun _ => True) M') E
def iKey (de : DE) : DI := fun ρ M Q E => de ρ M (fun d M' => ∃ xs, d = .dic xs ∧ Q (xs.map fun kv => keyD kv.1) (fun _ => True) M') E
theorem di_items {elts : List Expr} {kk : Nat} {tpos : Pos} (he : PE X e (liftE g W de)) (hbase : attributeBase e "items" X.env (eval e X.env) = eval e X.env := by rfl) (hline : (apos.endLine == cpos.line) = true := by rfl) :
    PI X (.Tuple elts kk tpos) (.Call (.Attribute e "items" apos) [] [] cpos) (liftI g W (iItm de)) :=
  (pi_items (pe_lk he) hbase hline).imp fun σ H R ⟨ρ, M, F, Q, E, S, En, q, kQ, kE⟩ => ⟨ρ, M, F, _, E, S, En, q, fun d M' F' v H' ⟨xs, ed, z⟩ s S' r => by
    subst ed
    refine lock_dic (R := fun x H1 => ∃ d o kvs, x = V.ref d ∧ H1 d = some (.frz o (.dK kvs)) ∧ R (Iti d o kvs) H1) S' r fun d zo kvs U' H2 ev hF hH ⟨V, hU, sV, plV⟩ su S2 l rr => ⟨d, zo, kvs, ev, hH, kQ _ _ M' U' V F' _ H2 z su sV s S2 ⟨plV, fun i y U F2 M2 H3 su2 s2 S3 _ ey => ?_, fun i U F2 M2 H3 su2 s2 S3 _ ey => ?_⟩⟩
    · have hlt : i < kvs.length := by
        rw [kvs_len l]
        have := (List.getElem?_eq_some_iff.mp ey).1
        unfold itemsD at this
        rwa [List.length_map] at this
      refine ⟨⟨held hU su2 S3, hlt⟩, fun w H4 ⟨T, k, u, e1, e2, e3, e4⟩ => ?_⟩
      obtain ⟨dv, e5, r5⟩ := kv_get l rr e1
      unfold itemsD at ey
      rw [List.getElem?_map, e5] at ey
      cases ey
      subst e2 e4
      obtain ⟨s4, S4⟩ := S3.newF (o := .tup [kV k, u]) e3
      exact ⟨_, s4, S4, .tup upd_same (.cons (rep_key k) (.cons (r5.mono (s2.t s4)) .nil))⟩
    · refine ⟨held hU su2 S3, ?_⟩
      unfold itemsD at ey
      rw [List.length_map] at ey
      rw [kvs_len l]
      exact ey, kE⟩
theorem di_keys {tg : Expr} (he : PE X e (liftE g W de)) : PI X tg e (liftI g W (iKey de)) :=
  (pi_keys (pe_lk he)).imp fun σ H R ⟨ρ, M, F, Q, E, S, En, q, kQ, kE⟩ => ⟨ρ, M, F, _, E, S, En, q, fun d M' F' v H' ⟨xs, ed, z⟩ s S' r => by
    subst ed
    refine lock_dic (R := fun x H1 => ∃ d o, x = V.ref d ∧ ((∃ kvs, H1 d = some (.frz o (.dK kvs)) ∧ R (Itk d o kvs) H1) ∨ ∃ kvs, H1 d = some (.frz o (.dT kvs)) ∧ R (Itkt d o kvs) H1)) S' r fun d zo kvs U' H2 ev hF hH ⟨V, hU, sV, plV⟩ su S2 l rr => ⟨d, zo, ev, .inl ⟨kvs, hH, kQ _ _ M' U' V F' _ H2 z su sV s S2 ⟨plV, fun i y U F2 M2 H3 su2 s2 S3 _ ey => ?_, fun i U F2 M2 H3 su2 s2 S3 _ ey => ?_⟩⟩⟩
    · have hlt : i < kvs.length := by
        rw [kvs_len l]
        have := (List.getElem?_eq_some_iff.mp ey).1
        rwa [List.length_map] at this
      refine ⟨⟨held hU su2 S3, hlt⟩, fun w H4 ⟨e4, k, u, e1, e2⟩ => ?_⟩
      obtain ⟨dv, e5, r5⟩ := kv_get l rr e1
      rw [List.getElem?_map, e5] at ey
      cases ey
      subst e2 e4
      exact ⟨_, Same.r _, S3, rep_key k⟩
    · refine ⟨held hU su2 S3, ?_⟩
      rw [List.length_map] at ey
      rw [kvs_len l]
      exact ey, kE⟩
/-! ### {} -/
def NewM (o : MO) (d : D) (M : Mem) (Q : D → Mem → Prop) : Prop := Q d M ∨ ∀ p, (∀ m, (p, m) ∉ M) → Q (.ptr p) ((p, o) :: M)
def dDic : DE := fun _ M Q _ => NewM (.dic []) (.dic []) M Q ∨ NewM (.dit []) (.dit []) M Q
theorem _root_.L2.PE.either {X : Cx} {e : Expr} {t u : TE} (h : PE X e t) (h' : PE X e u) : PE X e (fun σ H k => t σ H k ∨ u σ H k) := ⟨fun pins s σ H k I q => q.elim (fun q => h.run pins s σ H k I q) fun q => h'.run pins s σ H k I q⟩
theorem nk_empty {P : Program} {w : World} {H : Hp} (h : Heap) (hb : sysModules < h.objs.size) : ObjOk P w H (h.push { cls := .type "dict", data := .dict #[] }) h.objs.size (hoN h.objs.size []) :=
  ⟨⟨Nat.zero_le _, beq_eq_false_iff_ne.mpr (Nat.ne_of_gt hb), List.nodup_nil, _, #[], 0, Heap.get?_push_size _ rfl, ⟨rfl, rfl, rfl⟩, rfl, rfl⟩, ⟨_, Heap.get?_push_size _ rfl⟩, fun h1 h2 ⟨a1, a2, a3, o, es, ep, b1, b2⟩ kp => ⟨a1, a2, a3, o, es, ep, kp o b1, b2⟩⟩
theorem pe_dnewN : PE X (.Dict [] [] pos) (fun _ H Q => ∀ p, H p = none → Q (.ref p) (upd H p (hoN p []))) := ⟨fun pins s σ H Q I h =>
  wpAny_Dict_empty ⟨.ref s.heap.objs.size, _, I.laid (a := s.heap.objs.size) (o := hoN s.heap.objs.size []) (t' := s.toks) (fun _ _ q => Heap.get?_push_of_some _ q) (Nat.le_refl _) (nk_empty s.heap I.big), rfl, h _ (I.hok.fresh (Nat.le_refl _))⟩⟩
theorem de_dic : PE X (.Dict [] [] pos) (liftE g W dDic) :=
  (PE.either pe_dnewK pe_dnewN).imp fun σ H k ⟨ρ, M, F, Q, E, S, En, q, kQ, kE⟩ => by
    rcases q with q | q
    · refine .inl fun p hp => ?_
      rcases q with q | q
      · obtain ⟨s, S'⟩ := S.newF (o := .dK []) hp
        exact kQ _ M _ _ _ q s S' (.dic upd_same rfl .nil)
      · exact kQ _ _ F _ _ (q p (S.fresh hp)) (Same.r F) (S.newM (m := .dic []) hp ⟨[], rfl, rfl, .nil⟩) (.ptr p)
    · refine .inr fun p hp => ?_
      rcases q with q | q
      · obtain ⟨s, S'⟩ := S.newF (o := hoN p []) hp
        exact kQ _ M _ _ _ q s S' (.dit upd_same rfl .nil .nil .nil)
      · exact kQ _ _ F _ _ (q p (S.fresh hp)) (Same.r F) (S.newM (m := .dit []) hp ⟨[], rfl, EntI.nil.of⟩) (.ptr p)
/-! ### o[i] = v -/
inductive SetQ (M : Mem) (d : D) (Q : Mem → Prop) : D → D → Prop
  | dic {q : Addr} {k : Key} {xs : List (Key × D)} {M' : Mem} : Upd q (.dic xs) (.dic (putD xs k d)) M M' → xs.length < sizeLine → Q M' → SetQ M d Q (.ptr q) (keyD k)
  | dit {q : Addr} {ds : List D} {k : NestedKey} {xs : List (D × D)} {M' : Mem} : toNK 8 (.tup ds) = some k → Upd q (.dit xs) (.dit (putT xs (.tup ds) k d)) M M' → xs.length < sizeLine → Q M' → SetQ M d Q (.ptr q) (.tup ds)
  | lst {q : Addr} {n : Int} {j : Nat} {ds : List D} {M' : Mem} : Upd q (.lst ds) (.lst (ds.set j d)) M M' → ixN ds.length n = some j → Q M' → SetQ M d Q (.ptr q) (.int n)
def gSub (do_ di_ : DE) : DG := fun d ρ M Q => do_ ρ M (fun o M1 => di_ ρ M1 (fun i M2 => SetQ M2 d (fun M3 => Q ρ M3) o i) fun _ _ _ => False) fun _ _ _ => False
theorem storedH_len {K : Type} [DecidableEq K] {xs : List (K × Addr × Value)} {k : K} {b : Addr} {u : Value} : (storedH xs k b u).length ≤ xs.length + 1 := by
  unfold storedH
  split
  · rw [List.length_map]; exact Nat.le_succ _
  · rw [List.length_append]; exact Nat.le_refl _
theorem set_any (hw : X.w = Wd.w) (hu : X.A.units + 64 < cLine) : PSet X (fun o i v H Q => ∃ F M d oD iD Qd, Sta g F M H ∧ Rep g.K F o oD ∧ Rep g.K F i iD ∧ Rep g.K F v d ∧ SetQ M d Qd oD iD ∧ ∀ M' H', Qd M' → Sta g F M' H' → Q H') := by
  intro pins s σ H o i v ov iv u Q I ro ri rv h
  obtain ⟨F, M, d, oD, iD, Qd, S, r1, r2, r3, q, kQ⟩ := h
  cases q with
  | dic hu2 hl z =>
    cases r1
    obtain rfl := key_rep r2
    obtain ⟨_, w, hw, kvs, rfl, l, rr⟩ := S.mem _ _ hu2.old
    have hl' : kvs.length < sizeLine := by rw [kvs_len l]; exact hl
    obtain ⟨p1, p2⟩ := put_rep _ l rr r3
    exact set_dict (by omega) pins s σ H _ _ v ov iv u Q I ro ri rv ⟨_, _, rfl, DPut.k hw hl', kQ _ _ z (S.upd hu2 ⟨_, rfl, p1, p2⟩)⟩
  | dit hk hu2 hl z =>
    cases r1
    obtain ⟨_, w, hw', xs, rfl, en⟩ := S.mem _ _ hu2.old
    obtain ⟨dd, hz, hy⟩ := nk_dict hw I S (.inl hw') en.to
    obtain rfl : ov = Value.ref _ := ro
    cases r2 with
    | tup hb rb =>
      obtain rfl : iv = Value.ref _ := ri
      obtain ⟨b1, b2⟩ := rep_nk I S 8 _ _ _ _ hk (.tup hb rb) rfl
      refine wpAny_setItem_heap (knd := nestedKind X.prog X.w) (hsz := hz) (room_in1 hu) ⟨b1, b2⟩ dd fun h' dd' hs => ?_
      have en' := (en.to.put hk (.tup hb rb) rv r3)
      have he : ∃ q, h'.get? _ = some q := let ⟨q, _, _, hq, _⟩ := dd'; ⟨q, hq⟩
      exact ⟨_, d_write I (by rw [hw']; exact True.intro) hs he (nk_new hw dd' (Nat.le_trans storedH_len (show xs.length + 1 ≤ sizeLine by rw [en.to.length]; exact hl)) hy), kQ _ _ z (S.upd hu2 ⟨_, rfl, en'.of⟩)⟩
  | lst hu2 hj z =>
    cases r1
    cases r2
    obtain ⟨_, w, hw, xs, rfl, rr⟩ := S.mem _ _ hu2.old
    exact set_list pins s σ H _ _ v ov iv u Q I ro ri rv ⟨_, xs, _, _, rfl, rfl, hw, by rw [rr.length]; exact hj, kQ _ _ z (S.upd hu2 ⟨_, rfl, rr.set r3 _⟩)⟩
theorem dg_sub (hw : X.w = Wd.w) (hu : X.A.units + 64 < cLine) (ho : PE X o (liftE g W0 do_)) (hi : PE X i (liftE g W0 di_))
    (ha : ∀ v, assign (.Subscript o i pos) X.env v = (do
      let ov ← holding [v] (eval o X.env)
      let iv ← holding [v, ov] (eval i X.env)
      standAt pos
      holding [v, ov, iv] (setItem ov iv v)
      release [v, ov, iv] []) := by intro _; rfl) : PG X (.Subscript o i pos) (liftG g (gSub do_ di_)) :=
  (pg_sub ho hi (set_any (g := g) hw hu) ha).imp fun v σ H k ⟨ρ, M, F, d, Q, S, En, r, q, kQ⟩ => by
    refine ⟨ρ, M, F, _, _, S, En, q, fun oD M1 F1 ov H1 q1 s1 S1 r1 => ⟨ρ, M1, F1, _, _, S1, En.mono s1, q1, fun iD M2 F2 iv H2 q2 s2 S2 r2 => ?_, fun _ _ _ _ _ z => z.elim⟩, fun _ _ _ _ _ z => z.elim⟩
    exact ⟨F2, M2, d, oD, iD, _, S2, r1.mono s2, r2, r.mono (s1.t s2), q2, fun M3 H3 z S3 => kQ ρ M3 F2 σ H3 z (s1.t s2) S3 (En.mono (s1.t s2))⟩
section
variable {F : Hp} {M : Mem} {H : Hp} {pins : List (Addr × Obj)} {σ : L2.St} {s : Shared}
end
/-! ### constants of a class -/
def dCon (K : PySem.W.Frag) (de : DE) (f : Str) : DE := fun ρ M Q E => de ρ M (fun d M' => ∃ C mc i u, d = .ptr C ∧ ClX.CRead K C mc ∧ ClX.CVal K C mc f (.int i) u ∧ Q (.int i) M') E
theorem de_con (he : PE X e (liftE g W de)) (hb : attributeBase e f X.env (eval e X.env) = eval e X.env := by rfl) : PE X (.Attribute e f pos) (liftE g W (dCon X.K de f)) :=
  (ClX.pe_cval he hb).imp fun σ H k ⟨ρ, M, F, Q, E, S, En, q, kQ, kE⟩ => ⟨ρ, M, F, _, E, S, En, q, fun d M' F' v H' ⟨C, mc, i, u, ed, h1, h2, z⟩ s S' r => by
    subst ed
    cases r
    exact ⟨C, mc, _, u, rfl, h1, h2, kQ _ M' F' _ H' z s S' (.int i)⟩, kE⟩
theorem de_globC {C : Addr} (hg : Gl X x) (hm : X.mg x = some (.ref C)) (hd : (x == ("__debug__" : Str)) = false := by decide) : PE X (.Name x pos) (liftE g W (dC (.ptr C))) := de_c (v := .ref C) (pe_glob hg hm rfl hd) fun _ => .ptr C
end
end DL
namespace DL
variable [Wd]
open PySem L2
section
variable {X : Cx} {g : G} {W : WX} {pos : Pos} {a b c e : Expr} {es : List Expr} {de dk dv : DE} {dt : DT}
/-! ### an object under construction, apart from all else -/
structure Acc (K : PySem.W.Frag) (U : Hp) (p : Addr) (o : HO) (F : Hp) (M : Mem) (H : Hp) : Prop where
  st : Sta ⟨K, U⟩ F M H
  at_ : H p = some o
  nF : F p = none
  nM : ∀ m, (p, m) ∉ M
  nU : U p = none
def Plain (o : HO) : Prop := ∀ z u, o ≠ .frz z u
section
variable {K : PySem.W.Frag} {U F : Hp} {M : Mem} {H : Hp} {p : Addr} {o o' : HO}
theorem acc_new (S : Sta ⟨K, U⟩ F M H) (hp : H p = none) : Acc K U p o F M (upd H p o) :=
  ⟨S.grow hp, upd_same, S.sub.none hp, S.fresh hp, by
    cases e : U p with
    | none => rfl
    | some w => have z := (S.out p w e).1; rw [hp] at z; cases z⟩
theorem Acc.into (A : Acc K U p o F M H) : Sta ⟨K, L2.upd U p o⟩ F M H := ⟨A.st.sub, fun b w hb => by
  by_cases e : b = p
  · subst e
    have hb' : (L2.upd U b o) b = some w := hb
    rw [upd_same] at hb'
    cases hb'
    exact ⟨A.at_, .inl A.nF, A.nM⟩
  · have hb' : (L2.upd U p o) b = some w := hb
    rw [upd_ne e] at hb'
    exact A.st.out b w hb', A.st.mem, A.st.nd⟩
theorem acc_back (hU : U p = none) (ho : Plain o) (S : Sta ⟨K, L2.upd U p o⟩ F M H) : Acc K U p o F M H := by
  obtain ⟨u1, u2, u3⟩ := S.out p o upd_same
  refine ⟨⟨S.sub, fun b w hb => S.out b w ?_, S.mem, S.nd⟩, u1, ?_, u3, hU⟩
  · have hbp : b ≠ p := fun z => by
      subst z
      have hb' : U b = some w := hb
      rw [hU] at hb'
      cases hb'
    show (L2.upd U p o) b = some w
    rw [upd_ne hbp]
    exact hb
  · rcases u2 with h | ⟨z, u, h, _⟩
    · exact h
    · exact absurd h (ho z u)
theorem Acc.put (A : Acc K U p o F M H) : Acc K U p o' F M (L2.upd H p o') := by
  refine ⟨⟨fun b w hb => ?_, fun b w hb => ?_, fun b m hm => ?_, A.st.nd⟩, upd_same, A.nF, A.nM, A.nU⟩
  · rw [upd_ne (ne_of_none hb A.nF)]
    exact A.st.sub b w hb
  · have hbp : b ≠ p := fun z => by
      subst z
      have hb' : U b = some w := hb
      rw [A.nU] at hb'
      cases hb'
    rw [upd_ne hbp]
    exact A.st.out b w hb
  · have hbp : b ≠ p := fun z => by
      subst z
      exact A.nM m hm
    rw [upd_ne hbp]
    exact A.st.mem b m hm
/-- it is done: frozen -/
theorem Acc.froz (A : Acc K U p o F M H) (ho : isDct o = true ∨ True) : Same F (L2.upd F p o) ∧ Sta ⟨K, U⟩ (L2.upd F p o) M H := by
  have s : Same F (L2.upd F p o) := fun b w hb => by rw [upd_ne (ne_of_none hb A.nF)]; exact hb
  refine ⟨s, ⟨fun b w hb => ?_, fun b w hb => ?_, fun b m hm => ?_, A.st.nd⟩⟩
  · by_cases hbp : b = p
    · subst hbp
      rw [upd_same] at hb
      cases hb
      exact .inl A.at_
    · rw [upd_ne hbp] at hb
      exact A.st.sub b w hb
  · have hbp : b ≠ p := fun z => by
      subst z
      have hb' : U b = some w := hb
      rw [A.nU] at hb'
      cases hb'
    obtain ⟨o1, o2, o3⟩ := A.st.out b w hb
    exact ⟨o1, o2.ext (upd_ne hbp), o3⟩
  · have hbp : b ≠ p := fun z => by
      subst z
      exact A.nM m hm
    rw [upd_ne hbp]
    obtain ⟨h1, w, h2, h3⟩ := A.st.mem b m hm
    exact ⟨h1, w, h2, h3.mono s⟩
/-- it is done: it may change -/
theorem Acc.free (A : Acc K U p o F M H) {m : MO} (r : RepM K F p o m) : Sta ⟨K, U⟩ F ((p, m) :: M) H := by
  refine ⟨A.st.sub, fun b w hb => ?_, fun b n hm => ?_, ?_⟩
  · obtain ⟨u1, u2, u3⟩ := A.st.out b w hb
    refine ⟨u1, u2, fun n hn => ?_⟩
    rcases List.mem_cons.mp hn with z | z
    · have e : b = p := congrArg Prod.fst z
      subst e
      have hb' : U b = some w := hb
      rw [A.nU] at hb'
      cases hb'
    · exact u3 n z
  · rcases List.mem_cons.mp hm with z | z
    · cases z
      exact ⟨A.nF, _, A.at_, r⟩
    · exact A.st.mem b n z
  · refine List.nodup_cons.mpr ⟨fun z => ?_, A.st.nd⟩
    obtain ⟨q, hq, e⟩ := List.mem_map.mp z
    obtain ⟨b, n⟩ := q
    cases e
    exact A.nM n hq
end
/-- a target of a comprehension -/
theorem ct_go {K : PySem.W.Frag} {U F : Hp} {M : Mem} {H : Hp} {ct : CT} {d : D} {x : V} {σ : L2.St} {ρ : Rho} {vs ws : List Nat} {k : Rho → Prop} {R : L2.St → Hp → Prop} (hv : ∀ i ∈ ct.slots, i ∈ vs) (S : Sta ⟨K, U⟩ F M H) (r : Rep K F x d) (En : Enr K F (wipe σ ws) (wipeD ρ ws))
    (hw : ∀ τ, wipe τ vs = wipe (wipe σ ws) vs → ∀ ρ2, Enr K F τ ρ2 → k ρ2 → R τ H) (q : ct.go d (wipeD ρ ws) k) : ct.tg K x (wipe σ ws) H R := by
  cases ct with
  | nm j =>
    refine hw _ ?_ _ (En.set j r) q
    exact wipe_of (hv j List.mem_cons_self) rfl
  | tp is =>
    obtain ⟨ds, ed, hl, q4⟩ := q
    rw [ed] at r
    cases r with
    | tup hs rr =>
      exact ⟨_, _, rfl, S.sub.sqT hs, by rw [rr.length]; exact hl, gNs_set (by rw [rr.length]; exact hl) (hw _ (wipe_setAll (fun j hj => hv j hj) rfl) _ (enr_setAll rr En) q4)⟩
/-! ### dict comprehensions -/
def goD (ct : CT) (dt : DT) (dk dv : DE) (st : Mem → Prop) (ρ : Rho) (Q : List (Key × D) → Mem → Prop) : List D → List (Key × D) → Mem → Prop
  | [], acc, M => st M ∧ Q acc M
  | d :: ds, acc, M => st M ∧ ct.go d ρ (fun ρ' => dt ρ' M (fun b M2 => if b = true then dk ρ' M2 (fun y M3 => ∃ k, y = keyD k ∧ dv ρ' M3 (fun e M4 => goD ct dt dk dv st ρ Q ds (putD acc k e) M4) noE) noE else goD ct dt dk dv st ρ Q ds acc M2) noE)
def dDc (di : DI) (ct : CT) (dt : DT) (dk dv : DE) (vs : List Nat) : DE := fun ρ M Q E => di ρ M (fun ds st M1 => ds.length < sizeLine ∧ goD ct dt dk dv st (wipeD ρ vs) (fun acc M2 => NewM (.dic acc) (.dic acc) M2 Q) ds [] M1) E
theorem putD_len {κ : Type} [DecidableEq κ] (xs : List (κ × D)) (k : κ) (d : D) : (putD xs k d).length ≤ xs.length + 1 := by
  unfold putD
  by_cases h : (xs.any fun kv => decide (kv.1 = k)) = true
  · rw [if_pos h, List.length_map]; omega
  · rw [if_neg h, List.length_append]; simp
theorem lift_dc {di : DI} {ct : CT} {vs : List Nat} {K : PySem.W.Frag} {U : Hp} {tt : TT} {tk tv : TE} (hv : ∀ i ∈ ct.slots, i ∈ vs) (ht : ∀ U σ H k, liftT ⟨K, U⟩ W0 dt σ H k → tt σ H k) (hk : ∀ U σ H k, liftE ⟨K, U⟩ W0 dk σ H k → tk σ H k) (he : ∀ U σ H k, liftE ⟨K, U⟩ W0 dv σ H k → tv σ H k) {σ : L2.St} {H : Hp} {k : VK}
    (h : liftE ⟨K, U⟩ W (dDc di ct dt dk dv vs) σ H k) : tDc (liftI ⟨K, U⟩ W di) (ct.tg K) tt tk tv vs σ H k := by
  obtain ⟨ρ, M, F, Q, E, S, En, q, kQ, kE⟩ := h
  refine ⟨ρ, M, F, _, _, S, En, q, fun its st M1 U1 V F1 J H1 ⟨hz, q1⟩ su sv s1 S1 Y => fun p hp => ?_, kE⟩
  let Qn : List (Key × D) → Mem → Prop := fun acc M2 => NewM (.dic acc) (.dic acc) M2 Q
  let P : Nat → Hp → Prop := fun i H => i ≤ its.length ∧ ∃ acc xs M F', acc.length ≤ i ∧ Same F1 F' ∧ Acc K U1 p (.dK xs) F' M H ∧ xs.map (·.1) = acc.map (·.1) ∧ Reps K F' (xs.map (·.2)) (acc.map (·.2)) ∧ goD ct dt dk dv st (wipeD ρ vs) Qn (its.drop i) acc M
  refine ⟨fun i m H => m = its.length - i ∧ P i H, ⟨_, rfl, Nat.zero_le _, [], [], M1, F1, Nat.le_refl _, Same.r F1, acc_new S1 hp, rfl, .nil, q1⟩, ?_⟩
  rintro i m H2 ⟨rfl, hi, acc, xs, M2, F2, ha, s2, A2, lk, ra, q2⟩
  have pl : Plain (.dK xs) := fun _ _ z => nomatch z
  by_cases hlt : i < its.length
  · rw [List.drop_eq_getElem_cons hlt] at q2
    obtain ⟨hst, q3⟩ := q2
    have sup : Same U1 (upd U1 p (.dK xs)) := fun b o hb => by rw [upd_ne (ne_of_none hb A2.nU)]; exact hb
    obtain ⟨g1, g2⟩ := Y.go i its[i] _ F2 M2 H2 (sv.t sup) s2 A2.into hst (by simp [hlt])
    refine .inr ⟨g1, P (i + 1), fun H' pr => ⟨_, by omega, rfl, pr⟩, fun x H' y => ?_⟩
    obtain ⟨F3, s3, S3, r3⟩ := g2 x H' y
    have s13 := s2.t s3
    refine ct_go hv S3 r3 (enr_wipe (En.mono (s1.t s13)) vs) (fun σ2 hw ρ2 En2 q4 => ⟨by rw [hw, wipe_wipe], ?_⟩) q3
    refine ht (upd U1 p (.dK xs)) _ _ _ ⟨ρ2, M2, F3, _, _, S3, En2, q4, fun b M4 F4 H4 q5 s4 S4 => ?_, fun _ _ _ _ _ z => z.elim⟩
    cases b with
    | false =>
      rw [if_neg Bool.false_ne_true] at q5 ⊢
      exact ⟨hlt, acc, xs, M4, F4, by omega, s13.t s4, acc_back A2.nU pl S4, lk, (ra.mono s3).mono s4, q5⟩
    | true =>
      rw [if_pos rfl] at q5 ⊢
      refine hk (upd U1 p (.dK xs)) _ _ _ ⟨ρ2, M4, F4, _, _, S4, En2.mono s4, q5, fun kd M5 F5 kv H5 ⟨kk, ek, q6⟩ s5 S5 r5 => ?_, fun _ _ _ _ _ z => z.elim⟩
      subst ek
      refine he (upd U1 p (.dK xs)) _ _ _ ⟨ρ2, M5, F5, _, _, S5, (En2.mono s4).mono s5, q6, fun d M6 F6 v H6 q7 s6 S6 r6 => ?_, fun _ _ _ _ _ z => z.elim⟩
      have A6 := acc_back A2.nU pl S6
      have ra6 := ((ra.mono s3).mono s4).mono (s5.t s6)
      obtain ⟨p1, p2⟩ := put_rep kk lk ra6 r6
      refine ⟨xs, kk, key_rep r5, A6.at_, by rw [kvs_len lk]; omega, hlt, putD acc kk d, putK xs kk v, M6, F6, ?_, (s13.t s4).t (s5.t s6), A6.put, p1, p2, q7⟩
      have := putD_len acc kk d
      omega
  · have e : its.drop i = [] := List.drop_eq_nil_of_le (by omega)
    rw [e] at q2
    refine .inl ⟨Y.stop i U1 F2 M2 H2 sv s2 A2.st q2.1 (by omega), ?_⟩
    rcases q2.2 with q4 | q4
    · obtain ⟨s, S'⟩ := A2.froz (.inr trivial)
      exact kQ _ M2 _ _ H2 q4 ((s1.t s2).t s) (Sta.less S' su) (.dic upd_same lk (ra.mono s))
    · exact kQ _ _ F2 _ H2 (q4 p A2.nM) (s1.t s2) (Sta.less (A2.free (m := .dic acc) ⟨xs, rfl, lk, ra⟩) su) (.ptr p)
theorem de_dc {kx vx tg iter : Expr} {ifs : List Expr} {scope : Scope} {own : List (Str × Nat)} {di : DI} {ct : CT} (hc : X.calm = true) (hK : g.K = X.K) (hN : X.N.Nodup) (hi : PI X tg iter (liftI g W di)) (ok : BlkOk X.N X.env.scope scope own)
    (hv : ∀ i ∈ ct.slots, i ∈ own.map (·.2))
    (hg : ∀ (s : Shared) (H : Hp) (C : Addr) (cl : List (Str × Addr)) (fp : List Addr), PG (X.blk s H scope (PySem.compEnvC scope cl C X.env) fp) tg (ct.tg X.K))
    (ht : ∀ (U : Hp) (s : Shared) (H : Hp) (C : Addr) (cl : List (Str × Addr)) (fp : List Addr), PTs (X.blk s H scope (PySem.compEnvC scope cl C X.env) fp) ifs (liftT ⟨X.K, U⟩ W0 dt))
    (hk : ∀ (U : Hp) (s : Shared) (H : Hp) (C : Addr) (cl : List (Str × Addr)) (fp : List Addr), PE (X.blk s H scope (PySem.compEnvC scope cl C X.env) fp) kx (liftE ⟨X.K, U⟩ W0 dk))
    (he : ∀ (U : Hp) (s : Shared) (H : Hp) (C : Addr) (cl : List (Str × Addr)) (fp : List Addr), PE (X.blk s H scope (PySem.compEnvC scope cl C X.env) fp) vx (liftE ⟨X.K, U⟩ W0 dv)) (hs : ∀ x, foldedSetIterable iter X.env x = pure x := by intro _; rfl) :
    PE X (.DictComp kx vx [⟨tg, iter, ifs, 0⟩] scope pos) (liftE g W (dDc di ct dt dk dv (own.map (·.2)))) := by
  obtain ⟨K0, U⟩ := g
  simp only at hK
  subst hK
  exact PE.imp (pe_dc (tt := fun σ H k => ∃ U, liftT ⟨X.K, U⟩ W0 dt σ H k) (tk := fun σ H k => ∃ U, liftE ⟨X.K, U⟩ W0 dk σ H k) (tv := fun σ H k => ∃ U, liftE ⟨X.K, U⟩ W0 dv σ H k) hc hN hi ok hg (fun s H C cl fp => ⟨fun pins s1 σ H1 Q I ⟨U, q⟩ => (ht U s H C cl fp).run pins s1 σ H1 Q I q⟩)
    (fun s H C cl fp => ⟨fun pins s1 σ H1 Q I ⟨U, q⟩ => (hk U s H C cl fp).run pins s1 σ H1 Q I q⟩) (fun s H C cl fp => ⟨fun pins s1 σ H1 Q I ⟨U, q⟩ => (he U s H C cl fp).run pins s1 σ H1 Q I q⟩) hs) fun σ H k h => lift_dc hv (fun U σ H k q => ⟨U, q⟩) (fun U σ H k q => ⟨U, q⟩) (fun U σ H k q => ⟨U, q⟩) h
/-! ### list comprehensions with two for -/
def goC2i (ct1 : CT) (dt1 : DT) (de : DE) (st1 : Mem → Prop) (ρ1 : Rho) (Q : List D → Mem → Prop) : List D → List D → Mem → Prop
  | [], acc, M => st1 M ∧ Q acc M
  | d :: ds, acc, M => st1 M ∧ acc.length < sizeLine ∧ ct1.go d ρ1 (fun ρ' => dt1 ρ' M (fun b M2 => if b = true then de ρ' M2 (fun e M3 => goC2i ct1 dt1 de st1 ρ1 Q ds (acc ++ [e]) M3) noE else goC2i ct1 dt1 de st1 ρ1 Q ds acc M2) noE)
def goC2 (ct : CT) (dt : DT) (di1 : DI) (ct1 : CT) (dt1 : DT) (de : DE) (vs1 : List Nat) (st : Mem → Prop) (ρ : Rho) (Q : List D → Mem → Prop) : List D → List D → Mem → Prop
  | [], acc, M => st M ∧ Q acc M
  | d :: ds, acc, M => st M ∧ ct.go d ρ (fun ρ' => dt ρ' M (fun b M2 => if b = true then di1 ρ' M2 (fun its1 st1 M3 => goC2i ct1 dt1 de st1 (wipeD ρ' vs1) (fun acc' M4 => goC2 ct dt di1 ct1 dt1 de vs1 st ρ Q ds acc' M4) its1 acc M3) noE else goC2 ct dt di1 ct1 dt1 de vs1 st ρ Q ds acc M2) noE)
def dLc2 (di : DI) (ct : CT) (dt : DT) (di1 : DI) (ct1 : CT) (dt1 : DT) (de : DE) (vs vs1 : List Nat) : DE := fun ρ M Q E => di ρ M (fun ds st M1 => goC2 ct dt di1 ct1 dt1 de vs1 st (wipeD ρ vs) (fun acc M2 => NewL acc M2 Q) ds [] M1) E
/-- what others hold, but p -/
def butU (U : Hp) (p : Addr) : Hp := fun b => if b = p then none else U b
theorem acc_but {K : PySem.W.Frag} {U1 U' V F : Hp} {M : Mem} {H : Hp} {p : Addr} {o : HO} (ho : Plain o) (hU : U1 p = none) (su : Same (upd U1 p o) U') (sv : Same V U') (pv : ∀ b w, V b = some w → ∃ z u, w = HO.frz z u) (S : Sta ⟨K, U'⟩ F M H) :
    Acc K (butU U' p) p o F M H ∧ Same U1 (butU U' p) ∧ Same V (butU U' p) := by
  have hp : U' p = some o := su _ _ upd_same
  have hb : butU U' p p = none := if_pos rfl
  have up : Same (upd (butU U' p) p o) U' := fun b w e => by
    by_cases q : b = p
    · subst q
      rw [upd_same] at e
      cases e
      exact hp
    · rw [upd_ne q] at e
      have e' : (if b = p then none else U' b) = some w := e
      rwa [if_neg q] at e'
  refine ⟨acc_back hb ho (S.less up), fun b w e => ?_, fun b w e => ?_⟩
  · have q : b ≠ p := ne_of_none e hU
    show (if b = p then none else U' b) = some w
    rw [if_neg q]
    exact su _ _ (by rw [upd_ne q]; exact e)
  · have q : b ≠ p := fun z => by
      subst z
      obtain ⟨z, u, ez⟩ := pv _ _ e
      have e2 := sv _ _ e
      rw [hp] at e2
      cases e2
      exact ho z u ez
    show (if b = p then none else U' b) = some w
    rw [if_neg q]
    exact sv _ _ e
theorem lift_lc2 {di di1 : DI} {ct ct1 : CT} {dt1 : DT} {vs vs1 : List Nat} {K : PySem.W.Frag} {U : Hp} {tt tt1 : TT} {ti1 : TI} {te : TE} (hv : ∀ i ∈ ct.slots, i ∈ vs) (hv1 : ∀ i ∈ ct1.slots, i ∈ vs1) (ht : ∀ U σ H k, liftT ⟨K, U⟩ W0 dt σ H k → tt σ H k) (hi1 : ∀ U σ H k, liftI ⟨K, U⟩ W0 di1 σ H k → ti1 σ H k)
    (ht1 : ∀ U σ H k, liftT ⟨K, U⟩ W0 dt1 σ H k → tt1 σ H k) (he : ∀ U σ H k, liftE ⟨K, U⟩ W0 de σ H k → te σ H k) {σ : L2.St} {H : Hp} {k : VK}
    (h : liftE ⟨K, U⟩ W (dLc2 di ct dt di1 ct1 dt1 de vs vs1) σ H k) : tLc2 (liftI ⟨K, U⟩ W di) (ct.tg K) tt ti1 (ct1.tg K) tt1 te vs vs1 σ H k := by
  obtain ⟨ρ, M, F, Q, E, S, En, q, kQ, kE⟩ := h
  refine ⟨ρ, M, F, _, _, S, En, q, fun its st M1 U1 V F1 J H1 q1 su sv s1 S1 Y => fun p hp => ?_, kE⟩
  let Qn : List D → Mem → Prop := fun acc M2 => NewL acc M2 Q
  let P : Nat → Hp → Prop := fun i H => i ≤ its.length ∧ ∃ acc xs M F', Same F1 F' ∧ Acc K U1 p (.lst xs) F' M H ∧ Reps K F' xs acc ∧ goC2 ct dt di1 ct1 dt1 de vs1 st (wipeD ρ vs) Qn (its.drop i) acc M
  refine ⟨fun i m H => m = its.length - i ∧ P i H, ⟨_, rfl, Nat.zero_le _, [], [], M1, F1, Same.r F1, acc_new S1 hp, .nil, q1⟩, ?_⟩
  rintro i m H2 ⟨rfl, hi, acc, xs, M2, F2, s2, A2, ra, q2⟩
  have pl : ∀ xs, Plain (.lst xs) := fun _ _ _ z => nomatch z
  by_cases hlt : i < its.length
  · rw [List.drop_eq_getElem_cons hlt] at q2
    obtain ⟨hst, q3⟩ := q2
    have sup : Same U1 (upd U1 p (.lst xs)) := fun b o hb => by rw [upd_ne (ne_of_none hb A2.nU)]; exact hb
    obtain ⟨g1, g2⟩ := Y.go i its[i] _ F2 M2 H2 (sv.t sup) s2 A2.into hst (by simp [hlt])
    refine .inr ⟨g1, P (i + 1), fun H' pr => ⟨_, by omega, rfl, pr⟩, fun x H' y => ?_⟩
    obtain ⟨F3, s3, S3, r3⟩ := g2 x H' y
    have s13 := s2.t s3
    refine ct_go hv S3 r3 (enr_wipe (En.mono (s1.t s13)) vs) (fun σ2 hw ρ2 En2 q4 => ⟨by rw [hw, wipe_wipe], ?_⟩) q3
    refine ht (upd U1 p (.lst xs)) _ _ _ ⟨ρ2, M2, F3, _, _, S3, En2, q4, fun b M4 F4 H4 q5 s4 S4 => ?_, fun _ _ _ _ _ z => z.elim⟩
    cases b with
    | false =>
      rw [if_neg Bool.false_ne_true] at q5 ⊢
      exact ⟨hlt, acc, xs, M4, F4, s13.t s4, acc_back A2.nU (pl _) S4, (ra.mono s3).mono s4, q5⟩
    | true =>
      rw [if_pos rfl] at q5 ⊢
      refine hi1 (upd U1 p (.lst xs)) _ _ _ ⟨ρ2, M4, F4, _, _, S4, En2.mono s4, q5, fun its1 st1 M5 U5 V5 F5 J5 H5 q6 su5 sv5 s5 S5 Y5 => ?_, fun _ _ _ _ _ z => z.elim⟩
      obtain ⟨A5, sU, sV⟩ := acc_but (pl xs) A2.nU su5 sv5 Y5.pl S5
      have s15 := (s13.t s4).t s5
      let P1 : Nat → Hp → Prop := fun j H => j ≤ its1.length ∧ ∃ acc xs M F', Same F5 F' ∧ Acc K (butU U5 p) p (.lst xs) F' M H ∧ Reps K F' xs acc ∧
        goC2i ct1 dt1 de st1 (wipeD ρ2 vs1) (fun acc' M4 => goC2 ct dt di1 ct1 dt1 de vs1 st (wipeD ρ vs) Qn (its.drop (i + 1)) acc' M4) (its1.drop j) acc M
      refine ⟨fun j m H => m = its1.length - j ∧ P1 j H, ⟨_, rfl, Nat.zero_le _, acc, xs, M5, F5, Same.r F5, A5, ((ra.mono s3).mono s4).mono s5, q6⟩, ?_⟩
      rintro j m H6 ⟨rfl, hj, acc6, xs6, M6, F6, s6, A6, ra6, q7⟩
      by_cases hlt1 : j < its1.length
      · rw [List.drop_eq_getElem_cons hlt1] at q7
        obtain ⟨hst1, hz, q8⟩ := q7
        have sup6 : Same (butU U5 p) (upd (butU U5 p) p (.lst xs6)) := fun b o hb => by rw [upd_ne (ne_of_none hb A6.nU)]; exact hb
        obtain ⟨g3, g4⟩ := Y5.go j its1[j] _ F6 M6 H6 (sV.t sup6) s6 A6.into hst1 (by simp [hlt1])
        refine .inr ⟨g3, P1 (j + 1), fun H' pr => ⟨_, by omega, rfl, pr⟩, fun x1 H7 y1 => ?_⟩
        obtain ⟨F7, s7, S7, r7⟩ := g4 x1 H7 y1
        have s47 := s5.t (s6.t s7)
        refine ct_go hv1 S7 r7 (enr_wipe (En2.mono (s4.t s47)) vs1) (fun σ3 hw3 ρ3 En3 q9 => ⟨by rw [hw3, wipe_wipe], ?_⟩) q8
        refine ht1 (upd (butU U5 p) p (.lst xs6)) _ _ _ ⟨ρ3, M6, F7, _, _, S7, En3, q9, fun b M8 F8 H8 q10 s8 S8 => ?_, fun _ _ _ _ _ z => z.elim⟩
        cases b with
        | false =>
          rw [if_neg Bool.false_ne_true] at q10 ⊢
          exact ⟨hlt1, acc6, xs6, M8, F8, (s6.t s7).t s8, acc_back A6.nU (pl _) S8, (ra6.mono s7).mono s8, q10⟩
        | true =>
          rw [if_pos rfl] at q10 ⊢
          refine he (upd (butU U5 p) p (.lst xs6)) _ _ _ ⟨ρ3, M8, F8, _, _, S8, En3.mono s8, q10, fun d M9 F9 v H9 q11 s9 S9 r9 => ?_, fun _ _ _ _ _ z => z.elim⟩
          have A9 := acc_back A6.nU (pl _) S9
          exact ⟨xs6, A9.at_, by rw [ra6.length]; exact hz, hlt1, acc6 ++ [d], xs6 ++ [v], M9, F9, (s6.t s7).t (s8.t s9), A9.put, ((ra6.mono s7).mono (s8.t s9)).append (.cons r9 .nil), q11⟩
      · have e : its1.drop j = [] := List.drop_eq_nil_of_le (by omega)
        rw [e] at q7
        refine .inl ⟨Y5.stop j (butU U5 p) F6 M6 H6 sV s6 A6.st q7.1 (by omega), hlt, acc6, xs6, M6, F6, s15.t s6, ⟨A6.st.less sU, A6.at_, A6.nF, A6.nM, A2.nU⟩, ra6, q7.2⟩
  · have e : its.drop i = [] := List.drop_eq_nil_of_le (by omega)
    rw [e] at q2
    refine .inl ⟨Y.stop i U1 F2 M2 H2 sv s2 A2.st q2.1 (by omega), ?_⟩
    rcases q2.2 with q4 | q4
    · obtain ⟨s, S'⟩ := A2.froz (.inr trivial)
      exact kQ _ M2 _ _ H2 q4 ((s1.t s2).t s) (Sta.less S' su) (.lst upd_same (ra.mono s))
    · exact kQ _ _ F2 _ H2 (q4 p A2.nM) (s1.t s2) (Sta.less (A2.free (m := .lst acc) ⟨xs, rfl, ra⟩) su) (.ptr p)
theorem de_lc2 {elt tg iter tg1 iter1 : Expr} {ifs ifs1 : List Expr} {scope : Scope} {own : List (Str × Nat)} {di di1 : DI} {ct ct1 : CT} {dt1 : DT} {vs1 : List Nat} (hc : X.calm = true) (hK : g.K = X.K) (hN : X.N.Nodup) (hi : PI X tg iter (liftI g W di)) (ok : BlkOk X.N X.env.scope scope own)
    (hv : ∀ i ∈ ct.slots, i ∈ own.map (·.2)) (hv1 : ∀ i ∈ ct1.slots, i ∈ vs1) (hvs : ∀ i ∈ vs1, i ∈ own.map (·.2))
    (hg : ∀ (s : Shared) (H : Hp) (C : Addr) (cl : List (Str × Addr)) (fp : List Addr), PG (X.blk s H scope (PySem.compEnvC scope cl C X.env) fp) tg (ct.tg X.K))
    (ht : ∀ (U : Hp) (s : Shared) (H : Hp) (C : Addr) (cl : List (Str × Addr)) (fp : List Addr), PTs (X.blk s H scope (PySem.compEnvC scope cl C X.env) fp) ifs (liftT ⟨X.K, U⟩ W0 dt))
    (hi1 : ∀ (U : Hp) (s : Shared) (H : Hp) (C : Addr) (cl : List (Str × Addr)) (fp : List Addr), PI (X.blk s H scope (PySem.compEnvC scope cl C X.env) fp) tg1 iter1 (liftI ⟨X.K, U⟩ W0 di1))
    (hg1 : ∀ (s : Shared) (H : Hp) (C : Addr) (cl : List (Str × Addr)) (fp : List Addr), PG (X.blk s H scope (PySem.compEnvC scope cl C X.env) fp) tg1 (ct1.tg X.K))
    (ht1 : ∀ (U : Hp) (s : Shared) (H : Hp) (C : Addr) (cl : List (Str × Addr)) (fp : List Addr), PTs (X.blk s H scope (PySem.compEnvC scope cl C X.env) fp) ifs1 (liftT ⟨X.K, U⟩ W0 dt1))
    (he : ∀ (U : Hp) (s : Shared) (H : Hp) (C : Addr) (cl : List (Str × Addr)) (fp : List Addr), PE (X.blk s H scope (PySem.compEnvC scope cl C X.env) fp) elt (liftE ⟨X.K, U⟩ W0 de)) (hs : ∀ x, foldedSetIterable iter X.env x = pure x := by intro _; rfl) (hs1 : ∀ env x, foldedSetIterable iter1 env x = pure x := by intro _ _; rfl) :
    PE X (.ListComp elt [⟨tg, iter, ifs, 0⟩, ⟨tg1, iter1, ifs1, 0⟩] scope pos) (liftE g W (dLc2 di ct dt di1 ct1 dt1 de (own.map (·.2)) vs1)) := by
  obtain ⟨K0, U⟩ := g
  simp only at hK
  subst hK
  exact PE.imp (pe_lc2 (tt := fun σ H k => ∃ U, liftT ⟨X.K, U⟩ W0 dt σ H k) (wi1 := fun σ H k => ∃ U, liftI ⟨X.K, U⟩ W0 di1 σ H k) (tt1 := fun σ H k => ∃ U, liftT ⟨X.K, U⟩ W0 dt1 σ H k) (te := fun σ H k => ∃ U, liftE ⟨X.K, U⟩ W0 de σ H k) hc hN hi ok hvs hg (fun s H C cl fp => ⟨fun pins s1 σ H1 Q I ⟨U, q⟩ => (ht U s H C cl fp).run pins s1 σ H1 Q I q⟩)
    (fun s H C cl fp => ⟨fun pins s1 σ H1 Q I ⟨U, q⟩ => (hi1 U s H C cl fp).run pins s1 σ H1 Q I q⟩) hg1 (fun s H C cl fp => ⟨fun pins s1 σ H1 Q I ⟨U, q⟩ => (ht1 U s H C cl fp).run pins s1 σ H1 Q I q⟩)
    (fun s H C cl fp => ⟨fun pins s1 σ H1 Q I ⟨U, q⟩ => (he U s H C cl fp).run pins s1 σ H1 Q I q⟩) hs hs1) fun σ H k h => lift_lc2 hv hv1 (fun U σ H k q => ⟨U, q⟩) (fun U σ H k q => ⟨U, q⟩) (fun U σ H k q => ⟨U, q⟩) (fun U σ H k q => ⟨U, q⟩) h
end
end DL
namespace DL
variable [Wd]
open PySem L2 PySem.Spec PyProof.Rows
/-! ### dict comprehensions whose keys are tuples -/
/-- the pair is put into the dict at p, and then N -/
def PutN (K : PySem.W.Frag) (p : Addr) (y z : V) (H : Hp) (N : Hp → Prop) : Prop := ∃ U F M kd k d xs es b, y = .ref b ∧ Sta ⟨K, U⟩ F M H ∧ toNK 8 kd = some k ∧ Rep K F y kd ∧ Rep K F z d ∧ H p = some (hoN p xs) ∧ EntI K F xs es ∧ xs.length < sizeLine ∧
  ∀ u, RelV z u → N (upd H p (hoN p (storedH xs k b u)))
theorem putN_run {X : Cx} (hw : X.w = Wd.w) (hu : X.A.units + 64 < cLine) {pins : List (Addr × Obj)} {σ : L2.St} {H : Hp} {s : Shared} {p : Addr} {y z : V} {u r : Value} {N : Hp → Prop} {Q : Unit → Shared → Prop} {E : Value → Shared → Prop} (I : Inv X pins σ H s) (ry : RelV y u) (rz : RelV z r) (h : PutN X.K p y z H N)
    (k : ∀ H' s', Inv X pins σ H' s' → N H' → Q () s') : wpAny (model X.prog X.w) X.A (dictSet p u r) Q E s := by
  obtain ⟨U, F, M, kd, kk, d, xs, es, b, rfl, S, hk, r1, r2, hp, en, hl, hN⟩ := h
  obtain ⟨dd, hz, hy⟩ := nk_dict (g := ⟨X.K, U⟩) hw I S (.inl hp) en
  obtain rfl : u = Value.ref b := ry
  obtain ⟨b1, b2⟩ := rep_nk (g := ⟨X.K, U⟩) I S 8 _ _ _ _ hk r1 rfl
  refine wpAny_dictSet_heap (knd := nestedKind X.prog X.w) (hsz := hz) (show X.A.units + 8 < cLine by omega) ⟨b1, b2⟩ dd fun h' dd' hs => k _ _ (d_write I (by rw [hp]; exact True.intro) hs (let ⟨q, _, _, hq, _⟩ := dd'; ⟨q, hq⟩) (nk_new hw dd' (Nat.le_trans storedH_len hl) hy)) (hN r rz)
section
variable {X : Cx}
def tDn (K : PySem.W.Frag) (wi : TI) (g : TG) (tt : TT) (tk tv : TE) (vs : List Nat) : TE := fun σ H Q => wi σ H fun J H1 => ∀ p, H1 p = none → ∃ W : Nat → Nat → Hp → Prop, (∃ m, W 0 m (upd H1 p (hoN p []))) ∧ ∀ i m H, W i m H →
  (J.stop i H ∧ Q (.ref p) H) ∨ (J.go i H ∧ ∃ N : Hp → Prop, (∀ H', N H' → ∃ m', m' < m ∧ W (i + 1) m' H') ∧ ∀ x H', J.yld i H x H' → g x (wipe σ vs) H' fun σ2 H2 => wipe σ2 vs = wipe σ vs ∧ tt σ2 H2 fun b H3 =>
    if b = true then tk σ2 H3 fun y H4 => tv σ2 H4 fun z H5 => PutN K p y z H5 N else N H3)
theorem pe_dn {kx vx tg iter : Expr} {ifs : List Expr} {scope : Scope} {ow : List (Str × Nat)} {pos : Pos} {wi : TI} {g : TG} {tt : TT} {tk tv : TE} (hw : X.w = Wd.w) (hu : X.A.units + 64 < cLine) (hc : X.calm = true) (hN : X.N.Nodup) (hi : PI X tg iter wi) (ok : BlkOk X.N X.env.scope scope ow)
    (hg : ∀ (s : Shared) (H : Hp) (C : Addr) (cl : List (Str × Addr)) (fp : List Addr), PG (X.blk s H scope (compEnvC scope cl C X.env) fp) tg g) (ht : ∀ (s : Shared) (H : Hp) (C : Addr) (cl : List (Str × Addr)) (fp : List Addr), PTs (X.blk s H scope (compEnvC scope cl C X.env) fp) ifs tt)
    (hk : ∀ (s : Shared) (H : Hp) (C : Addr) (cl : List (Str × Addr)) (fp : List Addr), PE (X.blk s H scope (compEnvC scope cl C X.env) fp) kx tk)
    (he : ∀ (s : Shared) (H : Hp) (C : Addr) (cl : List (Str × Addr)) (fp : List Addr), PE (X.blk s H scope (compEnvC scope cl C X.env) fp) vx tv) (hs : ∀ x, foldedSetIterable iter X.env x = pure x := by intro _; rfl) :
    PE X (.DictComp kx vx [⟨tg, iter, ifs, 0⟩] scope pos) (tDn X.K wi g tt tk tv (ow.map (·.2))) := by
  refine ⟨fun pins s σ H Q I h => ?_⟩
  rw [arm_eval_DictComp]
  have free : ∀ y ∈ scope.names, y.2 = .free → ∃ c, X.env.cells.lookup y.1 = some c := fun y hy e =>
    (ok.free y hy e).elim (fun q => I.ok.has _ (.inl q)) fun q => I.ok.has _ (.inr q)
  refine wpAny_comprehension_free (use := none) rfl hs (closure_ok free) ok.kind (fun y hy e => by rw [ok.uniq y hy, e]) (thn (hi.run pins s σ H _ I h) fun xv s1 hx => thn hx fun itv s2 h2 => ?_)
  obtain ⟨it, fp, tn, J, H2, rfl, I2, T, st2, f2, q⟩ := h2
  refine wpAny_newObj_type (newEnv_comp ?_)
  have np : H2 s2.heap.objs.size = none := I2.hok.fresh (Nat.le_refl _)
  obtain ⟨W, ⟨m0, w0⟩, turn⟩ := q _ np
  -- the dict is laid
  have I3 : Inv X pins σ (upd H2 s2.heap.objs.size (hoN s2.heap.objs.size [])) { s2 with heap := s2.heap.push { cls := .type "dict", data := .dict #[] } } :=
    I2.laid (t' := s2.toks) (fun b o e => Heap.get?_push_of_some _ e) (Nat.le_refl _) (nk_empty s2.heap I2.big)
  have size3 : (s2.heap.push { cls := .type "dict", data := .dict #[] }).objs.size = s2.heap.objs.size + 1 := Heap.size_push _ _
  have stand : ∀ b ∈ fp, b < s2.heap.objs.size := fun b hb => let ⟨_, e, _⟩ := T.obj _ _ st2 b hb; Heap.lt_size e
  have f3 : ∀ b ∈ fp, FpOk X pins (upd H2 s2.heap.objs.size (hoN s2.heap.objs.size [])) b ∧ b < (s2.heap.push { cls := .type "dict", data := .dict #[] }).objs.size := fun b hb =>
    ⟨⟨by rw [upd_ne (Nat.ne_of_lt (stand b hb))]; exact (f2 b hb).1, (f2 b hb).2⟩, by rw [size3]; exact Nat.lt_succ_of_lt (stand b hb)⟩
  have st3 : tn 0 (s2.heap.push { cls := .type "dict", data := .dict #[] }) := T.keep _ _ _ st2 fun b _ o e => Heap.get?_push_of_some _ e
  generalize hp : s2.heap.objs.size = p at np turn w0 I3 f3
  generalize hs3 : ({ s2 with heap := s2.heap.push { cls := .type "dict", data := .dict #[] } } : Shared) = s3 at I3
  have h3 : s3.heap = s2.heap.push { cls := .type "dict", data := .dict #[] } := by rw [← hs3]
  rw [← h3] at f3 st3
  have I4 := block_start I3 ok hN f3
  have pg := hg s3 (upd H2 p (hoN p [])) s3.heap.objs.size (cellsFrom (s3.heap.objs.size + 1) scope.names (cloFrom X.env.cells scope.names [])) fp
  have pt := ht s3 (upd H2 p (hoN p [])) s3.heap.objs.size (cellsFrom (s3.heap.objs.size + 1) scope.names (cloFrom X.env.cells scope.names [])) fp
  have pk := hk s3 (upd H2 p (hoN p [])) s3.heap.objs.size (cellsFrom (s3.heap.objs.size + 1) scope.names (cloFrom X.env.cells scope.names [])) fp
  have pe := he s3 (upd H2 p (hoN p [])) s3.heap.objs.size (cellsFrom (s3.heap.objs.size + 1) scope.names (cloFrom X.env.cells scope.names [])) fp
  show codeAny _ _ (.compStart (.DictComp kx vx [⟨tg, iter, ifs, 0⟩] scope pos) 0 (.ref it) (.ref p) (compEnvC scope (cellsFrom (s3.heap.objs.size + 1) scope.names (cloFrom X.env.cells scope.names [])) s3.heap.objs.size X.env)) (compPost (model X.prog X.w) X.A X.xe none _ (.ref p) s3.heap.objs.size) { s3 with heap := pushCells (s3.heap.push { cls := .type "dict", data := .dict #[] }) scope.names }
  have nfp : ∀ b ∈ fp, (upd H2 p (hoN p [])) b = none := fun b hb => (f3 b hb).1.1
  generalize hce : compEnvC scope (cellsFrom (s3.heap.objs.size + 1) scope.names (cloFrom X.env.cells scope.names [])) s3.heap.objs.size X.env = ce at I4 pg pt pk pe ⊢
  have here : ce.locals = s3.heap.objs.size := by subst hce; rfl
  generalize hH3 : upd H2 p (hoN p []) = H3 at I3 I4 pg pt pk pe w0 nfp f3
  generalize hs4 : ({ s3 with heap := pushCells (s3.heap.push { cls := .type "dict", data := .dict #[] }) scope.names } : Shared) = s4 at I4 ⊢
  have st4 : tn 0 s4.heap := T.keep _ _ _ st3 fun b _ o e => by rw [← hs4]; exact pushCells_keeps _ _ _ _ (Heap.get?_push_of_some _ e)
  -- the iterator's own cells, whatever the turn
  have own : ∀ {σ' : L2.St} {H' : Hp} {s' : Shared}, Inv (X.blk s3 H3 scope ce fp) [] σ' H' s' → (∀ b ∈ fp, H' b = none) → ∀ b ∈ fp, FpOk (X.blk s3 H3 scope ce fp) [] H' b := fun {σ' H' s'} J' hn b hb =>
    ⟨hn b hb, (J'.ok.exf b hb).1, J'.ok.exfs b hb, .inl hb, fun x c e => (J'.ok.exf b hb).2 x c e, fun r hr => absurd (show r ∈ ([] : List (Addr × Obj)) ++ [] from hr) (by simp)⟩
  have loop : codeAny (model X.prog X.w) X.A (.compLoop (.DictComp kx vx [⟨tg, iter, ifs, 0⟩] scope pos) 0 (.ref it) (.ref p) ce) (compPost (model X.prog X.w) X.A X.xe none (EP X pins σ Q) (.ref p) s3.heap.objs.size) s4 := by
    refine compLoop_anyD (fun n s' => ∃ i H', Inv (X.blk s3 H3 scope ce fp) [] (wipe σ (ow.map (·.2))) H' s' ∧ tn i s'.heap ∧ (∀ b ∈ fp, H' b = none) ∧ W i n H') ?_ m0 ⟨0, H3, I4, st4, nfp, w0⟩
    rintro n s5 ⟨i, H5, I5, st5, n5, w5⟩
    rcases turn i n H5 w5 with ⟨stop, fin⟩ | ⟨go, N, toW, step⟩
    · refine thnF (T.done (X.blk s3 H3 scope ce fp) rfl rfl rfl hc i [] s5 _ H5 (fun _ _ => False) I5 (own I5 n5) st5 stop) fun r s6 ⟨er, I6⟩ => ?_
      subst er
      have I7 : Inv X pins σ H5 s6 := I3.call' (ch := fp) I6.os I6.base I6.hok I6.bare fun b hb => ⟨(f3 b hb).1.2.2.2.1, (f3 b hb).1.2.1, (f3 b hb).1.2.2.2.2.1, (f3 b hb).1.2.2.2.2.2⟩
      have nl : H5 s3.heap.objs.size = none := by
        have z : H5 ce.locals = none := I6.free
        rwa [here] at z
      obtain ⟨m, hn, _⟩ := I6.loc
      have hn' : s6.heap.Ns ce.locals m := hn
      rw [here] at hn'
      obtain ⟨g0, g1, g2, g3, g4, g5⟩ := I3.fpOk (Nat.le_refl _) nl
      exact ⟨m, hn', fun h'' sb => ⟨.ref p, H5, I7.turned (t' := s6.toks) (fun b o hb e => (sb.2 b hb).trans e) g0 g1 g3 g4 g5, rfl, fin⟩⟩
    · refine thnF (T.item (X.blk s3 H3 scope ce fp) rfl rfl rfl hc i [] s5 _ H5 (fun _ _ => False) I5 (own I5 n5) st5 go) fun r s6 ⟨u, er, h6⟩ => ?_
      subst er
      refine thnF h6 fun _ s7 ⟨x, H7, I7, r7, y7, st7, n7⟩ => ?_
      have I7' := I7.pinned (own I7 n7) (T.obj _ _ st7)
      refine thnF (pg.run _ s7 _ H7 x u _ I7' r7 (step x H7 y7)) fun _ s8 ⟨σ8, H8, I8, w8, q8⟩ => ?_
      refine thnF (pt.run _ s8 σ8 H8 _ I8 q8) fun b s9 ⟨H9, I9, q9⟩ => ?_
      have next : ∀ {s' : Shared} {H' : Hp}, Inv (X.blk s3 H3 scope ce fp) ([] ++ pinsAt fp s7.heap) σ8 H' s' → N H' → ∃ m, m < n ∧ ∃ i H', Inv (X.blk s3 H3 scope ce fp) [] (wipe σ (ow.map (·.2))) H' s' ∧ tn i s'.heap ∧ (∀ b ∈ fp, H' b = none) ∧ W i m H' := fun {s' H'} J' nx => by
        obtain ⟨m', hm, w'⟩ := toW H' nx
        have still : ∀ b ∈ fp, ∀ o, s7.heap.get? b = some o → s'.heap.get? b = some o ∧ H' b = none := fun b hb o e =>
          ⟨(J'.pin (b, o) (List.mem_append_right _ (List.mem_append_right _ (mem_pinsAt hb e)))).1, (J'.pin (b, o) (List.mem_append_right _ (List.mem_append_right _ (mem_pinsAt hb e)))).2.1⟩
        refine ⟨m', hm, i + 1, H', (J'.unpinned (pins := [])).weak (by rw [← w8, wipe_length]) (fun j v e => ?_), T.keep _ _ _ st7 fun b hb o e => (still b hb o e).1, fun b hb => ?_, w'⟩
        · rw [← w8] at e
          exact (wipe_some e).1
        · obtain ⟨o, e, _⟩ := T.obj _ _ st7 b hb
          exact (still b hb o e).2
      cases b with
      | false =>
        simp only [Bool.false_eq_true, if_false] at q9 ⊢
        exact next I9 q9
      | true =>
        simp only [if_true] at q9 ⊢
        refine thnF (pk.run _ s9 σ8 H9 _ I9 q9) fun z s10 ⟨yk, H10, I10, r10, q10⟩ => thnF (pe.run _ s10 σ8 H10 _ I10 q10) fun z2 s11 ⟨yv, H11, I11, r11, pu⟩ => ?_
        exact putN_run (X := X.blk s3 H3 scope ce fp) hw hu I11 r10 r11 pu fun H12 s12 I12 nx => next I12 nx
  exact codeAny_compStart_dict loop (T.self X.A 0 _ _ _ st4 loop)
end
section
variable {X : Cx} {g : G} {W : WX} {pos : Pos} {dt : DT} {dk dv : DE}
def goN (ct : CT) (dt : DT) (dk dv : DE) (st : Mem → Prop) (ρ : Rho) (Q : List (D × D) → Mem → Prop) : List D → List (D × D) → Mem → Prop
  | [], acc, M => st M ∧ Q acc M
  | d :: ds, acc, M => st M ∧ ct.go d ρ (fun ρ' => dt ρ' M (fun b M2 => if b = true then dk ρ' M2 (fun y M3 => ∃ ys k, y = .tup ys ∧ toNK 8 (.tup ys) = some k ∧ dv ρ' M3 (fun e M4 => goN ct dt dk dv st ρ Q ds (putT acc (.tup ys) k e) M4) noE) noE else goN ct dt dk dv st ρ Q ds acc M2) noE)
def dDn (di : DI) (ct : CT) (dt : DT) (dk dv : DE) (vs : List Nat) : DE := fun ρ M Q E => di ρ M (fun ds st M1 => ds.length < sizeLine ∧ goN ct dt dk dv st (wipeD ρ vs) (fun acc M2 => NewM (.dit acc) (.dit acc) M2 Q) ds [] M1) E
theorem putT_len (xs : List (D × D)) (kd : D) (k : NestedKey) (d : D) : (putT xs kd k d).length ≤ xs.length + 1 := by
  unfold putT
  split
  · rw [List.length_map]; omega
  · rw [List.length_append]; simp
theorem lift_dn {di : DI} {ct : CT} {vs : List Nat} {K : PySem.W.Frag} {U : Hp} {tt : TT} {tk tv : TE} (hv : ∀ i ∈ ct.slots, i ∈ vs) (ht : ∀ U σ H k, liftT ⟨K, U⟩ W0 dt σ H k → tt σ H k) (hk : ∀ U σ H k, liftE ⟨K, U⟩ W0 dk σ H k → tk σ H k) (he : ∀ U σ H k, liftE ⟨K, U⟩ W0 dv σ H k → tv σ H k) {σ : L2.St} {H : Hp} {k : VK}
    (h : liftE ⟨K, U⟩ W (dDn di ct dt dk dv vs) σ H k) : tDn K (liftI ⟨K, U⟩ W di) (ct.tg K) tt tk tv vs σ H k := by
  obtain ⟨ρ, M, F, Q, E, S, En, q, kQ, kE⟩ := h
  refine ⟨ρ, M, F, _, _, S, En, q, fun its st M1 U1 V F1 J H1 ⟨hz, q1⟩ su sv s1 S1 Y => fun p hp => ?_, kE⟩
  let P : Nat → Hp → Prop := fun i H => i ≤ its.length ∧ ∃ acc xs M F', acc.length ≤ i ∧ Same F1 F' ∧ Acc K U1 p (hoN p xs) F' M H ∧ EntI K F' xs acc ∧ goN ct dt dk dv st (wipeD ρ vs) (fun acc M2 => NewM (.dit acc) (.dit acc) M2 Q) (its.drop i) acc M
  refine ⟨fun i m H => m = its.length - i ∧ P i H, ⟨_, rfl, Nat.zero_le _, [], [], M1, F1, Nat.le_refl _, Same.r F1, acc_new S1 hp, .nil, q1⟩, ?_⟩
  rintro i m H2 ⟨rfl, hi, acc, xs, M2, F2, ha, s2, A2, en, q2⟩
  have pl : Plain (hoN p xs) := fun _ _ z => nomatch z
  have up : ∀ {F F' : Hp} {xs : List (NestedKey × Addr × Value)} {es : List (D × D)}, Same F F' → EntI K F xs es → EntI K F' xs es := fun s h => (h.of.mono s).to
  by_cases hlt : i < its.length
  · rw [List.drop_eq_getElem_cons hlt] at q2
    obtain ⟨hst, q3⟩ := q2
    have sup : Same U1 (upd U1 p (hoN p xs)) := fun b o hb => by rw [upd_ne (ne_of_none hb A2.nU)]; exact hb
    obtain ⟨g1, g2⟩ := Y.go i its[i] _ F2 M2 H2 (sv.t sup) s2 A2.into hst (by simp [hlt])
    refine .inr ⟨g1, P (i + 1), fun H' pr => ⟨_, by omega, rfl, pr⟩, fun x H' y => ?_⟩
    obtain ⟨F3, s3, S3, r3⟩ := g2 x H' y
    have s13 := s2.t s3
    refine ct_go hv S3 r3 (enr_wipe (En.mono (s1.t s13)) vs) (fun σ2 hw ρ2 En2 q4 => ⟨by rw [hw, wipe_wipe], ?_⟩) q3
    refine ht (upd U1 p (hoN p xs)) _ _ _ ⟨ρ2, M2, F3, _, _, S3, En2, q4, fun b M4 F4 H4 q5 s4 S4 => ?_, fun _ _ _ _ _ z => z.elim⟩
    cases b with
    | false =>
      rw [if_neg Bool.false_ne_true] at q5 ⊢
      exact ⟨hlt, acc, xs, M4, F4, by omega, s13.t s4, acc_back A2.nU pl S4, up (s3.t s4) en, q5⟩
    | true =>
      rw [if_pos rfl] at q5 ⊢
      refine hk (upd U1 p (hoN p xs)) _ _ _ ⟨ρ2, M4, F4, _, _, S4, En2.mono s4, q5, fun kd M5 F5 kv H5 ⟨ys, kk, ek, hkk, q6⟩ s5 S5 r5 => ?_, fun _ _ _ _ _ z => z.elim⟩
      subst ek
      refine he (upd U1 p (hoN p xs)) _ _ _ ⟨ρ2, M5, F5, _, _, S5, (En2.mono s4).mono s5, q6, fun d M6 F6 v H6 q7 s6 S6 r6 => ?_, fun _ _ _ _ _ z => z.elim⟩
      have A6 := acc_back A2.nU pl S6
      have en6 := up (s3.t (s4.t (s5.t s6))) en
      have r56 := r5.mono s6
      cases r5 with
      | tup hb rb =>
        rename_i b its'
        refine ⟨_, F6, M6, _, kk, d, xs, acc, b, rfl, S6, hkk, r56, r6, A6.at_, en6, by rw [en6.length]; omega, fun u ru => ⟨hlt, putT acc (.tup ys) kk d, storedH xs kk b u, M6, F6, ?_, (s13.t s4).t (s5.t s6), A6.put, en6.put hkk r56 ru r6, q7⟩⟩
        have := putT_len acc (.tup ys) kk d
        omega
  · have e : its.drop i = [] := List.drop_eq_nil_of_le (by omega)
    rw [e] at q2
    refine .inl ⟨Y.stop i U1 F2 M2 H2 sv s2 A2.st q2.1 (by omega), ?_⟩
    rcases q2.2 with q4 | q4
    · obtain ⟨s, S'⟩ := A2.froz (.inr trivial)
      obtain ⟨vs', l, ra, rv, rb⟩ := (up s en).of
      exact kQ _ M2 _ _ H2 q4 ((s1.t s2).t s) (Sta.less S' su) (.dit upd_same l ra rv rb)
    · exact kQ _ _ F2 _ H2 (q4 p A2.nM) (s1.t s2) (Sta.less (A2.free (m := .dit acc) ⟨xs, rfl, en.of⟩) su) (.ptr p)
def dDe (di : DI) (ct : CT) (dt : DT) (dk dv : DE) (vs : List Nat) : DE := fun ρ M Q E => dDc di ct dt dk dv vs ρ M Q E ∨ dDn di ct dt dk dv vs ρ M Q E
theorem de_de {kx vx tg iter : Expr} {ifs : List Expr} {scope : Scope} {own : List (Str × Nat)} {di : DI} {ct : CT} (hw : X.w = Wd.w) (hu : X.A.units + 64 < cLine) (hc : X.calm = true) (hK : g.K = X.K) (hN : X.N.Nodup) (hi : PI X tg iter (liftI g W di)) (ok : BlkOk X.N X.env.scope scope own)
    (hv : ∀ i ∈ ct.slots, i ∈ own.map (·.2))
    (hg : ∀ (s : Shared) (H : Hp) (C : Addr) (cl : List (Str × Addr)) (fp : List Addr), PG (X.blk s H scope (PySem.compEnvC scope cl C X.env) fp) tg (ct.tg X.K))
    (ht : ∀ (U : Hp) (s : Shared) (H : Hp) (C : Addr) (cl : List (Str × Addr)) (fp : List Addr), PTs (X.blk s H scope (PySem.compEnvC scope cl C X.env) fp) ifs (liftT ⟨X.K, U⟩ W0 dt))
    (hk : ∀ (U : Hp) (s : Shared) (H : Hp) (C : Addr) (cl : List (Str × Addr)) (fp : List Addr), PE (X.blk s H scope (PySem.compEnvC scope cl C X.env) fp) kx (liftE ⟨X.K, U⟩ W0 dk))
    (he : ∀ (U : Hp) (s : Shared) (H : Hp) (C : Addr) (cl : List (Str × Addr)) (fp : List Addr), PE (X.blk s H scope (PySem.compEnvC scope cl C X.env) fp) vx (liftE ⟨X.K, U⟩ W0 dv)) (hs : ∀ x, foldedSetIterable iter X.env x = pure x := by intro _; rfl) :
    PE X (.DictComp kx vx [⟨tg, iter, ifs, 0⟩] scope pos) (liftE g W (dDe di ct dt dk dv (own.map (·.2)))) := by
  have a := de_dc (W := W) (dt := dt) (dk := dk) (dv := dv) (di := di) hc hK hN hi ok hv hg ht hk he hs (pos := pos)
  have b : PE X (.DictComp kx vx [⟨tg, iter, ifs, 0⟩] scope pos) (liftE g W (dDn di ct dt dk dv (own.map (·.2)))) := by
    obtain ⟨K0, U⟩ := g
    simp only at hK
    subst hK
    exact PE.imp (pe_dn (tt := fun σ H k => ∃ U, liftT ⟨X.K, U⟩ W0 dt σ H k) (tk := fun σ H k => ∃ U, liftE ⟨X.K, U⟩ W0 dk σ H k) (tv := fun σ H k => ∃ U, liftE ⟨X.K, U⟩ W0 dv σ H k) hw hu hc hN hi ok hg (fun s H C cl fp => ⟨fun pins s1 σ H1 Q I ⟨U, q⟩ => (ht U s H C cl fp).run pins s1 σ H1 Q I q⟩)
      (fun s H C cl fp => ⟨fun pins s1 σ H1 Q I ⟨U, q⟩ => (hk U s H C cl fp).run pins s1 σ H1 Q I q⟩) (fun s H C cl fp => ⟨fun pins s1 σ H1 Q I ⟨U, q⟩ => (he U s H C cl fp).run pins s1 σ H1 Q I q⟩) hs) fun σ H k h => lift_dn hv (fun U σ H k q => ⟨U, q⟩) (fun U σ H k q => ⟨U, q⟩) (fun U σ H k q => ⟨U, q⟩) h
  refine (PE.either a b).imp fun σ H k ⟨ρ, M, F, Q, E, S, En, q, kQ, kE⟩ => ?_
  rcases q with q | q
  · exact .inl ⟨ρ, M, F, Q, E, S, En, q, kQ, kE⟩
  · exact .inr ⟨ρ, M, F, Q, E, S, En, q, kQ, kE⟩
end
end DL
namespace DL
variable [Wd]
open PySem L2
section
variable {X : Cx} {g : G} {W : WX} {pos : Pos} {a b c e : Expr} {es : List Expr} {de : DE} {dt : DT} {x : Str}
/-! ### isinstance of the error that a suite holds -/
inductive ClD : D → Value → Prop
  | own (C : Addr) : ClD (.ptr C) (.ref C)
  | ty (n : String) : ClD (.ty n) (.type n)
theorem de_type {T : String} (hg : Gl X x) (hm : X.mg x = none) (hv : bootBuiltins x = some (.type T)) (hn : x ≠ "__name__" := by decide) (hd : (x == ("__debug__" : Str)) = false := by decide) : PE X (.Name x pos) (liftE g W (dC (.ty T))) := de_c (v := .ty T) (pe_bltn hg hm hv rfl hn hd) fun _ => .ty T
/-! ### a def with defaults: its promise, the defaults behind -/
def SpD.dflt (sd : SpD) (dd : List D) : SpD := fun ds M Q E => sd (ds ++ dd) M Q E
theorem FnOk.fnDd {P : Program} {w : World} {K : PySem.W.Frag} {mg : Str → Option Value} {base : Heap} {k : Nat} {f : Addr} {fd : FuncData} {ps : List Str} {sd : SpD} {ds : List Value} {dvs : List V} {dd : List D} (ok : FnOk P w K mg base (L2.CX P w) k f fd ps (spOf K sd)) (bi : Binds K fd ps ds) (hd : Vals dvs ds) (rd : ∀ F, Reps K F dvs dd) : FnD P w K mg base k f (SpD.dflt sd dd) :=
  FnR.imp (ok.raw bi hd) fun vs H Q E ⟨U, M, F, ws, Qd, Ed, S, r, h, kQ, kE⟩ => ⟨U, M, F, ws ++ dd, Qd, Ed, S, r.append (rd F), h, kQ, kE⟩
end
/-! ### steps -/
section
variable {ρ : Rho} {M : Mem} {E : XD}
theorem g_var {i : Nat} {d : D} {Q : D → Mem → Prop} (h : at_ ρ i = some d) (q : Q d M) : dVar i ρ M Q E := ⟨d, h, q⟩
theorem g_c {d : D} {Q : D → Mem → Prop} (q : Q d M) : dC d ρ M Q E := q
theorem g_op {r : DR2} {da db : DE} {Q : D → Mem → Prop} (q : da ρ M (fun d M1 => db ρ M1 (fun e M2 => r d e M2 Q) E) E) : dOp r da db ρ M Q E := q
theorem g_nil {Q : List D → Mem → Prop} (q : Q [] M) : dNil ρ M Q E := q
theorem g_cons {de : DE} {dA : DA} {Q : List D → Mem → Prop} (q : de ρ M (fun d M1 => dA ρ M1 (fun ds M2 => Q (d :: ds) M2) E) E) : dCons de dA ρ M Q E := q
theorem g_cb {r : DC} {dA : DA} {Q : D → Mem → Prop} (q : dA ρ M (fun ds M1 => r ds M1 Q) E) : dCB r dA ρ M Q E := q
theorem g_call {sd : SpD} {dA : DA} {Q : D → Mem → Prop} (q : dA ρ M (fun ds M1 => sd ds M1 Q E) E) : dCall sd dA ρ M Q E := q
theorem g_tup {dA : DA} {Q : D → Mem → Prop} (q : dA ρ M (fun ds M' => ds.length ≤ sizeLine ∧ Q (.tup ds) M') E) : dTup dA ρ M Q E := q
theorem g_lst {dA : DA} {Q : D → Mem → Prop} (q : dA ρ M (fun ds M' => ds.length ≤ sizeLine ∧ NewL ds M' Q) E) : dLst dA ρ M Q E := q
theorem g_B {de : DE} {Q : Bool → Mem → Prop} (q : de ρ M (fun d M' => ∃ k, d = .bl k ∧ Q k M') E) : dB de ρ M Q E := q
theorem g_not {dt : DT} {Q : Bool → Mem → Prop} (q : dt ρ M (fun c M1 => Q (!c) M1) E) : dNot dt ρ M Q E := q
theorem g_and {dt du : DT} {Q : Bool → Mem → Prop} (q : dt ρ M (fun c M1 => if c = true then du ρ M1 Q E else Q false M1) E) : dAnd dt du ρ M Q E := q
theorem g_or {dt du : DT} {Q : Bool → Mem → Prop} (q : dt ρ M (fun c M1 => if c = true then Q true M1 else du ρ M1 Q E) E) : dOr dt du ρ M Q E := q
theorem g_if {dt : DT} {da db : DE} {Q : D → Mem → Prop} (q : dt ρ M (fun c M1 => if c = true then da ρ M1 Q E else db ρ M1 Q E) E) : dIf dt da db ρ M Q E := q
theorem g_bl {k : Bool} {R : Bool → Prop} (q : R k) : ∃ j, D.bl k = .bl j ∧ R j := ⟨k, rfl, q⟩
theorem g_in {k : Int} {R : Int → Prop} (q : R k) : ∃ j, D.int k = .int j ∧ R j := ⟨k, rfl, q⟩
theorem g_iff {c : Prop} [Decidable c] {a b : Prop} (h : c → a) (h' : ¬ c → b) : if (decide c) = true then a else b := by
  by_cases q : c
  · rw [if_pos (decide_eq_true q)]; exact h q
  · rw [if_neg (by simpa using q)]; exact h' q
theorem g_ift {k : Bool} {a b : Prop} (e : k = true) (h : a) : if k = true then a else b := by rw [if_pos e]; exact h
theorem g_iff' {k : Bool} {a b : Prop} (e : k = false) (h : b) : if k = true then a else b := by rw [if_neg (by rw [e]; exact Bool.false_ne_true)]; exact h
theorem g_fld {K : PySem.W.Frag} {de : DE} {f : Str} {Q : D → Mem → Prop} (q : de ρ M (fun d M' => ∃ C es d', IsO M' d C es ∧ FldOk K C f ∧ Has es f d' ∧ Q d' M') E) : dFld K de f ρ M Q E := q
end
section
variable {ρ : Rho} {M : Mem} {nx : NX} {rt : D → Mem → Prop} {bk ct : NX} {ex : Addr → Addr → Rho → Mem → Prop}
theorem g_next (q : nx ρ M) : sNext nx rt bk ct ex ρ M := q
theorem g_seq {t u : DS} (q : t (u nx rt bk ct ex) rt bk ct ex ρ M) : sSeq t u nx rt bk ct ex ρ M := q
theorem g_drop {de : DE} (q : de ρ M (fun _ M' => nx ρ M') (fun C dd M' => ex C dd ρ M')) : sDrop de nx rt bk ct ex ρ M := q
theorem g_ret {de : DE} (q : de ρ M rt (fun C dd M' => ex C dd ρ M')) : sRet de nx rt bk ct ex ρ M := q
theorem g_sif {dt : DT} {t u : DS} (q : dt ρ M (fun c M1 => if c = true then t nx rt bk ct ex ρ M1 else u nx rt bk ct ex ρ M1) (fun C dd M' => ex C dd ρ M')) : sIf dt t u nx rt bk ct ex ρ M := q
theorem g_asg {de : DE} {dg : DG} (q : de ρ M (fun d M1 => dg d ρ M1 nx) (fun C dd M' => ex C dd ρ M')) : sAsg de dg nx rt bk ct ex ρ M := q
theorem g_cont (q : ct ρ M) : sCont nx rt bk ct ex ρ M := q
theorem g_sfor {di : DI} {dg : DG} {body : DS} (q : di ρ M (fun ds st M1 => goF dg body st nx rt ex ds ρ M1) (fun C dd M' => ex C dd ρ M')) : sFor di dg body nx rt bk ct ex ρ M := q
theorem g_nm {i : Nat} {d : D} {Q : NX} (q : Q (put ρ i (some d)) M) : gNm i d ρ M Q := q
end
end DL
local macro_rules | `(tactic| walk_at "dl") => `(tactic| repeat (first | (with_reducible first | refine DL.g_seq ?_ | refine DL.g_asg ?_ | refine DL.g_sif ?_ | refine DL.g_ret ?_ | refine DL.g_retN ?_ | refine DL.g_drop ?_ | refine DL.g_next ?_ | refine DL.g_cont ?_ | refine DL.g_brk ?_ | refine DL.g_sfor ?_ | refine DL.g_op ?_ | refine DL.g_c ?_ | refine DL.g_nil ?_ | refine DL.g_cons ?_ | refine DL.g_cb ?_ | refine DL.g_call ?_ | refine DL.g_tup ?_ | refine DL.g_lst ?_ | refine DL.g_B ?_ | refine DL.g_not ?_ | refine DL.g_and ?_ | refine DL.g_or ?_ | refine DL.g_if ?_ | refine DL.g_bl ?_ | refine DL.g_in ?_ | refine DL.g_nm ?_ | refine DL.g_fld ?_ | refine DL.IntB.int ?_ | refine DL.AddR.int ?_ | refine DL.SubR.int ?_ | refine DL.EqR.int ?_ | refine DL.EqR.str ?_ | refine DL.EqR.bl ?_ | refine DL.IntC.int ?_ | refine DL.IsR.non ?_) | (refine DL.g_var (by first | assumption | rfl) ?_)))
local macro_rules | `(tactic| walk_at "nof") => `(tactic| repeat (first | exact DL.NoF.nil | refine DL.NoF.cons (by decide) ?_))
namespace DL
variable [Wd]
open PySem L2 PySem.Spec PyProof.Rows
section
variable {X : Cx} {g : G} {W : WX} {pos : Pos} {a b c e tg : Expr} {es : List Expr} {de : DE}
/-! ### what a walk meets: a list, a tuple, the keys of a dict -/
/-- the keys of a locked dict whose keys are tuples -/
def ItH (d : Addr) (o : Obj) (xs : List (NestedKey × Addr × Value)) : It where
  go := fun i H => H d = some (.frz o (hoN d xs)) ∧ i < xs.length
  yld := fun i H x H' => H' = H ∧ ∃ y, xs[i]? = some y ∧ x = .ref y.2.1
  stop := fun i H => H d = some (.frz o (hoN d xs)) ∧ xs.length ≤ i
theorem frzN {X : Cx} {pins : List (Addr × Obj)} {σ : L2.St} {H : Hp} {s : Shared} {d : Addr} {o : Obj} {xs : List (NestedKey × Addr × Value)} (I : Inv X pins σ H s) (h : H d = some (.frz o (hoN d xs))) :
    (d == sysModules) = false ∧ s.heap.get? d = some o ∧ o.ExactDict ∧ ∃ (es : Array DictEntry) (ep : Nat), o.data = .dict es ep ∧ es.size = xs.length ∧ ∀ (i : Nat) (y : NestedKey × Addr × Value), xs[i]? = some y → ∃ en : DictEntry, es[i]? = some en ∧ en.key = .ref y.2.1 := by
  obtain ⟨h0, ⟨z, y, nd, o', es, ep, h1, h2, h3, h4⟩, _⟩ := (show ObjOk X.prog X.w H s.heap d (.frz o (hoN d xs)) from I.hok d _ h)
  rw [h0] at h1
  cases h1
  have hsz : es.size = xs.length := by rw [← Array.length_toList, h4, List.length_map]
  refine ⟨y, h0, h2, es, ep, h3, hsz, fun i y hy => ?_⟩
  have q : es.toList[i]? = some ⟨y.1.hash Wd.w, .ref y.2.1, y.2.2⟩ := by rw [h4, List.getElem?_map, hy]; rfl
  rw [Array.getElem?_toList] at q
  exact ⟨_, q, rfl⟩
theorem turn_nk {P : Program} {w : World} {K : PySem.W.Frag} {tg : Expr} {d : Addr} {o : Obj} {es : Array DictEntry} {ep : Nat} {xs : List (NestedKey × Addr × Value)} (it : Addr) (hod : o.data = .dict es ep) : Turn P w K tg (ItH d o xs) [it] it (fun i h => h.IsKeyIter it d i xs.length ep) := by
  refine ⟨List.mem_singleton.mpr rfl, fun i h st b hb => ?_, fun i h h' st kp => st.at fun ob q => kp it (List.mem_singleton.mpr rfl) ob q, ?_, ?_, fun A i s Q E st q => wpAny_pyIter_keyiter st q⟩
  · obtain rfl : b = it := by simpa using hb
    obtain ⟨ob, q, c, dd⟩ := st
    exact ⟨ob, q, fun v z => by rw [dd] at z; cases z⟩
  · rintro X hP hw hK hc i pins s σ H E I hf st ⟨hd, hi⟩
    subst hP hw hK
    obtain ⟨f0, f1, f2, f3, f4, f5⟩ := hf it (List.mem_singleton.mpr rfl)
    obtain ⟨hy, hg, hx, es', ep', hdt, hsz, hk⟩ := frzN I hd
    obtain ⟨rfl, rfl⟩ := dict_ep hod hdt
    obtain ⟨en, q1, q2⟩ := hk i xs[i] (List.getElem?_eq_getElem hi)
    refine next_key_item st hg hdt hsz q1 fun h' st' sb => ?_
    obtain ⟨oi, e, c, dd⟩ := id st'
    rw [q2]
    exact ⟨.ref xs[i].2.1, rfl, go_of (s := { s with heap := h' }) e c dd (by decide) ⟨.ref xs[i].2.1, H, I.turned (t' := s.toks) (fun b ob hb e => (sb.2 b hb).trans e) f0 f1 f3 f4 f5, rfl, ⟨rfl, _, List.getElem?_eq_getElem hi, rfl⟩, st', fun b hb => (hf b hb).1⟩⟩
  · rintro X hP hw hK hc i pins s σ H E I hf st ⟨hd, hi⟩
    subst hP hw hK
    obtain ⟨f0, f1, f2, f3, f4, f5⟩ := hf it (List.mem_singleton.mpr rfl)
    obtain ⟨hy, hg, hx, es', ep', hdt, hsz, hk⟩ := frzN I hd
    obtain ⟨rfl, rfl⟩ := dict_ep hod hdt
    exact next_key_end (I.ok.hd hc) st hg hdt hsz hi fun h' eb => ⟨rfl, I.turned (t' := s.toks) (fun b ob hb e => eb b ob hb e) f0 f1 f3 f4 f5⟩
def iAnyV (K : PySem.W.Frag) (td : TE) : TI := fun σ H R => td σ H fun x H1 => ∃ a, x = .ref a ∧ (((∃ xs, SqL K H1 a xs) ∧ R (Itl K a) H1) ∨ ((∃ xs, SqT K H1 a xs) ∧ R (Itt K a) H1) ∨ (∃ o kvs, H1 a = some (.frz o (.dK kvs)) ∧ R (Itk a o kvs) H1) ∨ ∃ o xs, H1 a = some (.frz o (hoN a xs)) ∧ R (ItH a o xs) H1)
theorem pi_anyV {td : TE} (h : PE X e td) : PI X tg e (iAnyV X.K td) := by
  refine ⟨fun pins s σ H R I q => ?_⟩
  refine thn (h.run pins s σ H _ I q) fun u s1 ⟨x, H1, I1, rx, p, ex, q1⟩ => ?_
  subst ex
  obtain rfl : u = Value.ref p := rx
  rcases q1 with ⟨⟨xs, hx⟩, q2⟩ | ⟨⟨xs, hx⟩, q2⟩ | ⟨o, kvs, hd, q2⟩ | ⟨o, xs, hd, q2⟩
  · obtain ⟨its, _, pl, _⟩ := I1.list hx
    exact wpAny_pyIter_list pl.isList (pi_one (tk := s1.toks) I1 _ (turn_list p _) ⟨_, Heap.get?_push_size _ rfl, rfl, rfl⟩ q2)
  · obtain ⟨its, _, pl, _⟩ := I1.tuple hx
    exact wpAny_pyIter_tuple (show s1.heap.IsTuple p its.toArray from pl) (pi_one (tk := s1.toks) I1 _ (turn_tuple p _) ⟨_, Heap.get?_push_size _ rfl, rfl, rfl⟩ q2)
  · obtain ⟨z1, z2, z3, ents, ep, vs, z4, z5, _, _⟩ := I1.frzK hd
    refine iter_keys z1 z2 z3 z4 (pi_one (J := Itk p o kvs) (tk := s1.toks) I1 _ (turn_keys _ z4) ⟨_, Heap.get?_push_size _ rfl, rfl, ?_⟩ q2)
    rw [z5]
    rfl
  · obtain ⟨hy, hg, hx, es', ep, hdt, hsz, _⟩ := frzN I1 hd
    refine iter_keys hy hg hx hdt (pi_one (J := ItH p o xs) (tk := s1.toks) I1 _ (turn_nk _ hdt) ⟨_, Heap.get?_push_size _ rfl, rfl, ?_⟩ q2)
    rw [hsz]
    rfl
def tLk3 (td : TE) : TE := fun σ H Q => td σ H fun x H1 => Q x H1 ∨ ∃ d u, x = .ref d ∧ H1 d = some u ∧ Mut (some u) ∧ ∀ z, Q x (upd H1 d (.frz z u))
theorem pe_lk3 {td : TE} (h : PE X e td) : PE X e (tLk3 td) := by
  refine ⟨fun pins s σ H Q I q => thn (h.run pins s σ H _ I q) fun v s1 ⟨x, H1, I1, rx, q1⟩ => ?_⟩
  rcases q1 with q1 | ⟨d, u, ex, hd, mu, q1⟩
  · exact ⟨_, H1, I1, rx, q1⟩
  · subst ex
    obtain ⟨z, I2⟩ := I1.lock hd mu
    exact ⟨_, _, I2, rx, q1 z⟩
inductive IsI (M : Mem) : D → List D → (Mem → Prop) → Prop
  | lst {d : D} {ds : List D} {st : Mem → Prop} : IsL M d ds st → IsI M d ds st
  | tup (ds : List D) : IsI M (.tup ds) ds fun _ => True
  | dic (xs : List (Key × D)) : IsI M (.dic xs) (xs.map fun kv => keyD kv.1) fun _ => True
  | dit (xs : List (D × D)) : IsI M (.dit xs) (xs.map (·.1)) fun _ => True
theorem lock_any {F : Hp} {M : Mem} {H : Hp} {a : Addr} {u : HO} {R : V → Hp → Prop} (S : Sta g F M H) (e : F a = some u) (hd : isDct u = true) (mu : Mut (some u)) (q : Rd H a u)
    (h : ∀ z U' H', H' a = some (.frz z u) → (∃ V, V a = some (.frz z u) ∧ Same V U' ∧ ∀ b o, V b = some o → ∃ z u, o = HO.frz z u) → Same g.U U' → Sta ⟨g.K, U'⟩ F M H' → R (.ref a) H') :
    (∃ z, H a = some (.frz z u) ∧ R (.ref a) H) ∨ (H a = some u ∧ Mut (some u) ∧ ∀ z, R (.ref a) (upd H a (.frz z u))) := by
  obtain ⟨K, U⟩ := g
  have lone : ∀ (z : Obj) (U' : Hp), U' a = some (.frz z u) → ∃ V : Hp, V a = some (.frz z u) ∧ Same V U' ∧ ∀ b o, V b = some o → ∃ z u, o = HO.frz z u := fun z U' hU => by
    refine ⟨upd noH a (.frz z u), upd_same, fun b w hb => ?_, fun b w hb => ?_⟩
    · by_cases q : b = a
      · subst q
        rw [upd_same] at hb
        cases hb
        exact hU
      · rw [upd_ne q] at hb; cases hb
    · by_cases q : b = a
      · subst q
        rw [upd_same] at hb
        cases hb
        exact ⟨_, _, rfl⟩
      · rw [upd_ne q] at hb; cases hb
  rcases q with q | ⟨z, q⟩
  · refine .inr ⟨q, mu, fun z => ?_⟩
    obtain ⟨S', hU⟩ := S.lock (z := z) e hd q
    exact h z _ _ upd_same (lone z _ upd_same) (fun b w hb => by rw [upd_ne (ne_of_none hb hU)]; exact hb) S'
  · obtain ⟨S', su⟩ := sta_hold S e hd q
    exact .inl ⟨z, q, h z _ _ q (lone z _ upd_same) su S'⟩
def iAny (de : DE) : DI := fun ρ M Q E => de ρ M (fun d M' => ∃ ds st, IsI M' d ds st ∧ Q ds st M') E
theorem di_any (hK : g.K = X.K) (h : PE X e (liftE g W de)) : PI X tg e (liftI g W (iAny de)) :=
  (pi_anyV (pe_lk3 h)).imp fun σ H R ⟨ρ, M, F, Q, E, S, En, q, kQ, kE⟩ => ⟨ρ, M, F, _, E, S, En, q, fun d M' F' v H' ⟨ds, st, hi, z⟩ s S' r => by
    cases hi with
    | lst hl =>
      obtain ⟨p, xs, ev, hq, r1, r2⟩ := hl.sq S' r
      exact .inl ⟨p, ev, .inl ⟨⟨xs, by rw [← hK]; exact hq⟩, kQ ds st M' g.U noH F' _ H' z (Same.r _) same_no s S' (yields_list hK r2)⟩⟩
    | tup =>
      cases r with
      | tup hs r =>
        refine .inl ⟨_, rfl, .inr (.inl ⟨⟨_, by rw [← hK]; exact S'.sub.sqT hs⟩, kQ _ _ M' g.U noH F' _ H' z (Same.r _) same_no s S' ⟨fun _ _ e => (nomatch e), fun i d U F2 M2 H2 _ s2 S2 _ e => ?_, fun i U F2 M2 H2 _ s2 S2 _ e => ?_⟩⟩)⟩
        · obtain ⟨v, hv, rv⟩ := r.get e
          refine ⟨⟨_, v, by rw [← hK]; exact S2.sub.sqT (sqT_mono s2 hs), hv⟩, fun x H3 ⟨eH, y⟩ => ?_⟩
          subst eH
          have y' := y _ (by rw [← hK]; exact S2.sub.sqT (sqT_mono s2 hs))
          rw [hv] at y'
          cases y'
          exact ⟨F2, Same.r F2, S2, rv.mono s2⟩
        · exact ⟨_, by rw [← hK]; exact S2.sub.sqT (sqT_mono s2 hs), by rw [r.length]; exact e⟩
    | dic xs =>
      have main := lock_dic (R := fun x H1 => ∃ a, x = V.ref a ∧ ∃ o kvs, H1 a = some (.frz o (.dK kvs)) ∧ R (Itk a o kvs) H1) S' r fun d zo kvs U' H2 ev hF hH ⟨V, hU, sV, plV⟩ su S2 l rr => ⟨d, ev, zo, kvs, hH, kQ _ _ M' U' V F' _ H2 z su sV s S2 ⟨plV, fun i y U F2 M2 H3 su2 s2 S3 _ ey => ?_, fun i U F2 M2 H3 su2 s2 S3 _ ey => ?_⟩⟩
      · obtain ⟨d, u, ev, q⟩ := main
        rcases q with ⟨zo, hd, p, e1, o, kvs, e2, e3⟩ | ⟨hd, mu, q⟩
        · exact .inl ⟨p, e1, .inr (.inr (.inl ⟨o, kvs, e2, e3⟩))⟩
        · refine .inr ⟨d, u, ev, hd, mu, fun zo => ?_⟩
          obtain ⟨p, e1, o, kvs, e2, e3⟩ := q zo
          exact ⟨p, e1, .inr (.inr (.inl ⟨o, kvs, e2, e3⟩))⟩
      · have hlt : i < kvs.length := by
          rw [kvs_len l]
          have := (List.getElem?_eq_some_iff.mp ey).1
          rwa [List.length_map] at this
        refine ⟨⟨held hU su2 S3, hlt⟩, fun w H4 ⟨e4, k, u, e1, e2⟩ => ?_⟩
        obtain ⟨dv, e5, r5⟩ := kv_get l rr e1
        rw [List.getElem?_map, e5] at ey
        cases ey
        subst e2 e4
        exact ⟨_, Same.r _, S3, rep_key k⟩
      · refine ⟨held hU su2 S3, ?_⟩
        rw [List.length_map] at ey
        rw [kvs_len l]
        exact ey
    | dit es =>
      obtain ⟨K, U⟩ := g
      cases r with
      | @dit a xs vs _ ha l ra rv rb =>
        have en : EntI K F' xs es := Ents.to ⟨vs, l, ra, rv, rb⟩
        have ln := en.length
        have main := lock_any (g := ⟨K, U⟩) (R := fun x H1 => ∃ p, x = V.ref p ∧ ∃ o xs, H1 p = some (.frz o (hoN p xs)) ∧ R (ItH p o xs) H1) S' ha rfl trivial (S'.sub.nk ha) (fun zo U' H2 hH ⟨V, hU, sV, plV⟩ su S2 => ⟨a, rfl, zo, xs, hH, kQ _ _ M' U' V F' _ H2 z su sV s S2 ⟨plV, fun i y U F2 M2 H3 su2 s2 S3 _ ey => ?_, fun i U F2 M2 H3 su2 s2 S3 _ ey => ?_⟩⟩)
        · rcases main with ⟨zo, hd, p, e1, o, ys, e2, e3⟩ | ⟨hd, mu, q⟩
          · exact .inl ⟨p, e1, .inr (.inr (.inr ⟨o, ys, e2, e3⟩))⟩
          refine .inr ⟨a, _, rfl, hd, mu, fun zo => ?_⟩
          obtain ⟨p, e1, o, ys, e2, e3⟩ := q zo
          exact ⟨p, e1, .inr (.inr (.inr ⟨o, ys, e2, e3⟩))⟩
        · have hlt : i < xs.length := by
            have := (List.getElem?_eq_some_iff.mp ey).1
            rw [List.length_map] at this
            omega
          refine ⟨⟨held hU su2 S3, hlt⟩, fun w H4 ⟨e4, y', e1, e2⟩ => ?_⟩
          have h1 : (xs.map fun x => L2.V.ref x.2.1)[i]? = some (L2.V.ref y'.2.1) := by rw [List.getElem?_map, e1]; rfl
          obtain ⟨d', e5, r5⟩ := en.keys.get' h1
          rw [ey] at e5
          cases e5
          subst e2 e4
          exact ⟨_, Same.r _, S3, r5.mono s2⟩
        · refine ⟨held hU su2 S3, ?_⟩
          rw [List.length_map] at ey
          omega, kE⟩
end
end DL
namespace DL
variable [Wd]
open PySem L2 PySem.Spec PyProof.Rows
/-! ### names for the generated texts -/
abbrev rAdd : DR2 := fun d e M Q => AddR M Q d e
abbrev rSub : DR2 := fun d e M Q => SubR M Q d e
abbrev rMul : DR2 := fun d e M Q => MulR M Q d e
abbrev rDiv : DR2 := fun d e M Q => DivR M Q d e
abbrev rMod : DR2 := fun d e M Q => ModR M Q d e
abbrev rPow : DR2 := fun d e M Q => PowR M Q d e
abbrev rLt : DR2 := fun d e M Q => IntB (fun i j => decide (i < j)) M Q d e
abbrev rGt : DR2 := fun d e M Q => IntB (fun i j => decide (j < i)) M Q d e
abbrev rGe : DR2 := fun d e M Q => IntB (fun i j => decide (j ≤ i)) M Q d e
abbrev rEq : DR2 := fun d e M Q => EqR false M Q d e
abbrev rNe : DR2 := fun d e M Q => EqR true M Q d e
abbrev rIs : DR2 := fun d e M Q => IsR false M Q d e
abbrev rIsn : DR2 := fun d e M Q => IsR true M Q d e
abbrev rIn : DR2 := fun d e M Q => InR false M Q d e
abbrev rNin : DR2 := fun d e M Q => InR true M Q d e
abbrev rIx : DR2 := fun d e M Q => IxQ M Q d e
abbrev rLen : DC := fun ds M Q => LenC M Q ds
abbrev rList : DC := fun ds M Q => ListC M Q ds
abbrev rTuple : DC := fun ds M Q => TupC M Q ds
abbrev rInt : DC := fun ds M Q => IntC M Q ds
abbrev rSum : DC := fun ds M Q => SumC M Q ds
abbrev rAny : DC := fun ds M Q => AnyC false M Q ds
abbrev rAll : DC := fun ds M Q => AnyC true M Q ds
abbrev rMin : DC := fun ds M Q => MinC M Q ds
abbrev rApp : DM := fun d ds M Q => AppM M Q d ds
theorem dboot_sum : bootBuiltins "sum" = some (.builtin "sum") := by decide +kernel
theorem dboot_any : bootBuiltins "any" = some (.builtin "any") := by decide +kernel
theorem dboot_all : bootBuiltins "all" = some (.builtin "all") := by decide +kernel
theorem dboot_min : bootBuiltins "min" = some (.builtin "min") := by decide +kernel
theorem dboot_isinstance : bootBuiltins "isinstance" = some (.builtin "isinstance") := by decide +kernel
theorem dboot_int : bootBuiltins "int" = some (.type "int") := by decide +kernel
theorem dboot_bool : bootBuiltins "bool" = some (.type "bool") := by decide +kernel
theorem dboot_list : bootBuiltins "list" = some (.type "list") := by decide +kernel
theorem dboot_tuple : bootBuiltins "tuple" = some (.type "tuple") := by decide +kernel
theorem hu1 {k : Nat} {A : Around} (hr : Room k A) : A.units + 1 < cLine := by have := hr.un; omega
theorem hu64 {k : Nat} {A : Around} (hr : Room k A) : A.units + 64 < cLine := by have := hr.un; omega
theorem hu65 {k : Nat} {A : Around} (hr : Room k A) : A.units + 65 < cLine := by have := hr.un; omega
section
variable {X : Cx} {g : G} {W : WX} {sts : List Stmt}
/-- what is never reached -/
def sNever : DS := fun _ _ _ _ _ _ _ => False
theorem dss_never : PSs X sts (liftS g W sNever) := pss_never.imp fun D σ H ⟨ρ, M, F, nx, rt, bk, ct, ex, S, En, q, _⟩ => q
end
end DL
namespace DL
variable [Wd]
open PySem L2 PySem.Spec PyProof.Rows
/-! ### the memory as a map -/
def Nd (M : Mem) : Prop := (M.map (·.1)).Nodup
def Free (p : Addr) (M : Mem) : Prop := ∀ m, (p, m) ∉ M
/-- what is not of ps stays -/
def Fr (ps : List Addr) (M M' : Mem) : Prop := ∀ a m, a ∉ ps → (a, m) ∈ M → (a, m) ∈ M'
theorem Fr.refl {ps : List Addr} {M : Mem} : Fr ps M M := fun _ _ _ h => h
theorem Fr.trans {ps : List Addr} {M M' M'' : Mem} (h : Fr ps M M') (h' : Fr ps M' M'') : Fr ps M M'' := fun a m ha hm => h' a m ha (h a m ha hm)
theorem Fr.mono {ps qs : List Addr} {M M' : Mem} (h : Fr ps M M') (s : ∀ a ∈ ps, a ∈ qs) : Fr qs M M' := fun a m ha hm => h a m (fun z => ha (s a z)) hm
theorem Fr.cons {ps : List Addr} {M M' : Mem} {p : Addr × MO} (h : Fr ps M M') : Fr ps M (p :: M') := fun a m ha hm => List.mem_cons_of_mem _ (h a m ha hm)
theorem nd_new {p : Addr} {m : MO} {M : Mem} (h : Free p M) (nd : Nd M) : Nd ((p, m) :: M) :=
  List.nodup_cons.mpr ⟨fun z => by
    obtain ⟨⟨b, x⟩, hq, e⟩ := List.mem_map.mp z
    cases e
    exact h x hq, nd⟩
theorem Nd.one {M : Mem} (nd : Nd M) {a : Addr} {m n : MO} (h1 : (a, m) ∈ M) (h2 : (a, n) ∈ M) : m = n := key_unique nd h1 h2
structure UpdOk (a : Addr) (m n : MO) (M M' : Mem) : Prop where
  up : Upd a m n M M'
  nd : Nd M'
  at_ : (a, n) ∈ M'
  fr : Fr [a] M M'
theorem upd_ex {a : Addr} {m : MO} (n : MO) {M : Mem} (nd : Nd M) (h : (a, m) ∈ M) : ∃ M', UpdOk a m n M M' := by
  have key : ∀ {M : Mem}, (a, m) ∈ M → ∃ M', Upd a m n M M' ∧ (a, n) ∈ M' ∧ Fr [a] M M' := by
    intro M
    induction M with
    | nil => intro h; cases h
    | cons p r ih =>
      intro h
      rcases List.mem_cons.mp h with z | z
      · subst z
        refine ⟨_, .head, List.mem_cons_self, fun b x hb hm => ?_⟩
        rcases List.mem_cons.mp hm with z | z
        · cases z; exact absurd List.mem_cons_self hb
        · exact List.mem_cons_of_mem _ z
      · obtain ⟨M', u, h1, h2⟩ := ih z
        refine ⟨_, .tail u, List.mem_cons_of_mem _ h1, fun b x hb hm => ?_⟩
        rcases List.mem_cons.mp hm with z | z
        · rw [z]; exact List.mem_cons_self
        · exact List.mem_cons_of_mem _ (h2 b x hb z)
  obtain ⟨M', u, h1, h2⟩ := key h
  exact ⟨M', u, by unfold Nd; rw [u.keys]; exact nd, h1, h2⟩
structure DelOk (a : Addr) (m : MO) (M M' : Mem) : Prop where
  up : Del a m M M'
  nd : Nd M'
  fr : Fr [a] M M'
theorem del_ex {a : Addr} {m : MO} {M : Mem} (nd : Nd M) (h : (a, m) ∈ M) : ∃ M', DelOk a m M M' := by
  have key : ∀ {M : Mem}, (a, m) ∈ M → ∃ M', Del a m M M' := by
    intro M
    induction M with
    | nil => intro h; cases h
    | cons p r ih =>
      intro h
      rcases List.mem_cons.mp h with z | z
      · subst z
        exact ⟨_, .head⟩
      · obtain ⟨M', u⟩ := ih z
        exact ⟨_, .tail u⟩
  obtain ⟨M', u⟩ := key h
  exact ⟨M', u, nd.sublist u.sub, fun b x hb hm => u.keys hm (fun e => hb (e ▸ List.mem_cons_self))⟩
theorem not_mem2 {a p c : Addr} (h1 : a ≠ p) (h2 : a ≠ c) : a ∉ [p, c] := by
  intro h
  rcases List.mem_cons.mp h with e | e
  · exact h1 e
  · rcases List.mem_cons.mp e with e | e
    · exact h2 e
    · cases e
theorem not_mem1 {a p : Addr} (h1 : a ≠ p) : a ∉ [p] := by
  intro h
  rcases List.mem_cons.mp h with e | e
  · exact h1 e
  · cases e
theorem Fr.l2 {p c : Addr} {M M' : Mem} (h : Fr [p] M M') : Fr [p, c] M M' := h.mono fun a ha => by
  rcases List.mem_cons.mp ha with e | e
  · rw [e]; exact List.mem_cons_self
  · cases e
theorem Fr.r2 {p c : Addr} {M M' : Mem} (h : Fr [c] M M') : Fr [p, c] M M' := h.mono fun a ha => List.mem_cons_of_mem _ ha
theorem len_le_line {n : Nat} (h : n ≤ 1000000 := by decide) : n ≤ sizeLine := by rw [sizeLine_eq]; omega
theorem atI_nat' {α : Type} {xs : List α} {j : Nat} {x : α} {i : Int} (e : i = (j : Int)) (h : xs[j]? = some x) : atI xs i = some x := by
  have hlt : j < xs.length := (List.getElem?_eq_some_iff.mp h).1
  subst e
  unfold atI ixN
  rw [if_pos (by omega), if_pos (by omega)]
  simpa using h
/-! ### the source that a law draws from -/
def srcD (c : Addr) (flags : List Bool) (i : Nat) (n s : Int) : List D := [.ptr c, .lst (flags.map .bl), .int i, .int n, .int s]
structure Src (p c : Addr) (b : Nat) (M : Mem) : Prop where
  ex : ∃ (cells : List Int) (flags : List Bool) (i : Nat) (n s : Int), (p, MO.lst (srcD c flags i n s)) ∈ M ∧ (c, MO.lst (cells.map .int)) ∈ M ∧ flags.length = cells.length ∧ cells.length ≤ 63 ∧ 0 ≤ n ∧ n ≤ b ∧ 0 ≤ s ∧ s < 1000003
  ne : p ≠ c
theorem Src.fr {p c : Addr} {b : Nat} {M M' : Mem} {ps : List Addr} (h : Src p c b M) (f : Fr ps M M') (h1 : p ∉ ps) (h2 : c ∉ ps) : Src p c b M' := by
  obtain ⟨cells, flags, i, n, s, a1, a2, r⟩ := h.ex
  exact ⟨⟨cells, flags, i, n, s, f _ _ h1 a1, f _ _ h2 a2, r⟩, h.ne⟩
theorem Src.more {p c : Addr} {b b' : Nat} {M : Mem} (h : Src p c b M) (hb : b ≤ b') : Src p c b' M := by
  obtain ⟨cells, flags, i, n, s, a1, a2, a3, a4, a5, a6, r⟩ := h.ex
  exact ⟨⟨cells, flags, i, n, s, a1, a2, a3, a4, a5, by omega, r⟩, h.ne⟩
def spDraw : SpD := fun ds M Q _ => ∃ p c many b, ds = [.ptr p, .int many] ∧ 0 < many ∧ many < 2 ^ 62 ∧ Nd M ∧ b < 100000000 ∧ Src p c b M ∧ ∀ r M', 0 ≤ r → r < many → Nd M' → Src p c (b + 1) M' → Fr [p, c] M M' → Q (.int r) M'
end DL
namespace DL
variable [Wd]
open PySem L2 PySem.Spec PyProof.Rows
/-! ### the helpers that every law has -/
def dDraw : DS := sSeq (sAsg (dOp rIx (dVar 0) (dC (.int 0))) (gNm 2)) (sSeq (sAsg (dOp rIx (dVar 0) (dC (.int 2))) (gNm 3)) (sSeq (sIf (dB (dOp rLt (dVar 3) (dCB rLen (dCons (dVar 2) (dNil))))) (sSeq (sAsg (dOp rIx (dVar 2) (dVar 3)) (gNm 4)) (sSeq (sAsg (dOp rDiv (dVar 4) (dVar 1)) (gSub (dVar 2) (dVar 3))) (sSeq (sIf (dOr (dNot (dB (dOp rIx (dOp rIx (dVar 0) (dC (.int 1))) (dVar 3)))) (dB (dOp rEq (dOp rIx (dVar 2) (dVar 3)) (dC (.int 0))))) (sAsg (dOp rAdd (dVar 3) (dC (.int 1))) (gSub (dVar 0) (dC (.int 2)))) (sNext)) (sRet (dOp rMod (dCB rInt (dCons (dVar 4) (dNil))) (dVar 1)))))) (sNext)) (sSeq (sIf (dB (dOp rEq (dOp rIx (dVar 0) (dC (.int 4))) (dC (.int 0)))) (sRet (dC (.int 0))) (sNext)) (sSeq (sAsg (dOp rAdd (dOp rIx (dVar 0) (dC (.int 3))) (dC (.int 1))) (gSub (dVar 0) (dC (.int 3)))) (sSeq (sAsg (dOp rMod (dCB rInt (dCons (dOp rMul (dOp rAdd (dOp rIx (dVar 0) (dC (.int 4))) (dOp rMul (dOp rIx (dVar 0) (dC (.int 3))) (dC (.int 7919)))) (dC (.int 48271))) (dNil))) (dC (.int 2147483647))) (gNm 5)) (sRet (dOp rMod (dOp rDiv (dOp rMod (dCB rInt (dCons (dOp rMul (dVar 5) (dVar 5)) (dNil))) (dC (.int 998244353))) (dC (.int 7))) (dVar 1))))))))
theorem ixq_ptr {M : Mem} {p : Addr} {ds : List D} {i : Int} {e : D} {Q : D → Mem → Prop} (h : (p, MO.lst ds) ∈ M) (ha : atI ds i = some e) (q : Q e M) : IxQ M Q (.ptr p) (.int i) := .seq (.ptr h) ha q
theorem ixq_lst {M : Mem} {ds : List D} {i : Int} {e : D} {Q : D → Mem → Prop} (ha : atI ds i = some e) (q : Q e M) : IxQ M Q (.lst ds) (.int i) := .seq (.lst ds) ha q
theorem wide_of {i : Int} {b : Nat} (h0 : 0 ≤ i) (h : i < 2 ^ b) : i.natAbs < 2 ^ b := by
  have e : ((i.natAbs : Nat) : Int) = i := Int.natAbs_of_nonneg h0
  have h2 : ((i.natAbs : Nat) : Int) < ((2 ^ b : Nat) : Int) := by rw [e]; simpa using h
  exact Int.ofNat_lt.mp h2
theorem pureDraw {ds : List D} {M : Mem} {Qd : D → Mem → Prop} {Ed : XD} (h : spDraw ds M Qd Ed) : dDraw (fun _ M' => Qd .non M') Qd (fun _ _ => False) (fun _ _ => False) (fun C dd _ M' => Ed C dd M') (start0 ["a", "b", "c", "d", "e", "f"] ds) M := by
  obtain ⟨p, c, many, b, rfl, h0, h1, nd, hb, S, kQ⟩ := h
  obtain ⟨⟨cells, flags, i, n, s, hp, hc, hl, h63, hn0, hnb, hs0, hs1⟩, ne⟩ := S
  unfold dDraw
  walk_at "dl"
  refine ixq_ptr hp (e := .ptr c) (by rfl) ?_
  walk_at "dl"
  refine ixq_ptr hp (e := .int i) (by rfl) ?_
  walk_at "dl"
  refine .seq (.ptr hc) ?_
  walk_at "dl"
  refine g_iff (fun hlt => ?_) fun hge => ?_
  · have hi : i < cells.length := by rw [List.length_map] at hlt; omega
    obtain ⟨z, hz⟩ : ∃ z, cells[i]? = some z := ⟨cells[i], by simp [hi]⟩
    have hz' : (cells.map D.int)[i]? = some (D.int z) := by rw [List.getElem?_map, hz]; rfl
    obtain ⟨fl, hf⟩ : ∃ fl, flags[i]? = some fl := ⟨flags[i]'(by omega), by simp [hl, hi]⟩
    have hf' : (flags.map D.bl)[i]? = some (D.bl fl) := by rw [List.getElem?_map, hf]; rfl
    walk_at "dl"
    refine ixq_ptr hc (atI_nat' rfl hz') ?_
    walk_at "dl"
    refine DivR.int (wide_div h0 (wide_of (b := 62) (by omega) h1) (by decide) (by decide)) ?_
    obtain ⟨M1, U1⟩ := upd_ex (n := .lst ((cells.map D.int).set i (.int (z / many)))) nd hc
    have hp1 := U1.fr _ _ (not_mem1 ne) hp
    refine ⟨_, rfl, _, rfl, .lst U1.up (j := i) ?_ ?_⟩
    · unfold ixN
      rw [if_pos (by omega), if_pos (by rw [List.length_map]; omega)]
      rfl
    have hset : (cells.map D.int).set i (.int (z / many)) = (cells.set i (z / many)).map .int := List.map_set.symm
    have h1c : (c, MO.lst ((cells.set i (z / many)).map .int)) ∈ M1 := by rw [← hset]; exact U1.at_
    have hl1 : flags.length = (cells.set i (z / many)).length := by rw [List.length_set]; exact hl
    have hz1 : ((cells.set i (z / many)).map D.int)[i]? = some (D.int (z / many)) := by rw [List.getElem?_map, List.getElem?_set_self hi]; rfl
    -- behind the test, whichever way
    have fin : ∀ (i' : Nat) M2, Nd M2 → (p, MO.lst (srcD c flags i' n s)) ∈ M2 → (c, MO.lst ((cells.set i (z / many)).map .int)) ∈ M2 → Fr [p, c] M M2 → Qd (.int (z % many)) M2 := fun i' M2 nd2 a1 a2 f =>
      kQ _ _ (Int.emod_nonneg _ (by omega)) (Int.emod_lt_of_pos _ h0) nd2 ⟨⟨_, flags, i', n, s, a1, a2, hl1, by rw [List.length_set]; exact h63, hn0, by omega, hs0, hs1⟩, ne⟩ f
    have step : ∀ M2, Nd M2 → (p, MO.lst (srcD c flags i n s)) ∈ M2 → (c, MO.lst ((cells.set i (z / many)).map .int)) ∈ M2 → Fr [p, c] M M2 → ∀ (nx : NX) (k : Bool), if k = true then sAsg (dOp rAdd (dVar 3) (dC (.int 1))) (gSub (dVar 0) (dC (.int 2))) (sRet (dOp rMod (dCB rInt (dCons (dVar 4) dNil)) (dVar 1)) nx Qd (fun _ _ => False) (fun _ _ => False) (fun C dd _ M' => Ed C dd M')) Qd (fun _ _ => False) (fun _ _ => False) (fun C dd _ M' => Ed C dd M')
          [some (.ptr p), some (.int many), some (.ptr c), some (.int i), some (.int z), none] M2
        else sNext (sRet (dOp rMod (dCB rInt (dCons (dVar 4) dNil)) (dVar 1)) nx Qd (fun _ _ => False) (fun _ _ => False) (fun C dd _ M' => Ed C dd M')) Qd (fun _ _ => False) (fun _ _ => False) (fun C dd _ M' => Ed C dd M') [some (.ptr p), some (.int many), some (.ptr c), some (.int i), some (.int z), none] M2 := by
      intro M2 nd2 a1 a2 f nx k
      cases k with
      | false =>
        refine g_iff' rfl ?_
        walk_at "dl"
        exact ModR.int h0 (fin i M2 nd2 a1 a2 f)
      | true =>
        refine g_ift rfl ?_
        walk_at "dl"
        obtain ⟨M3, U3⟩ := upd_ex (n := .lst (srcD c flags (i + 1) n s)) nd2 a1
        refine SetQ.lst (j := 2) U3.up (by rfl) ?_
        walk_at "dl"
        exact ModR.int h0 (fin (i + 1) M3 U3.nd U3.at_ (U3.fr _ _ (not_mem1 (Ne.symm ne)) a2) (f.trans U3.fr.l2))
    have f1 : Fr [p, c] M M1 := U1.fr.r2
    walk_at "dl"
    refine ixq_ptr hp1 (e := .lst (flags.map .bl)) (by rfl) ?_
    walk_at "dl"
    refine ixq_lst (atI_nat' rfl hf') ?_
    walk_at "dl"
    cases fl with
    | false =>
      refine g_ift rfl ?_
      exact step M1 U1.nd hp1 h1c f1 _ true
    | true =>
      refine g_iff' rfl ?_
      walk_at "dl"
      refine ixq_ptr h1c (atI_nat' rfl hz1) ?_
      walk_at "dl"
      exact step M1 U1.nd hp1 h1c f1 _ _
  · walk_at "dl"
    refine ixq_ptr hp (e := .int s) (by rfl) ?_
    walk_at "dl"
    by_cases hs : s = 0
    · refine g_ift (by simp [hs]) ?_
      walk_at "dl"
      exact kQ _ _ (Int.le_refl _) h0 nd ⟨⟨cells, flags, i, n, s, hp, hc, hl, h63, hn0, by omega, hs0, hs1⟩, ne⟩ Fr.refl
    · refine g_iff' (by simp [hs]) ?_
      walk_at "dl"
      refine ixq_ptr hp (e := .int n) (by rfl) ?_
      walk_at "dl"
      obtain ⟨M3, U3⟩ := upd_ex (n := .lst (srcD c flags i (n + 1) s)) nd hp
      refine SetQ.lst (j := 3) U3.up (by rfl) ?_
      have hc3 := U3.fr _ _ (not_mem1 (Ne.symm ne)) hc
      have S3 : Src p c (b + 1) M3 := ⟨⟨cells, flags, i, n + 1, s, U3.at_, hc3, hl, h63, by omega, by omega, hs0, hs1⟩, ne⟩
      walk_at "dl"
      refine ixq_ptr U3.at_ (e := .int s) (by rfl) ?_
      walk_at "dl"
      refine ixq_ptr U3.at_ (e := .int (n + 1)) (by rfl) ?_
      walk_at "dl"
      refine MulR.int (wide_mul (a := 40) (b := 40) (wide_of (by omega) (by omega)) (by decide) (by decide) (by decide) (by decide)) ?_
      walk_at "dl"
      refine MulR.int (wide_mul (a := 60) (b := 40) (wide_of (by omega) (by omega)) (by decide) (by decide) (by decide) (by decide)) ?_
      walk_at "dl"
      refine ModR.int (by decide) ?_
      have m0 := Int.emod_nonneg ((s + (n + 1) * 7919) * 48271) (b := 2147483647) (by decide)
      have m1 := Int.emod_lt_of_pos ((s + (n + 1) * 7919) * 48271) (b := 2147483647) (by decide)
      generalize (s + (n + 1) * 7919) * 48271 % 2147483647 = mx at m0 m1 ⊢
      walk_at "dl"
      refine MulR.int (wide_mul (a := 40) (b := 40) (wide_of (by omega) (by omega)) (wide_of (by omega) (by omega)) (by decide) (by decide) (by decide)) ?_
      walk_at "dl"
      refine ModR.int (by decide) ?_
      walk_at "dl"
      refine DivR.int (wide_div (b := 10) (by decide) (by decide) (by decide) (by decide)) ?_
      walk_at "dl"
      refine ModR.int h0 ?_
      exact kQ _ _ (Int.emod_nonneg _ (by omega)) (Int.emod_lt_of_pos _ h0) U3.nd S3 U3.fr.l2
end DL
namespace DL
variable [Wd]
open PySem L2 PySem.Spec PyProof.Rows
section
variable {M : Mem} {ρ : Rho} {st : Mem → Prop} {de dk dv : DE} {dt : DT} {j : Nat}
/-! ### comprehensions that change nothing -/
theorem g_t {a b : Prop} (h : a) : if true = true then a else b := by rw [if_pos rfl]; exact h
theorem fil_t {α : Type} (xs : List α) : xs.filter (fun _ => true) = xs := List.filter_eq_self.mpr fun _ _ => rfl
theorem go_cons {ct : CT} {Q : List D → Mem → Prop} {d : D} {ds acc : List D} : goC ct dt de st ρ Q (d :: ds) acc M = (st M ∧ ct.go d ρ (fun ρ' => dt ρ' M (fun b M2 => if b = true then de ρ' M2 (fun e M3 => goC ct dt de st ρ Q ds (acc ++ [e]) M3) noE else goC ct dt de st ρ Q ds acc M2) noE)) := rfl
theorem lc_fil {α : Type} {ct : CT} (g f : α → D) (p : α → Bool) {Q : List D → Mem → Prop} (hst : st M) : ∀ {xs : List α} {acc : List D}, (∀ x ∈ xs, ∀ (P1 : D → Mem → Prop) (P0 : Mem → Prop), (p x = true → P1 (f x) M) → (p x = false → P0 M) → ct.go (g x) ρ (fun ρ' => dt ρ' M (fun b M2 => if b = true then de ρ' M2 P1 noE else P0 M2) noE)) →
    Q (acc ++ (xs.filter p).map f) M → goC ct dt de st ρ Q (xs.map g) acc M
  | [], acc, _, hQ => ⟨hst, by simpa using hQ⟩
  | x :: xs, acc, h, hQ => by
    rw [List.map_cons, go_cons]
    refine ⟨hst, h x List.mem_cons_self _ _ (fun hp => ?_) fun hp => ?_⟩
    · refine lc_fil g f p hst (fun y hy => h y (List.mem_cons_of_mem _ hy)) ?_
      rw [List.filter_cons, if_pos hp] at hQ
      simpa using hQ
    · refine lc_fil g f p hst (fun y hy => h y (List.mem_cons_of_mem _ hy)) ?_
      rw [List.filter_cons, if_neg (by rw [hp]; exact Bool.false_ne_true)] at hQ
      exact hQ
/-- [e for x in xs] -/
theorem lc_map {α : Type} (g f : α → D) {xs : List α} {Q : List D → Mem → Prop} (hst : st M) (h : ∀ x ∈ xs, ∀ P1 : D → Mem → Prop, P1 (f x) M → de (put ρ j (some (g x))) M P1 noE) (hQ : Q (xs.map f) M) : goC (.nm j) dYes de st ρ Q (xs.map g) [] M := by
  refine lc_fil g f (fun _ => true) hst (fun x hx P1 P0 h1 _ => ?_) (by rw [fil_t]; exact hQ)
  show (if true = true then de (put ρ j (some (g x))) M P1 noE else P0 M)
  rw [if_pos rfl]
  exact h x hx P1 (h1 rfl)
/-- [e for a, b, .. in xs] -/
theorem lc_mapT {α : Type} {is : List Nat} (g f : α → D) (t : α → List D) {xs : List α} {Q : List D → Mem → Prop} (hst : st M) (h : ∀ x ∈ xs, g x = .tup (t x) ∧ (t x).length = is.length ∧ ∀ P1 : D → Mem → Prop, P1 (f x) M → de (putAll ρ is (t x)) M P1 noE) (hQ : Q (xs.map f) M) : goC (.tp is) dYes de st ρ Q (xs.map g) [] M := by
  refine lc_fil g f (fun _ => true) hst (fun x hx P1 P0 h1 _ => ?_) (by rw [fil_t]; exact hQ)
  obtain ⟨a1, a2, a3⟩ := h x hx
  refine ⟨t x, a1, a2, ?_⟩
  show (if true = true then de (putAll ρ is (t x)) M P1 noE else P0 M)
  rw [if_pos rfl]
  exact a3 P1 (h1 rfl)
/-- [e for x in xs if t] -/
theorem lc_if {α : Type} (g f : α → D) (p : α → Bool) {xs : List α} {Q : List D → Mem → Prop} (hst : st M) (ht : ∀ x ∈ xs, ∀ P : Bool → Mem → Prop, P (p x) M → dt (put ρ j (some (g x))) M P noE) (h : ∀ x ∈ xs, p x = true → ∀ P1 : D → Mem → Prop, P1 (f x) M → de (put ρ j (some (g x))) M P1 noE)
    (hQ : Q ((xs.filter p).map f) M) : goC (.nm j) dt de st ρ Q (xs.map g) [] M := by
  refine lc_fil g f p hst (fun x hx P1 P0 h1 h0 => ?_) hQ
  refine ht x hx _ ?_
  cases e : p x with
  | true => rw [if_pos rfl]; exact h x hx e P1 (h1 e)
  | false => rw [if_neg Bool.false_ne_true]; exact h0 e
theorem go_consD {ct : CT} {Q : List (Key × D) → Mem → Prop} {d : D} {ds : List D} {acc : List (Key × D)} : goD ct dt dk dv st ρ Q (d :: ds) acc M = (st M ∧ ct.go d ρ (fun ρ' => dt ρ' M (fun b M2 => if b = true then dk ρ' M2 (fun y M3 => ∃ k, y = keyD k ∧ dv ρ' M3 (fun e M4 => goD ct dt dk dv st ρ Q ds (putD acc k e) M4) noE) noE else goD ct dt dk dv st ρ Q ds acc M2) noE)) := rfl
/-- {k: v for x in xs} -/
theorem dc_map {α : Type} (g : α → D) (k : α → Key) (f : α → D) {Q : List (Key × D) → Mem → Prop} (hst : st M) : ∀ {xs : List α} {acc : List (Key × D)}, (∀ x ∈ xs, (∀ P1 : D → Mem → Prop, P1 (keyD (k x)) M → dk (put ρ j (some (g x))) M P1 noE) ∧ ∀ P1 : D → Mem → Prop, P1 (f x) M → dv (put ρ j (some (g x))) M P1 noE) →
    Q (xs.foldl (fun a x => putD a (k x) (f x)) acc) M → goD (.nm j) dYes dk dv st ρ Q (xs.map g) acc M
  | [], acc, _, hQ => ⟨hst, hQ⟩
  | x :: xs, acc, h, hQ => by
    rw [List.map_cons, go_consD]
    have key : dk (put ρ j (some (g x))) M (fun y M3 => ∃ kk, y = keyD kk ∧ dv (put ρ j (some (g x))) M3 (fun e M4 => goD (.nm j) dYes dk dv st ρ Q (xs.map g) (putD acc kk e) M4) noE) noE :=
      (h x List.mem_cons_self).1 _ ⟨k x, rfl, (h x List.mem_cons_self).2 _ (dc_map g k f hst (fun y hy => h y (List.mem_cons_of_mem _ hy)) hQ)⟩
    exact ⟨hst, @g_t _ _ (goD (.nm j) dYes dk dv st ρ Q (xs.map g) acc M) key⟩
end
/-! ### own errors -/
/-- __init__ of an error with one field -/
def spErr (C : Addr) (f : Str) : SpD := fun ds M Q _ => ∃ q d, ds = [.ptr q, d] ∧ (q, MO.raw (exo q C none)) ∈ M ∧ Nd M ∧ ∀ dx M', Free dx M → Upd q (.raw (exo q C none)) (.raw (exo q C (some dx))) M M' → Q .non ((dx, .exd dx [(f, d)]) :: M')
theorem pureErr {K : PySem.W.Frag} {C : Addr} {f : Str} {N : List Str} {ds : List D} {M : Mem} {Qd : D → Mem → Prop} {Ed : XD} (T : OexC K C) (nf : PySem.W.findIn K (.ref C) f = some none) (hN : N.length = 2) (h : spErr C f ds M Qd Ed) :
    sOst K f (dVar 0) (dVar 1) (fun _ M' => Qd .non M') Qd (fun _ _ => False) (fun _ _ => False) (fun C dd _ M' => Ed C dd M') (start0 N ds) M := by
  obtain ⟨q, d, rfl, hq, nd, kQ⟩ := h
  refine ⟨d, rfl, .ptr q, rfl, q, C, rfl, T, nf, .inl ⟨hq, fun dx hx => ?_⟩⟩
  obtain ⟨M', U⟩ := upd_ex (n := .raw (exo q C (some dx))) nd hq
  exact ⟨M', U.up, kQ dx M' hx U.up⟩
theorem g_raise {C : Addr} {f : Str} {dA : DA} {ρ : Rho} {M : Mem} {nx : NX} {rt : D → Mem → Prop} {bk ct : NX} {ex : Addr → Addr → Rho → Mem → Prop} (h : dA ρ M (fun ds M1 => ∃ d, ds = [d] ∧ Nd M1 ∧ ∀ dx, Free dx M1 → ex C dx ρ ((dx, .xd [(f, d)]) :: M1)) (fun C dd M' => ex C dd ρ M'))
    (mono : ∀ Q Q' : List D → Mem → Prop, (∀ ds M, Q ds M → Q' ds M) → dA ρ M Q (fun C dd M' => ex C dd ρ M') → dA ρ M Q' (fun C dd M' => ex C dd ρ M')) : sRaise C (spErr C f) dA nx rt bk ct ex ρ M := by
  refine mono _ _ (fun ds M1 ⟨d, e, nd, k⟩ => ?_) h
  subst e
  refine ⟨by simp, fun q hq => ⟨q, d, rfl, List.mem_cons_self, nd_new hq nd, fun dx M' hx u => ?_⟩⟩
  cases u with
  | tail u => exact absurd u.old (hq _)
  | head =>
    have hx1 : Free dx M1 := fun m hm => hx m (List.mem_cons_of_mem _ hm)
    exact ⟨rfl, dx, _, _, _, .tail .head, .head, hx1, k dx hx1⟩
end DL
namespace DL
variable [Wd]
open PySem L2 PySem.Spec PyProof.Rows
section
variable {ρ : Rho} {M : Mem} {E : XD}
theorem g_lc {di : DI} {ct : CT} {dt : DT} {de : DE} {vs : List Nat} {Q : D → Mem → Prop} (q : di ρ M (fun ds st M1 => ds.length < sizeLine ∧ goC ct dt de st (wipeD ρ vs) (fun acc M2 => NewL acc M2 Q) ds [] M1) E) : dLc di ct dt de vs ρ M Q E := q
theorem g_lc2 {di di1 : DI} {ct ct1 : CT} {dt dt1 : DT} {de : DE} {vs vs1 : List Nat} {Q : D → Mem → Prop} (q : di ρ M (fun ds st M1 => goC2 ct dt di1 ct1 dt1 de vs1 st (wipeD ρ vs) (fun acc M2 => NewL acc M2 Q) ds [] M1) E) : dLc2 di ct dt di1 ct1 dt1 de vs vs1 ρ M Q E := q
theorem g_dc {di : DI} {ct : CT} {dt : DT} {dk dv : DE} {vs : List Nat} {Q : D → Mem → Prop} (q : di ρ M (fun ds st M1 => ds.length < sizeLine ∧ goD ct dt dk dv st (wipeD ρ vs) (fun acc M2 => NewM (.dic acc) (.dic acc) M2 Q) ds [] M1) E) : dDc di ct dt dk dv vs ρ M Q E := q
theorem g_iany {de : DE} {Q : List D → (Mem → Prop) → Mem → Prop} (q : de ρ M (fun d M' => ∃ ds st, IsI M' d ds st ∧ Q ds st M') E) : iAny de ρ M Q E := q
theorem g_irg1 {dA : DA} {Q : List D → (Mem → Prop) → Mem → Prop} (q : dA ρ M (fun ds M' => ∃ j : Int, ds = [.int j] ∧ -(2 ^ 62) ≤ j ∧ j < 2 ^ 62 ∧ Q (rng 0 j.toNat) (fun _ => True) M') E) : iRg1 dA ρ M Q E := q
theorem g_sl {de : DE} {l h : DO} {Q : D → Mem → Prop} (q : de ρ M (fun d M1 => l ρ M1 (fun lo M2 => h ρ M2 (fun hi M3 => SlQ M3 Q lo hi d) E) E) E) : dSl de l h ρ M Q E := q
theorem g_onone {Q : Option Int → Mem → Prop} (q : Q none M) : oNone ρ M Q E := q
theorem g_osome {de : DE} {Q : Option Int → Mem → Prop} (q : de ρ M (fun d M' => ∃ i, d = .int i ∧ Q (some i) M') E) : oSome de ρ M Q E := q
theorem g_con {K : PySem.W.Frag} {de : DE} {f : Str} {Q : D → Mem → Prop} (q : de ρ M (fun d M' => ∃ C mc i u, d = .ptr C ∧ ClX.CRead K C mc ∧ ClX.CVal K C mc f (.int i) u ∧ Q (.int i) M') E) : dCon K de f ρ M Q E := q
theorem g_bm {T : String} {r : DM} {do_ : DE} {dA : DA} {Q : D → Mem → Prop} (q : do_ ρ M (fun d M1 => TyD T M1 d ∧ dA ρ M1 (fun ds M2 => r d ds M2 Q) E) E) : dBM T r do_ dA ρ M Q E := q
theorem g_andV {da db : DE} {Q : D → Mem → Prop} (q : da ρ M (fun d M1 => ∃ c, d = .bl c ∧ if c = true then db ρ M1 Q E else Q (.bl false) M1) E) : dAndV da db ρ M Q E := q
theorem g_notV {da : DE} {Q : D → Mem → Prop} (q : da ρ M (fun d M1 => ∃ c, d = .bl c ∧ Q (.bl (!c)) M1) E) : dNotV da ρ M Q E := q
theorem g_make {C : Addr} {sd : SpD} {dA : DA} {Q : D → Mem → Prop} (q : dA ρ M (fun ds M1 => ∀ x, (∀ m, (x, m) ∉ M1) → sd (.ptr x :: ds) ((x, .obj C []) :: M1) (fun d M2 => d = .non ∧ Q (.ptr x) M2) E) E) : dMake C sd dA ρ M Q E := q
theorem g_meth {C : Addr} {m : Str} {sd : SpD} {do_ : DE} {dA : DA} {Q : D → Mem → Prop} (q : do_ ρ M (fun d M1 => ∃ es, IsO M1 d C es ∧ NoF m es ∧ dA ρ M1 (fun ds M2 => sd (d :: ds) M2 Q E) E) E) : dMeth C m sd do_ dA ρ M Q E := q
theorem g_listint {k : Int} {R : Int → Prop} (q : R k) : ∃ i, [D.int k] = [.int i] ∧ R i := ⟨k, rfl, q⟩
end
section
variable {ρ : Rho} {M : Mem} {nx : NX} {rt : D → Mem → Prop} {bk ct : NX} {ex : Addr → Addr → Rho → Mem → Prop}
theorem g_fldS {K : PySem.W.Frag} {do_ de : DE} {f : Str} (q : de ρ M (fun d M1 => do_ ρ M1 (fun x M2 => ∃ q C es es' M3, x = .ptr q ∧ FldOk K C f ∧ es.length < 1000 ∧ Put es f d es' ∧ Upd q (.obj C es) (.obj C es') M2 M3 ∧ nx ρ M3) (fun C dd M' => ex C dd ρ M')) (fun C dd M' => ex C dd ρ M')) : sFldD K do_ de f nx rt bk ct ex ρ M := q
theorem g_gsub {do_ di_ : DE} {d : D} {Q : NX} (q : do_ ρ M (fun o M1 => di_ ρ M1 (fun i M2 => SetQ M2 d (fun M3 => Q ρ M3) o i) fun _ _ _ => False) fun _ _ _ => False) : gSub do_ di_ d ρ M Q := q
end
end DL
local macro_rules | `(tactic| walk_at "dl") => `(tactic| repeat (first | (with_reducible first | refine DL.g_seq ?_ | refine DL.g_asg ?_ | refine DL.g_sif ?_ | refine DL.g_ret ?_ | refine DL.g_retN ?_ | refine DL.g_drop ?_ | refine DL.g_next ?_ | refine DL.g_cont ?_ | refine DL.g_brk ?_ | refine DL.g_sfor ?_ | refine DL.g_op ?_ | refine DL.g_c ?_ | refine DL.g_nil ?_ | refine DL.g_cons ?_ | refine DL.g_cb ?_ | refine DL.g_call ?_ | refine DL.g_tup ?_ | refine DL.g_lst ?_ | refine DL.g_B ?_ | refine DL.g_not ?_ | refine DL.g_and ?_ | refine DL.g_or ?_ | refine DL.g_if ?_ | refine DL.g_bl ?_ | refine DL.g_in ?_ | refine DL.g_nm ?_ | refine DL.g_fld ?_ | refine DL.IntB.int ?_ | refine DL.AddR.int ?_ | refine DL.SubR.int ?_ | refine DL.EqR.int ?_ | refine DL.EqR.str ?_ | refine DL.EqR.bl ?_ | refine DL.IntC.int ?_ | refine DL.IsR.non ?_ | refine DL.g_lc ?_ | refine DL.g_lc2 ?_ | refine DL.g_dc ?_ | refine DL.g_iany ?_ | refine DL.g_iitm ?_ | refine DL.g_irg1 ?_ | refine DL.g_sl ?_ | refine DL.g_onone ?_ | refine DL.g_osome ?_ | refine DL.g_con ?_ | refine DL.g_bm ?_ | refine DL.g_andV ?_ | refine DL.g_orV ?_ | refine DL.g_notV ?_ | refine DL.g_make ?_ | refine DL.g_meth ?_ | refine DL.g_listint ?_ | refine DL.g_fldS ?_ | refine DL.g_gsub ?_) | (refine DL.g_var (by first | assumption | rfl) ?_)))
namespace DL
variable [Wd]
open PySem L2 PySem.Spec PyProof.Rows
/-! ### the source -/
def dSource : DS := sSeq (sAsg (dLc (iAny (dSl (dVar 0) (oNone) (oSome (dC (.int 63))))) (.nm 2) (dYes) (dCB rInt (dCons (dVar 2) (dNil))) [2]) (gNm 1)) (sRet (dLst (dCons (dVar 1) (dCons (dLc (iAny (dVar 1)) (.nm 2) (dYes) (dOp rGe (dVar 2) (dOp rPow (dC (.int 10)) (dC (.int 18)))) [2]) (dCons (dC (.int 0)) (dCons (dC (.int 0)) (dCons (dOp rMod (dCB rInt (dCons (dCB rSum (dCons (dVar 1) (dNil))) (dNil))) (dC (.int 1000003))) (dNil))))))))
def spSource : SpD := fun ds M Q _ => ∃ ns : List Int, ds = [.rol (ns.map .int)] ∧ ns.length ≤ 63 ∧ Nd M ∧ ∀ p c M', Free p M → Free c M → Nd M' → Src p c 0 M' → Fr [] M M' → Q (.ptr p) M'
theorem cut_map {α : Type} (f : α → D) (xs : List α) (hi : Option Int) : ∃ k, cutD (xs.map f) none hi = (xs.take k).map f := by
  unfold cutD
  refine ⟨HT.sIx (xs.map f).length (xs.map f).length hi - HT.sIx (xs.map f).length 0 none, ?_⟩
  have e : HT.sIx (xs.map f).length 0 none = 0 := rfl
  rw [e, List.drop_zero, List.map_take]
theorem lt_line {n : Nat} (h : n ≤ 1000000) : n < sizeLine := by rw [sizeLine_eq]; omega
theorem pureSource {ds : List D} {M : Mem} {Qd : D → Mem → Prop} {Ed : XD} {a b c : Str} (h : spSource ds M Qd Ed) : dSource (fun _ M' => Qd .non M') Qd (fun _ _ => False) (fun _ _ => False) (fun C dd _ M' => Ed C dd M') (start0 [a, b, c] ds) M := by
  obtain ⟨ns, rfl, hl, nd, kQ⟩ := h
  unfold dSource
  walk_at "dl"
  obtain ⟨k, ek⟩ := cut_map D.int ns (some 63)
  have hk : (ns.take k).length ≤ 63 := by rw [List.length_take]; omega
  generalize ns.take k = cs at ek hk
  refine .lst (.rol _) (.inl ?_)
  rw [ek]
  walk_at "dl"
  refine ⟨_, _, .lst (.lst _), lt_line (by rw [List.length_map]; omega), lc_map D.int D.int trivial (fun x _ P1 h1 => ?_) (.inr fun c hc => ?_)⟩
  · walk_at "dl"
    exact h1
  · walk_at "dl"
    have hm : (c, MO.lst (cs.map .int)) ∈ (c, MO.lst (cs.map .int)) :: M := List.mem_cons_self
    refine ⟨_, _, .lst (.ptr hm), lt_line (by rw [List.length_map]; omega), lc_map D.int (fun x => .bl (decide (10 ^ 18 ≤ x))) hm (fun x _ P1 h1 => ?_) (.inl ?_)⟩
    · walk_at "dl"
      refine PowR.int ⟨by decide, by decide, by decide⟩ ?_
      walk_at "dl"
      exact h1
    · walk_at "dl"
      refine SumC.lst (ns := cs) (.ptr hm) ?_
      walk_at "dl"
      refine ModR.int (by decide) ?_
      walk_at "dl"
      refine ⟨len_le_line (n := 5), .inr fun p hp => ?_⟩
      have m0 := Int.emod_nonneg cs.sum (b := 1000003) (by decide)
      have m1 := Int.emod_lt_of_pos cs.sum (b := 1000003) (by decide)
      have ne : p ≠ c := fun e => hp _ (by rw [e]; exact List.mem_cons_self)
      refine kQ p c _ (fun m hm => hp m (List.mem_cons_of_mem _ hm)) hc (nd_new hp (nd_new hc nd)) ⟨⟨cs, cs.map fun x => decide (10 ^ 18 ≤ x), 0, 0, _, ?_, List.mem_cons_of_mem _ hm, by rw [List.length_map], hk, Int.le_refl _, Int.le_refl _, m0, m1⟩, ne⟩ (Fr.refl.cons.cons)
      unfold srcD
      rw [List.map_map]
      exact List.mem_cons_self
/-! ### names -/
def dNames (sd : SpD) : DS := sSeq (sAsg (dC (.str ("abcdefghijklmnopqrstuvwxyz" : Str))) (gNm 2)) (sSeq (sAsg (dCall sd (dCons (dVar 0) (dCons (dC (.int 4)) (dNil)))) (gNm 3)) (sSeq (sAsg (dCall sd (dCons (dVar 0) (dCons (dC (.int 4)) (dNil)))) (gNm 4)) (sSeq (sAsg (dCall sd (dCons (dVar 0) (dCons (dC (.int 2)) (dNil)))) (gNm 5)) (sSeq (sAsg (dCall sd (dCons (dVar 0) (dCons (dC (.int 26)) (dNil)))) (gNm 6)) (sSeq (sAsg (dOp rIx (dVar 2) (dCall sd (dCons (dVar 0) (dCons (dC (.int 26)) (dNil))))) (gNm 7)) (sRet (dLc (iRg1 (dCons (dVar 1) (dNil))) (.nm 8) (dYes) (dOp rAdd (dOp rAdd (dOp rMul (dVar 7) (dVar 3)) (dOp rIx (dVar 2) (dOp rMod (dCB rInt (dCons (dOp rAdd (dVar 6) (dVar 8)) (dNil))) (dC (.int 26))))) (dOp rMul (dVar 7) (dOp rAdd (dVar 4) (dOp rMul (dVar 5) (dOp rMod (dCB rInt (dCons (dVar 8) (dNil))) (dC (.int 3))))))) [8])))))))
/-- the letters of a made name: so long, small letters -/
structure NameOk (x : Str) : Prop where
  l1 : 1 ≤ x.length
  l2 : x.length ≤ 9
  lo : ∀ c ∈ x.cps, 97 ≤ c ∧ c ≤ 122
def spNames : SpD := fun ds M Q _ => ∃ (p c : Addr) (b n : Nat), ds = [.ptr p, .int n] ∧ n ≤ 26 ∧ Nd M ∧ b < 10000000 ∧ Src p c b M ∧ ∀ (xs : List Str) a M', xs.length = n → xs.Nodup → (∀ x ∈ xs, NameOk x) → Nd M' → Src p c (b + 5) M' → Free a M → a ≠ p → a ≠ c → (a, MO.lst (xs.map .str)) ∈ M' → Fr [p, c] M M' → Q (.ptr a) M'
theorem rep_one (f : Nat) (n : Int) : (repS ⟨#[f]⟩ n).cps = (List.replicate n.toNat f).toArray := by
  unfold repS
  show (List.replicate n.toNat #[f]).foldl (· ++ ·) #[] = _
  have k : ∀ (m : Nat) (b : Array Nat), (List.replicate m #[f]).foldl (· ++ ·) b = b ++ (List.replicate m f).toArray := by
    intro m
    induction m with
    | zero => intro b; simp
    | succ m ih =>
      intro b
      rw [List.replicate_succ, List.foldl_cons, ih, List.replicate_succ, Array.append_assoc]
      congr 1
      simp
  rw [k]
  simp
def letters : Str := "abcdefghijklmnopqrstuvwxyz"
theorem letter_at (i : Nat) (h : i < 26) : letters.cps.toList[i]? = some (97 + i) := by
  have k : ∀ i : Fin 26, letters.cps.toList[i.val]? = some (97 + i.val) := by decide +kernel
  exact k ⟨i, h⟩
/-- f .. f l f .. f -/
def nameS (f l m n : Nat) : Str := ⟨(List.replicate m f ++ [l] ++ List.replicate n f).toArray⟩
theorem nameS_ok {f l m n : Nat} (hf : 97 ≤ f ∧ f ≤ 122) (hl : 97 ≤ l ∧ l ≤ 122) (h : m + n ≤ 8) : NameOk (nameS f l m n) := by
  have sz : (nameS f l m n).length = m + 1 + n := by
    show (List.replicate m f ++ [l] ++ List.replicate n f).toArray.size = _
    simp
    omega
  refine ⟨by omega, by omega, fun c hc => ?_⟩
  have hc' : c ∈ List.replicate m f ++ [l] ++ List.replicate n f := by
    have : c ∈ (List.replicate m f ++ [l] ++ List.replicate n f).toArray := hc
    simpa using this
  rcases List.mem_append.mp hc' with h1 | h1
  · rcases List.mem_append.mp h1 with h2 | h2
    · rw [(List.mem_replicate.mp h2).2]; exact hf
    · rw [List.mem_singleton.mp h2]; exact hl
  · rw [(List.mem_replicate.mp h1).2]; exact hf
theorem nameS_at {f l m n : Nat} : (nameS f l m n).cps.toList[m]? = some l := by
  show (List.replicate m f ++ [l] ++ List.replicate n f)[m]? = some l
  rw [List.append_assoc, List.getElem?_append_right (by simp)]
  simp
theorem spDraw_of {p c : Addr} {many : Int} {b : Nat} {M : Mem} {Q : D → Mem → Prop} {E : XD} (h0 : 0 < many) (h1 : many < 2 ^ 62) (nd : Nd M) (hb : b < 100000000) (S : Src p c b M) (k : ∀ r M', 0 ≤ r → r < many → Nd M' → Src p c (b + 1) M' → Fr [p, c] M M' → Q (.int r) M') : spDraw [.ptr p, .int many] M Q E :=
  ⟨p, c, many, b, rfl, h0, h1, nd, hb, S, k⟩
theorem pureNames {ds : List D} {M : Mem} {Qd : D → Mem → Prop} {Ed : XD} {x1 x2 x3 x4 x5 x6 x7 x8 x9 : Str} (h : spNames ds M Qd Ed) : dNames spDraw (fun _ M' => Qd .non M') Qd (fun _ _ => False) (fun _ _ => False) (fun C dd _ M' => Ed C dd M') (start0 [x1, x2, x3, x4, x5, x6, x7, x8, x9] ds) M := by
  obtain ⟨p, c, b, n, rfl, hn, nd, hb, S, kQ⟩ := h
  unfold dNames
  walk_at "dl"
  refine spDraw_of (by decide) (by decide) nd (by omega) S fun r1 M1 a1 b1 nd1 S1 f1 => ?_
  walk_at "dl"
  refine spDraw_of (by decide) (by decide) nd1 (by omega) S1 fun r2 M2 a2 b2 nd2 S2 f2 => ?_
  walk_at "dl"
  refine spDraw_of (by decide) (by decide) nd2 (by omega) S2 fun r3 M3 a3 b3 nd3 S3 f3 => ?_
  walk_at "dl"
  refine spDraw_of (by decide) (by decide) nd3 (by omega) S3 fun r4 M4 a4 b4 nd4 S4 f4 => ?_
  walk_at "dl"
  refine spDraw_of (by decide) (by decide) nd4 (by omega) S4 fun r5 M5 a5 b5 nd5 S5 f5 => ?_
  have at_l : ∀ r : Int, 0 ≤ r → r < 26 → atI letters.cps.toList r = some (97 + r.toNat) := fun r h1 h2 => atI_nat' (j := r.toNat) (by omega) (letter_at _ (by omega))
  refine .str (by show letters.length ≤ sizeLine; exact len_le_line (n := letters.length) (by decide +kernel)) (at_l r5 a5 b5) ?_
  walk_at "dl"
  refine ⟨by omega, by omega, ?_⟩
  have f05 : Fr [p, c] M M5 := (((f1.trans f2).trans f3).trans f4).trans f5
  let nm : Nat → Str := fun i => nameS (97 + r5.toNat) (97 + (r4.toNat + i) % 26) r1.toNat (r2.toNat + r3.toNat * (i % 3))
  have hrng : rng 0 ((n : Nat) : Int).toNat = (List.range n).map fun (i : Nat) => D.int (i : Int) := by
    unfold rng
    rw [Int.toNat_natCast]
    exact List.map_congr_left fun i _ => by rw [Int.zero_add]
  rw [hrng]
  refine ⟨lt_line (by rw [List.length_map, List.length_range]; omega), lc_map (fun i : Nat => D.int (i : Int)) (fun i => D.str (nm i)) trivial (fun i hi P1 h1 => ?_) (.inr fun a ha => ?_)⟩
  · have hi' : i < n := List.mem_range.mp hi
    have e1 : (r4 + (i : Int)) % 26 = (((r4.toNat + i) % 26 : Nat) : Int) := by omega
    have e2 : (i : Int) % 3 = ((i % 3 : Nat) : Int) := by omega
    have i3 : i % 3 ≤ 2 := by omega
    have hm : r3 * ((i % 3 : Nat) : Int) = ((r3.toNat * (i % 3) : Nat) : Int) := by
      rw [Int.natCast_mul]
      congr 1
      omega
    have hle : r3.toNat * (i % 3) ≤ 1 * 2 := Nat.mul_le_mul (by omega) i3
    walk_at "dl"
    refine MulR.str (by show (1 : Nat) ≤ 1000; decide) a1 (by omega) ?_
    walk_at "dl"
    refine ModR.int (by decide) ?_
    refine .str (by show letters.length ≤ sizeLine; exact len_le_line (n := letters.length) (by decide +kernel)) (by rw [e1]; exact at_l _ (by omega) (by omega)) ?_
    have l1 : (repS ⟨#[97 + r5.toNat]⟩ r1).length ≤ 3 := by rw [repS_length]; show 1 * r1.toNat ≤ 3; omega
    refine AddR.str ?_ ?_
    · show _ + 1 ≤ sizeLine
      exact len_le_line (by omega)
    walk_at "dl"
    refine ModR.int (by decide) ?_
    refine MulR.int (wide_mul (a := 10) (b := 10) (wide_of a3 (by omega)) (by rw [e2]; exact wide_of (by omega) (by omega)) (by decide) (by decide) (by decide)) ?_
    walk_at "dl"
    rw [e2, hm]
    refine MulR.str (by show (1 : Nat) ≤ 1000; decide) (by omega) (by omega) ?_
    have l2 : (repS ⟨#[97 + r5.toNat]⟩ (r2 + ((r3.toNat * (i % 3) : Nat) : Int))).length ≤ 5 := by rw [repS_length]; show 1 * _ ≤ 5; omega
    refine AddR.str ?_ ?_
    · have l3 : ∀ x y : Str, (x ++ y).length = x.length + y.length := fun x y => Array.size_append
      rw [l3]
      have l4 : (⟨#[97 + (((r4.toNat + i) % 26 : Nat) : Int).toNat]⟩ : Str).length = 1 := rfl
      rw [l4]
      exact len_le_line (by omega)
    have e3 : (repS ⟨#[97 + r5.toNat]⟩ r1 ++ ⟨#[97 + (((r4.toNat + i) % 26 : Nat) : Int).toNat]⟩ ++ repS ⟨#[97 + r5.toNat]⟩ (r2 + ((r3.toNat * (i % 3) : Nat) : Int)) : Str) = nm i := by
      show (⟨((repS ⟨#[97 + r5.toNat]⟩ r1).cps ++ #[97 + (((r4.toNat + i) % 26 : Nat) : Int).toNat]) ++ (repS ⟨#[97 + r5.toNat]⟩ (r2 + ((r3.toNat * (i % 3) : Nat) : Int))).cps⟩ : Str) = _
      rw [rep_one, rep_one, Int.toNat_natCast, show (r2 + ((r3.toNat * (i % 3) : Nat) : Int)).toNat = r2.toNat + r3.toNat * (i % 3) by omega]
      show _ = (⟨_⟩ : Str)
      congr 1
      simp
    rw [e3]
    exact h1
  · have hd : ∀ i j, i < n → j < n → nm i = nm j → i = j := fun i j hi hj e => by
      have h1 := nameS_at (f := 97 + r5.toNat) (l := 97 + (r4.toNat + i) % 26) (m := r1.toNat) (n := r2.toNat + r3.toNat * (i % 3))
      have h2 := nameS_at (f := 97 + r5.toNat) (l := 97 + (r4.toNat + j) % 26) (m := r1.toNat) (n := r2.toNat + r3.toNat * (j % 3))
      have e' : nameS (97 + r5.toNat) (97 + (r4.toNat + i) % 26) r1.toNat (r2.toNat + r3.toNat * (i % 3)) = nameS (97 + r5.toNat) (97 + (r4.toNat + j) % 26) r1.toNat (r2.toNat + r3.toNat * (j % 3)) := e
      rw [e', h2] at h1
      have h3 := Option.some.inj h1
      omega
    have ep : ((List.range n).map fun i => D.str (nm i)) = ((List.range n).map nm).map .str := by rw [List.map_map]; rfl
    have pM : ∃ m, (p, m) ∈ M5 := by obtain ⟨_, _, _, _, _, h, _⟩ := S5.ex; exact ⟨_, h⟩
    have cM : ∃ m, (c, m) ∈ M5 := by obtain ⟨_, _, _, _, _, _, h, _⟩ := S5.ex; exact ⟨_, h⟩
    obtain ⟨_, hpM⟩ := pM
    obtain ⟨_, hcM⟩ := cM
    have ap : a ≠ p := fun e => ha _ (by rw [e]; exact hpM)
    have ac : a ≠ c := fun e => ha _ (by rw [e]; exact hcM)
    refine kQ ((List.range n).map nm) a _ (by simp) ?_ (fun x hx => ?_) (nd_new ha nd5) (S5.fr (ps := []) Fr.refl.cons (by simp) (by simp)) (fun m hm => ha m (f05 a m (not_mem2 ap ac) hm)) ap ac ?_ f05.cons
    · refine List.pairwise_map.mpr (List.Pairwise.imp_of_mem (fun {i j} hi hj hij e => hij (hd i j (List.mem_range.mp hi) (List.mem_range.mp hj) e)) List.nodup_range)
    · obtain ⟨i, hi, rfl⟩ := List.mem_map.mp hx
      have i3 : i % 3 ≤ 2 := by omega
      have hle : r3.toNat * (i % 3) ≤ 1 * 2 := Nat.mul_le_mul (by omega) i3
      exact nameS_ok ⟨by omega, by omega⟩ ⟨by omega, by omega⟩ (by omega)
    · rw [ep]
      exact List.mem_cons_self
end DL
namespace DL
variable [Wd]
open PySem L2 PySem.Spec PyProof.Rows
section
variable {M : Mem} {ρ : Rho} {st : Mem → Prop} {de : DE} {j j1 : Nat} {vs1 : List Nat} {di1 : DI}
theorem goC2i_map {α : Type} (g f : α → D) {st1 : Mem → Prop} {ρ1 : Rho} {Q : List D → Mem → Prop} (hst : st1 M) : ∀ {ys : List α} {acc : List D}, acc.length + ys.length < sizeLine → (∀ y ∈ ys, ∀ P1 : D → Mem → Prop, P1 (f y) M → de (put ρ1 j1 (some (g y))) M P1 noE) → Q (acc ++ ys.map f) M → goC2i (.nm j1) dYes de st1 ρ1 Q (ys.map g) acc M
  | [], acc, _, _, hQ => ⟨hst, by simpa using hQ⟩
  | y :: ys, acc, hl, h, hQ => by
    have hl' : acc.length + (ys.length + 1) < sizeLine := hl
    have key : de (put ρ1 j1 (some (g y))) M (fun e M3 => goC2i (.nm j1) dYes de st1 ρ1 Q (ys.map g) (acc ++ [e]) M3) noE :=
      h y List.mem_cons_self _ (goC2i_map g f hst (by rw [List.length_append]; simp; omega) (fun z hz => h z (List.mem_cons_of_mem _ hz)) (by simpa using hQ))
    exact ⟨hst, by omega, @g_t _ _ (goC2i (.nm j1) dYes de st1 ρ1 Q (ys.map g) acc M) key⟩
/-- [e for x in xs for y in ys] -/
theorem lc2_map {α β : Type} (g : α → D) (ys : α → List β) (g1 : β → D) (f : α → β → D) {Q : List D → Mem → Prop} (hst : st M) : ∀ {xs : List α} {acc : List D}, acc.length + (xs.flatMap fun x => (ys x).map (f x)).length < sizeLine →
    (∀ x ∈ xs, (∀ R : List D → (Mem → Prop) → Mem → Prop, (∀ st1 : Mem → Prop, st1 M → R ((ys x).map g1) st1 M) → di1 (put ρ j (some (g x))) M R noE) ∧ ∀ y ∈ ys x, ∀ P1 : D → Mem → Prop, P1 (f x y) M → de (put (wipeD (put ρ j (some (g x))) vs1) j1 (some (g1 y))) M P1 noE) →
    Q (acc ++ xs.flatMap fun x => (ys x).map (f x)) M → goC2 (.nm j) dYes di1 (.nm j1) dYes de vs1 st ρ Q (xs.map g) acc M
  | [], acc, _, _, hQ => ⟨hst, by simpa using hQ⟩
  | x :: xs, acc, hl, h, hQ => by
    rw [List.flatMap_cons] at hQ hl
    rw [List.length_append, List.length_map] at hl
    obtain ⟨h1, h2⟩ := h x List.mem_cons_self
    have key : di1 (put ρ j (some (g x))) M (fun its1 st1 M3 => goC2i (.nm j1) dYes de st1 (wipeD (put ρ j (some (g x))) vs1) (fun acc' M4 => goC2 (.nm j) dYes di1 (.nm j1) dYes de vs1 st ρ Q (xs.map g) acc' M4) its1 acc M3) noE :=
      h1 _ fun st1 hs1 => goC2i_map g1 (f x) hs1 (by omega) h2 (lc2_map g ys g1 f hst (by rw [List.length_append, List.length_map]; omega) (fun z hz => h z (List.mem_cons_of_mem _ hz)) (by rw [List.append_assoc]; exact hQ))
    exact ⟨hst, @g_t _ _ (goC2 (.nm j) dYes di1 (.nm j1) dYes de vs1 st ρ Q (xs.map g) acc M) key⟩
end
end DL
namespace DL
variable [Wd]
open PySem L2 PySem.Spec PyProof.Rows
/-! ### data frozen behind an expression, whatever others hold -/
def FzK (K : PySem.W.Frag) (d : D) (M : Mem) (d' : D) (M' : Mem) : Prop := ∀ U, Fz ⟨K, U⟩ d M d' M'
theorem FzK.refl {K : PySem.W.Frag} {d : D} {M : Mem} : FzK K d M d M := fun _ => Fz.refl _ _
theorem FzK.one {K : PySem.W.Frag} {p : Addr} {m : MO} {d : D} {M M' : Mem} (u : Del p m M M') (h : frzD m = some d) : FzK K (.ptr p) M d M' := fun _ => Fz.one u h
def dZK (K : PySem.W.Frag) (de : DE) : DE := fun ρ M Q E => de ρ M (fun d M' => ∃ d' M'', FzK K d M' d' M'' ∧ Q d' M'') E
theorem de_zK {X : Cx} {g : G} {W : WX} {e : Expr} {de : DE} (hK : g.K = X.K) (h : PE X e (liftE g W de)) : PE X e (liftE g W (dZK X.K de)) := by
  obtain ⟨K, U⟩ := g
  simp only at hK
  subst hK
  exact h.imp fun σ H k ⟨ρ, M, F, Q, E, S, En, q, kQ, kE⟩ => ⟨ρ, M, F, _, E, S, En, q, fun d M' F' v H' ⟨d', M'', z, q'⟩ s S' r => by
    obtain ⟨F2, s2, S2, r2⟩ := z U F' v H' S' r
    exact kQ d' M'' F2 v H' q' (s.t s2) S2 r2, kE⟩
theorem g_zK {K : PySem.W.Frag} {de : DE} {ρ : Rho} {M : Mem} {Q : D → Mem → Prop} {E : XD} (q : de ρ M (fun d M' => ∃ d' M'', FzK K d M' d' M'' ∧ Q d' M'') E) : dZK K de ρ M Q E := q
end DL
local macro_rules | `(tactic| walk_at "dl") => `(tactic| repeat (first | (with_reducible first | refine DL.g_seq ?_ | refine DL.g_asg ?_ | refine DL.g_sif ?_ | refine DL.g_ret ?_ | refine DL.g_retN ?_ | refine DL.g_drop ?_ | refine DL.g_next ?_ | refine DL.g_cont ?_ | refine DL.g_brk ?_ | refine DL.g_sfor ?_ | refine DL.g_op ?_ | refine DL.g_c ?_ | refine DL.g_nil ?_ | refine DL.g_cons ?_ | refine DL.g_cb ?_ | refine DL.g_call ?_ | refine DL.g_tup ?_ | refine DL.g_lst ?_ | refine DL.g_B ?_ | refine DL.g_not ?_ | refine DL.g_and ?_ | refine DL.g_or ?_ | refine DL.g_if ?_ | refine DL.g_bl ?_ | refine DL.g_in ?_ | refine DL.g_nm ?_ | refine DL.g_fld ?_ | refine DL.IntB.int ?_ | refine DL.AddR.int ?_ | refine DL.SubR.int ?_ | refine DL.EqR.int ?_ | refine DL.EqR.str ?_ | refine DL.EqR.bl ?_ | refine DL.IntC.int ?_ | refine DL.IsR.non ?_ | refine DL.g_lc ?_ | refine DL.g_lc2 ?_ | refine DL.g_dc ?_ | refine DL.g_iany ?_ | refine DL.g_iitm ?_ | refine DL.g_irg1 ?_ | refine DL.g_sl ?_ | refine DL.g_onone ?_ | refine DL.g_osome ?_ | refine DL.g_con ?_ | refine DL.g_bm ?_ | refine DL.g_andV ?_ | refine DL.g_orV ?_ | refine DL.g_notV ?_ | refine DL.g_make ?_ | refine DL.g_meth ?_ | refine DL.g_listint ?_ | refine DL.g_fldS ?_ | refine DL.g_gsub ?_ | refine DL.g_zK ?_) | (refine DL.g_var (by first | assumption | rfl) ?_)))
namespace DL
variable [Wd]
open PySem L2 PySem.Spec PyProof.Rows
end DL
namespace DL
variable [Wd]
open PySem L2 PySem.Spec PyProof.Rows
/-! ### grammars: kinds, trees, the fewest nodes -/
structure Kd where
  n : Str
  f : Str
  ch : List Str
def kdD (r : Kd) : D := .tup [.str r.n, .str r.f, .tup (r.ch.map .str)]
abbrev Tab := List (Str × Nat)
def getN (S : Tab) (s : Str) : Option Nat := (S.find? fun p => decide (p.1 = s)).map (·.2)
def putN (S : Tab) (s : Str) (n : Nat) : Tab := if (S.any fun p => decide (p.1 = s)) = true then S.map (fun p => if p.1 = s then (p.1, n) else p) else S ++ [(s, n)]
def emb (S : Tab) : List (Key × D) := S.map fun p => (.inr p.1, .int (p.2 : Nat))
theorem getN_cons (p : Str × Nat) (S : Tab) (s : Str) : getN (p :: S) s = if p.1 = s then some p.2 else getN S s := by
  unfold getN
  rw [List.find?_cons]
  by_cases h : p.1 = s <;> simp [h]
theorem look_emb (s : Str) : ∀ S : Tab, lookD (emb S) (.inr s) = (getN S s).map fun n => D.int (n : Nat)
  | [] => rfl
  | p :: S => by
    rw [getN_cons]
    have ih := look_emb s S
    unfold lookD emb at ih ⊢
    rw [List.map_cons, List.find?_cons]
    by_cases h : p.1 = s
    · simp [h]
    · have h2 : ¬ (Sum.inr p.1 : Key) = Sum.inr s := fun z => h (Sum.inr.inj z)
      simp only [h2, decide_false, if_neg h]
      exact ih
theorem any_emb (s : Str) : ∀ S : Tab, ((emb S).any fun kv => decide (kv.1 = (Sum.inr s : Key))) = S.any fun p => decide (p.1 = s)
  | [] => rfl
  | p :: S => by
    have ih := any_emb s S
    unfold emb at ih ⊢
    rw [List.map_cons, List.any_cons, List.any_cons, ih]
    congr 1
    by_cases h : p.1 = s
    · simp [h]
    · have h2 : ¬ (Sum.inr p.1 : Key) = Sum.inr s := fun z => h (Sum.inr.inj z)
      simp [h, h2]
theorem put_emb (S : Tab) (s : Str) (n : Nat) : putD (emb S) (.inr s) (.int (n : Nat)) = emb (putN S s n) := by
  unfold putD putN
  rw [any_emb]
  by_cases h : (S.any fun p => decide (p.1 = s)) = true
  · rw [if_pos h, if_pos h]
    unfold emb
    rw [List.map_map, List.map_map]
    refine List.map_congr_left fun p _ => ?_
    by_cases q : p.1 = s
    · simp [q]
    · have h2 : ¬ (Sum.inr p.1 : Key) = Sum.inr s := fun z => q (Sum.inr.inj z)
      simp [q, h2]
  · rw [if_neg h, if_neg h]
    unfold emb
    rw [List.map_append]
    rfl
theorem any_get (s : Str) : ∀ S : Tab, (S.any fun p => decide (p.1 = s)) = (getN S s).isSome
  | [] => rfl
  | p :: S => by
    rw [getN_cons, List.any_cons, any_get s S]
    by_cases h : p.1 = s <;> simp [h]
theorem get_put (S : Tab) (s t : Str) (n : Nat) : getN (putN S s n) t = if t = s then some n else getN S t := by
  unfold putN
  rw [any_get]
  by_cases h : (getN S s).isSome = true
  · rw [if_pos h]
    have key : ∀ S : Tab, (getN S s).isSome = true ∨ t ≠ s → getN (S.map fun p => if p.1 = s then (p.1, n) else p) t = if t = s then some n else getN S t := by
      intro S
      induction S with
      | nil =>
        rintro (h | h)
        · cases h
        · rw [if_neg h]; rfl
      | cons p S ih =>
        intro h
        rw [List.map_cons, getN_cons, getN_cons]
        by_cases q : p.1 = s
        · rw [if_pos q]
          by_cases z : t = s
          · subst z
            simp [q]
          · have z2 : ¬ p.1 = t := fun e => z (by rw [← e, q])
            simp only [if_neg z, if_neg z2]
            have := ih (.inr z)
            rwa [if_neg z] at this
        · rw [if_neg q]
          by_cases z : p.1 = t
          · have z2 : ¬ t = s := fun e => q (by rw [z, e])
            simp only [if_pos z, if_neg z2]
          · simp only [if_neg z]
            refine ih ?_
            rcases h with h | h
            · rw [getN_cons, if_neg q] at h
              exact .inl h
            · exact .inr h
    exact key S (.inl h)
  · rw [if_neg h]
    have h0 : getN S s = none := by cases e : getN S s with
      | none => rfl
      | some _ => rw [e] at h; exact absurd rfl h
    have key : ∀ S : Tab, getN S s = none → getN (S ++ [(s, n)]) t = if t = s then some n else getN S t := by
      intro S
      induction S with
      | nil =>
        intro _
        show getN [(s, n)] t = _
        rw [getN_cons]
        by_cases z : s = t
        · subst z; simp
        · have z2 : ¬ t = s := fun e => z e.symm
          simp only [if_neg z, if_neg z2]
      | cons p S ih =>
        intro h
        rw [getN_cons] at h
        by_cases q : p.1 = s
        · rw [if_pos q] at h; cases h
        · rw [if_neg q] at h
          rw [List.cons_append, getN_cons, getN_cons, ih h]
          by_cases z : p.1 = t
          · have z2 : ¬ t = s := fun e => q (by rw [z, e])
            simp only [if_pos z, if_neg z2]
          · simp only [if_neg z]
    exact key S h0
theorem put_len (S : Tab) (s : Str) (n : Nat) : (putN S s n).length = if (getN S s).isSome = true then S.length else S.length + 1 := by
  unfold putN
  rw [any_get]
  by_cases h : (getN S s).isSome = true
  · rw [if_pos h, if_pos h, List.length_map]
  · rw [if_neg h, if_neg h, List.length_append]
    rfl
mutual
/-- a tree of the family f with n nodes -/
inductive Tr (rs : List Kd) : Str → Nat → Prop
  | mk {r : Kd} {m : Nat} : r ∈ rs → Trs rs r.ch m → Tr rs r.f (m + 1)
/-- trees of these families with together n nodes -/
inductive Trs (rs : List Kd) : List Str → Nat → Prop
  | nil : Trs rs [] 0
  | cons {f : Str} {fs : List Str} {a b : Nat} : Tr rs f a → Trs rs fs b → Trs rs (f :: fs) (a + b)
end
def sumL (L : Tab) (ch : List Str) : Nat := (ch.map fun c => (getN L c).getD 0).sum
def allL (L : Tab) (ch : List Str) : Bool := ch.all fun c => (getN L c).isSome
theorem Trs.sum {rs : List Kd} {L : Tab} (h : ∀ f n, getN L f = some n → Tr rs f n) : ∀ {ch : List Str}, allL L ch = true → Trs rs ch (sumL L ch)
  | [], _ => .nil
  | c :: ch, ha => by
    unfold allL at ha
    rw [List.all_cons, Bool.and_eq_true] at ha
    cases e : getN L c with
    | none => rw [e] at ha; cases ha.1
    | some n =>
      have e2 : sumL L (c :: ch) = n + sumL L ch := by
        unfold sumL
        rw [List.map_cons, List.sum_cons, e]
        rfl
      rw [e2]
      exact .cons (h c n e) (Trs.sum h ha.2)
/-- how many kinds have no size yet -/
def miss (rs : List Kd) (S : Tab) : Nat := (rs.filter fun r => (getN S r.n).isNone).length
/-- what holds of the two tables at every time: sizes S, least L -/
structure Szs (rs : List Kd) (S L : Tab) : Prop where
  sS : ∀ s n, getN S s = some n → ∃ r ∈ rs, r.n = s ∧ ∃ m, Trs rs r.ch m ∧ n = m + 1
  sL : ∀ f n, getN L f = some n → Tr rs f n
  con : ∀ r ∈ rs, ∀ n, getN S r.n = some n → ∃ l, getN L r.f = some l ∧ l ≤ n
  bL : ∀ f n, getN L f = some n → n ≤ 4 ^ (rs.length - miss rs S)
  bS : ∀ s n, getN S s = some n → n ≤ 4 ^ (rs.length - miss rs S)
  kS : (S.map (·.1)).Nodup
  kL : (L.map (·.1)).Nodup
/-- nothing is left to do for r -/
def Settled (S L : Tab) (r : Kd) : Prop := allL L r.ch = true → ∃ n, getN S r.n = some n ∧ n ≤ sumL L r.ch + 1

mutual
theorem least_of {rs : List Kd} {S L : Tab} (z : Szs rs S L) (h : ∀ r ∈ rs, Settled S L r) : ∀ {f : Str} {n : Nat}, Tr rs f n → ∃ l, getN L f = some l ∧ l ≤ n
  | _, _, .mk (r := r) (m := m) hr ht => by
    obtain ⟨a1, a2⟩ := leasts_of z h ht
    obtain ⟨n, e, hn⟩ := h r hr a1
    obtain ⟨l, e2, hl⟩ := z.con r hr n e
    exact ⟨l, e2, by omega⟩
theorem leasts_of {rs : List Kd} {S L : Tab} (z : Szs rs S L) (h : ∀ r ∈ rs, Settled S L r) : ∀ {ch : List Str} {m : Nat}, Trs rs ch m → allL L ch = true ∧ sumL L ch ≤ m
  | _, _, .nil => ⟨rfl, Nat.le_refl _⟩
  | _, _, .cons (f := f) (fs := fs) (a := a) (b := b) t ts => by
    obtain ⟨l, e, hl⟩ := least_of z h t
    obtain ⟨a1, a2⟩ := leasts_of z h ts
    have e2 : sumL L (f :: fs) = l + sumL L fs := by
      unfold sumL
      rw [List.map_cons, List.sum_cons, e]
      rfl
    refine ⟨?_, by omega⟩
    unfold allL at a1 ⊢
    rw [List.all_cons, e, a1]
    rfl
end
/-- the fewest nodes of a tree whose root is of the kind r -/
def Fewest (rs : List Kd) (r : Kd) (n : Nat) : Prop := (∃ m, Trs rs r.ch m ∧ n = m + 1) ∧ ∀ m, Trs rs r.ch m → n ≤ m + 1
theorem sizes_least {rs : List Kd} {S L : Tab} (nd : (rs.map (·.n)).Nodup) (z : Szs rs S L) (h : ∀ r ∈ rs, Settled S L r) {r : Kd} (hr : r ∈ rs) : (∀ n, getN S r.n = some n → Fewest rs r n) ∧ ((∃ m, Trs rs r.ch m) → ∃ n, getN S r.n = some n) := by
  have one : ∀ {r' : Kd}, r' ∈ rs → r'.n = r.n → r' = r := by
    intro r' hr' e
    clear z h
    induction rs with
    | nil => cases hr
    | cons q rs ih =>
      rw [List.map_cons, List.nodup_cons] at nd
      rcases List.mem_cons.mp hr with e1 | e1
      · rcases List.mem_cons.mp hr' with e2 | e2
        · rw [e1, e2]
        · exact absurd (List.mem_map.mpr ⟨r', e2, by rw [e, e1]⟩) nd.1
      · rcases List.mem_cons.mp hr' with e2 | e2
        · exact absurd (List.mem_map.mpr ⟨r, e1, by rw [← e, e2]⟩) nd.1
        · exact ih nd.2 e1 e2
  refine ⟨fun n e => ?_, fun ⟨m, ht⟩ => ?_⟩
  · obtain ⟨r', hr', e', m, ht, hn⟩ := z.sS _ n e
    have := one hr' e'
    subst this
    refine ⟨⟨m, ht, hn⟩, fun m' ht' => ?_⟩
    obtain ⟨a1, a2⟩ := leasts_of z h ht'
    obtain ⟨n', e2, h2⟩ := h r' hr a1
    rw [e] at e2
    cases e2
    omega
  · obtain ⟨a1, a2⟩ := leasts_of z h ht
    obtain ⟨n', e2, h2⟩ := h r hr a1
    exact ⟨n', e2⟩
theorem nodup_le {α : Type} [DecidableEq α] : ∀ {xs ys : List α}, xs.Nodup → (∀ x ∈ xs, x ∈ ys) → xs.length ≤ ys.length
  | [], _, _, _ => Nat.zero_le _
  | x :: xs, ys, hn, hs => by
    obtain ⟨h1, h2⟩ := List.nodup_cons.mp hn
    have hx := hs x List.mem_cons_self
    have ih := nodup_le (ys := ys.erase x) h2 fun y hy => (List.mem_erase_of_ne (fun e => h1 (by rw [← e]; exact hy))).mpr (hs y (List.mem_cons_of_mem _ hy))
    have e := List.length_erase_of_mem hx
    have hp : 0 < ys.length := List.length_pos_of_mem hx
    rw [List.length_cons]
    omega
theorem miss_le (rs : List Kd) (S : Tab) : miss rs S ≤ rs.length := List.length_filter_le _ _
theorem miss_put_old {rs : List Kd} {S : Tab} {s : Str} {n : Nat} (h : (getN S s).isSome = true) : miss rs (putN S s n) = miss rs S := by
  unfold miss
  congr 1
  refine List.filter_congr fun r _ => ?_
  rw [get_put]
  by_cases e : r.n = s
  · rw [if_pos e, e]
    cases q : getN S s with
    | none => rw [q] at h; cases h
    | some _ => rfl
  · rw [if_neg e]
theorem miss_put_new {S : Tab} {r : Kd} {n : Nat} (h : getN S r.n = none) : ∀ {rs : List Kd}, r ∈ rs → miss rs (putN S r.n n) + 1 ≤ miss rs S
  | q :: rs, hr => by
    have mono : ∀ l : List Kd, miss l (putN S r.n n) ≤ miss l S := by
      intro l
      induction l with
      | nil => exact Nat.le_refl _
      | cons x l ih =>
        unfold miss at ih ⊢
        rw [List.filter_cons, List.filter_cons, get_put]
        by_cases e : x.n = r.n
        · rw [if_pos e, e, h]
          simp
          omega
        · rw [if_neg e]
          split
          · rw [List.length_cons, List.length_cons]; omega
          · exact ih
    rcases List.mem_cons.mp hr with e | e
    · subst e
      have m := mono rs
      unfold miss at m ⊢
      rw [List.filter_cons, List.filter_cons, get_put, if_pos rfl, h]
      simp
      omega
    · have ih := miss_put_new (n := n) h e
      have m : (if (getN (putN S r.n n) q.n).isNone = true then 1 else 0) ≤ (if (getN S q.n).isNone = true then 1 else 0) := by
        rw [get_put]
        by_cases z : q.n = r.n
        · rw [if_pos z]; simp
        · rw [if_neg z]; exact Nat.le_refl _
      have e1 : ∀ T : Tab, miss (q :: rs) T = (if (getN T q.n).isNone = true then 1 else 0) + miss rs T := by
        intro T
        unfold miss
        rw [List.filter_cons]
        split
        · rw [List.length_cons]; omega
        · omega
      rw [e1, e1]
      omega
theorem keys_put {S : Tab} {s : Str} {n : Nat} (h : (S.map (·.1)).Nodup) : ((putN S s n).map (·.1)).Nodup := by
  unfold putN
  by_cases q : (S.any fun p => decide (p.1 = s)) = true
  · rw [if_pos q, List.map_map]
    have e : S.map ((fun p : Str × Nat => p.1) ∘ fun p => if p.1 = s then (p.1, n) else p) = S.map (·.1) := List.map_congr_left fun p _ => by
      by_cases z : p.1 = s <;> simp [z]
    rw [e]
    exact h
  · rw [if_neg q, List.map_append]
    refine List.nodup_append.mpr ⟨h, by simp, fun a ha b hb e => ?_⟩
    have hb' : b = s := by simpa using hb
    obtain ⟨p, hp, e2⟩ := List.mem_map.mp ha
    exact q (List.any_eq_true.mpr ⟨p, hp, by rw [e2, e, hb']; simp⟩)
/-- a new size counts -/
def newer (S : Tab) (s : Str) (z : Nat) : Bool := match getN S s with
  | none => true
  | some n => decide (z < n)
/-- one row -/
def stepS (S L : Tab) (r : Kd) : Tab := if newer S r.n (sumL L r.ch + 1) = true then putN S r.n (sumL L r.ch + 1) else S
def stepL (L : Tab) (r : Kd) : Tab := if newer L r.f (sumL L r.ch + 1) = true then putN L r.f (sumL L r.ch + 1) else L
theorem sum_bound {L : Tab} {B : Nat} (h : ∀ f n, getN L f = some n → n ≤ B) : ∀ {ch : List Str}, sumL L ch ≤ ch.length * B
  | [] => Nat.zero_le _
  | c :: ch => by
    have ih := sum_bound h (ch := ch)
    have e2 : sumL L (c :: ch) = (getN L c).getD 0 + sumL L ch := by
      unfold sumL
      rw [List.map_cons, List.sum_cons]
    have hc : (getN L c).getD 0 ≤ B := by
      cases e : getN L c with
      | none => exact Nat.zero_le _
      | some n => exact h c n e
    rw [e2, List.length_cons, Nat.add_mul]
    omega
theorem pow_step {a b : Nat} (h : a + 1 ≤ b) : 3 * 4 ^ a + 1 ≤ 4 ^ b := by
  have h1 : 4 ^ (a + 1) ≤ 4 ^ b := Nat.pow_le_pow_right (by decide) h
  have h2 : 4 ^ (a + 1) = 4 ^ a * 4 := Nat.pow_succ ..
  have h3 : 1 ≤ 4 ^ a := by
    have := Nat.pow_le_pow_right (n := 4) (by decide) (Nat.zero_le a)
    simpa using this
  omega
theorem newer_no {S : Tab} {s : Str} {z : Nat} (h : newer S s z = false) : ∃ n, getN S s = some n ∧ n ≤ z := by
  unfold newer at h
  cases e : getN S s with
  | none => rw [e] at h; cases h
  | some n => rw [e] at h; exact ⟨n, rfl, by simpa using h⟩
theorem newer_lt {S : Tab} {s : Str} {z n : Nat} (h : newer S s z = true) (e : getN S s = some n) : z < n := by
  unfold newer at h
  rw [e] at h
  simpa using h
/-- a row whose children all have sizes -/
theorem Szs.step {rs : List Kd} {S L : Tab} {r : Kd} (z : Szs rs S L) (hr : r ∈ rs) (nd : (rs.map (·.n)).Nodup) (ha : allL L r.ch = true) (h3 : r.ch.length ≤ 3) : Szs rs (stepS S L r) (stepL L r) := by
  have one : ∀ {r' : Kd}, r' ∈ rs → r'.n = r.n → r' = r := by
    intro r' hr' e
    clear z
    induction rs with
    | nil => cases hr
    | cons q rs ih =>
      rw [List.map_cons, List.nodup_cons] at nd
      rcases List.mem_cons.mp hr with e1 | e1
      · rcases List.mem_cons.mp hr' with e2 | e2
        · rw [e1, e2]
        · exact absurd (List.mem_map.mpr ⟨r', e2, by rw [e, e1]⟩) nd.1
      · rcases List.mem_cons.mp hr' with e2 | e2
        · exact absurd (List.mem_map.mpr ⟨r, e1, by rw [← e, e2]⟩) nd.1
        · exact ih e1 nd.2 e2
  have ht := Trs.sum z.sL ha
  have hb := sum_bound z.bL (ch := r.ch)
  have hb3 : sumL L r.ch ≤ 3 * 4 ^ (rs.length - miss rs S) := Nat.le_trans hb (Nat.mul_le_mul_right _ h3)
  have hm := miss_le rs S
  -- the exponent grows
  have grow : rs.length - miss rs S ≤ rs.length - miss rs (stepS S L r) := by
    unfold stepS
    split
    · cases e : getN S r.n with
      | none => have := miss_put_new (n := sumL L r.ch + 1) e hr; omega
      | some n => rw [miss_put_old (by rw [e]; rfl)]; exact Nat.le_refl _
    · exact Nat.le_refl _
  have up : 4 ^ (rs.length - miss rs S) ≤ 4 ^ (rs.length - miss rs (stepS S L r)) := Nat.pow_le_pow_right (by decide) grow
  have size_le : newer S r.n (sumL L r.ch + 1) = true → sumL L r.ch + 1 ≤ 4 ^ (rs.length - miss rs (stepS S L r)) := fun hn => by
    unfold stepS
    rw [if_pos hn]
    cases e : getN S r.n with
    | none =>
      have h1 := miss_put_new (n := sumL L r.ch + 1) e hr
      have := pow_step (a := rs.length - miss rs S) (b := rs.length - miss rs (putN S r.n (sumL L r.ch + 1))) (by omega)
      omega
    | some n =>
      have h1 := newer_lt hn e
      have h2 := z.bS _ _ e
      rw [miss_put_old (by rw [e]; rfl)]
      omega
  have getS : ∀ s, getN (stepS S L r) s = if newer S r.n (sumL L r.ch + 1) = true ∧ s = r.n then some (sumL L r.ch + 1) else getN S s := by
    intro s
    unfold stepS
    by_cases hn : newer S r.n (sumL L r.ch + 1) = true
    · rw [if_pos hn, get_put]
      by_cases e : s = r.n <;> simp [hn, e]
    · simp [hn]
  have getL : ∀ f, getN (stepL L r) f = if newer L r.f (sumL L r.ch + 1) = true ∧ f = r.f then some (sumL L r.ch + 1) else getN L f := by
    intro f
    unfold stepL
    by_cases hn : newer L r.f (sumL L r.ch + 1) = true
    · rw [if_pos hn, get_put]
      by_cases e : f = r.f <;> simp [hn, e]
    · simp [hn]
  have lf : ∃ l, getN (stepL L r) r.f = some l ∧ l ≤ sumL L r.ch + 1 := by
    rw [getL]
    cases hn : newer L r.f (sumL L r.ch + 1) with
    | true => exact ⟨_, by simp, Nat.le_refl _⟩
    | false =>
      obtain ⟨l, e, hl⟩ := newer_no hn
      exact ⟨l, by simpa using e, hl⟩
  have down : ∀ f l, getN L f = some l → ∃ l', getN (stepL L r) f = some l' ∧ l' ≤ l := by
    intro f l e
    rw [getL]
    by_cases hn : newer L r.f (sumL L r.ch + 1) = true ∧ f = r.f
    · rw [if_pos hn]
      have := newer_lt hn.1 (by rw [← hn.2]; exact e)
      exact ⟨_, rfl, by omega⟩
    · rw [if_neg hn]; exact ⟨l, e, Nat.le_refl _⟩
  refine ⟨fun s n e => ?_, fun f n e => ?_, fun q hq n e => ?_, fun f n e => ?_, fun s n e => ?_, ?_, ?_⟩
  · rw [getS] at e
    split at e
    · rename_i hs
      cases e
      exact ⟨r, hr, hs.2.symm, _, ht, rfl⟩
    · exact z.sS s n e
  · rw [getL] at e
    split at e
    · rename_i hs
      cases e
      rw [hs.2]
      exact .mk hr ht
    · exact z.sL f n e
  · rw [getS] at e
    split at e
    · rename_i hs
      cases e
      have := one hq hs.2
      subst this
      exact lf
    · obtain ⟨l, e1, h1⟩ := z.con q hq n e
      obtain ⟨l', e2, h2⟩ := down _ _ e1
      exact ⟨l', e2, by omega⟩
  · rw [getL] at e
    split at e
    · rename_i hs
      cases e
      cases hn : newer S r.n (sumL L r.ch + 1) with
      | true => exact size_le hn
      | false =>
        obtain ⟨n, e1, h1⟩ := newer_no hn
        obtain ⟨l, e2, h2⟩ := z.con r hr n e1
        have := newer_lt hs.1 e2
        omega
    · exact Nat.le_trans (z.bL f n e) up
  · rw [getS] at e
    split at e
    · rename_i hs
      cases e
      exact size_le hs.1
    · exact Nat.le_trans (z.bS s n e) up
  · unfold stepS
    split
    · exact keys_put z.kS
    · exact z.kS
  · unfold stepL
    split
    · exact keys_put z.kL
    · exact z.kL
theorem get_key {S : Tab} {s : Str} (h : s ∈ S.map (·.1)) : ∃ n, getN S s = some n := by
  induction S with
  | nil => cases h
  | cons p S ih =>
    rw [getN_cons]
    by_cases e : p.1 = s
    · exact ⟨p.2, if_pos e⟩
    · rw [if_neg e]
      rcases List.mem_cons.mp h with q | q
      · exact absurd q.symm e
      · exact ih q
theorem Szs.lenS {rs : List Kd} {S L : Tab} (z : Szs rs S L) : S.length ≤ rs.length := by
  have h := nodup_le (ys := rs.map (·.n)) z.kS fun s hs => by
    obtain ⟨n, e⟩ := get_key hs
    obtain ⟨r, hr, e2, _⟩ := z.sS s n e
    exact List.mem_map.mpr ⟨r, hr, e2⟩
  rwa [List.length_map, List.length_map] at h
theorem Szs.lenL {rs : List Kd} {S L : Tab} (z : Szs rs S L) : L.length ≤ rs.length := by
  have h := nodup_le (ys := rs.map (·.f)) z.kL fun s hs => by
    obtain ⟨n, e⟩ := get_key hs
    cases z.sL s n e with
    | mk hr _ => exact List.mem_map.mpr ⟨_, hr, rfl⟩
  rwa [List.length_map, List.length_map] at h
end DL
namespace DL
variable [Wd]
open PySem L2 PySem.Spec PyProof.Rows
/-! ### the least sizes, as the program finds them -/
def sumS (rs : List Kd) (S : Tab) : Nat := (rs.map fun r => (getN S r.n).getD 0).sum
def mu (rs : List Kd) (S : Tab) : Nat := miss rs S * (8 * 4 ^ 8 + 1) + sumS rs S
theorem sumS_new {S : Tab} {s : Str} {z : Nat} : ∀ rs : List Kd, sumS rs (putN S s z) ≤ sumS rs S + rs.length * z
  | [] => Nat.zero_le _
  | r :: rs => by
    have ih := sumS_new (S := S) (s := s) (z := z) rs
    have e : ∀ T, sumS (r :: rs) T = (getN T r.n).getD 0 + sumS rs T := fun T => by unfold sumS; rw [List.map_cons, List.sum_cons]
    rw [e, e, List.length_cons, Nat.add_mul, get_put]
    by_cases q : r.n = s
    · rw [if_pos q]; show z + _ ≤ _; omega
    · rw [if_neg q]; omega
theorem sumS_old {S : Tab} {s : Str} {z n : Nat} (h : getN S s = some n) (hz : z ≤ n) : ∀ rs : List Kd, sumS rs (putN S s z) ≤ sumS rs S
  | [] => Nat.le_refl _
  | r :: rs => by
    have ih := sumS_old h hz rs
    have e : ∀ T, sumS (r :: rs) T = (getN T r.n).getD 0 + sumS rs T := fun T => by unfold sumS; rw [List.map_cons, List.sum_cons]
    rw [e, e, get_put]
    by_cases q : r.n = s
    · rw [if_pos q, q, h]; show z + _ ≤ n + _; omega
    · rw [if_neg q]; omega
theorem sumS_less {S : Tab} {r : Kd} {z n : Nat} (h : getN S r.n = some n) (hz : z < n) : ∀ {rs : List Kd}, r ∈ rs → sumS rs (putN S r.n z) < sumS rs S
  | q :: rs, hr => by
    have e : ∀ T, sumS (q :: rs) T = (getN T q.n).getD 0 + sumS rs T := fun T => by unfold sumS; rw [List.map_cons, List.sum_cons]
    have m := sumS_old (S := S) h (Nat.le_of_lt hz) rs
    rw [e, e, get_put]
    by_cases w : q.n = r.n
    · rw [if_pos w, w, h]; show z + _ < n + _; omega
    · rw [if_neg w]
      rcases List.mem_cons.mp hr with e1 | e1
      · exact absurd (by rw [e1]) w
      · have ih := sumS_less h hz e1
        omega
theorem mu_less {rs : List Kd} {S : Tab} {r : Kd} {z : Nat} (hr : r ∈ rs) (h8 : rs.length ≤ 8) (hz : z ≤ 4 ^ 8) (h : newer S r.n z = true) : mu rs (putN S r.n z) < mu rs S := by
  unfold mu
  cases e : getN S r.n with
  | none =>
    have h1 := miss_put_new (n := z) e hr
    have h2 := sumS_new (S := S) (s := r.n) (z := z) rs
    have h3 : rs.length * z ≤ 8 * 4 ^ 8 := Nat.mul_le_mul h8 hz
    have h4 : (miss rs (putN S r.n z) + 1) * (8 * 4 ^ 8 + 1) ≤ miss rs S * (8 * 4 ^ 8 + 1) := Nat.mul_le_mul_right _ h1
    rw [Nat.add_mul, Nat.one_mul] at h4
    omega
  | some n =>
    have h1 := newer_lt h e
    rw [miss_put_old (by rw [e]; rfl)]
    have := sumS_less e h1 hr
    omega
def dLeast : DS := sSeq (sAsg (dDic) (gNm 1)) (sSeq (sAsg (dDic) (gNm 2)) (sSeq (sAsg (dC (.bl true)) (gNm 3)) (sSeq (sWhile (dB (dVar 3)) (sSeq (sAsg (dC (.bl false)) (gNm 3)) (sFor (iAny (dVar 0)) (gTp 3 (gsCons (gNm 4) (gsCons (gNm 5) (gsCons (gNm 6) (gsNil))))) (sSeq (sIf (dB (dCB rAny (dCons (dLc (iAny (dVar 6)) (.nm 7) (dYes) (dOp rNin (dVar 7) (dVar 2)) [7]) (dNil)))) (sCont) (sNext)) (sSeq (sAsg (dOp rAdd (dC (.int 1)) (dCB rSum (dCons (dLc (iAny (dVar 6)) (.nm 7) (dYes) (dOp rIx (dVar 2) (dVar 7)) [7]) (dNil)))) (gNm 8)) (sSeq (sIf (dOr (dB (dOp rNin (dVar 4) (dVar 1))) (dB (dOp rLt (dVar 8) (dOp rIx (dVar 1) (dVar 4))))) (sSeq (sAsg (dVar 8) (gSub (dVar 1) (dVar 4))) (sAsg (dC (.bl true)) (gNm 3))) (sNext)) (sIf (dOr (dB (dOp rNin (dVar 5) (dVar 2))) (dB (dOp rLt (dVar 8) (dOp rIx (dVar 2) (dVar 5))))) (sAsg (dVar 8) (gSub (dVar 2) (dVar 5))) (sNext)))))))) (sRet (dVar 1)))))
theorem nin_tab {M : Mem} {q : Addr} {S : Tab} {s : Str} {Q : D → Mem → Prop} (h : (q, MO.dic (emb S)) ∈ M) (k : Q (.bl (!(getN S s).isSome)) M) : rNin (.str s) (.ptr q) M Q := by
  refine InR.dic (k := .inr s) (.ptr h) ?_
  rw [look_emb, ne_true]
  cases e : getN S s with
  | none => rw [e] at k; exact k
  | some n => rw [e] at k; exact k
theorem ix_tab {M : Mem} {q : Addr} {S : Tab} {s : Str} {n : Nat} {Q : D → Mem → Prop} (h : (q, MO.dic (emb S)) ∈ M) (e : getN S s = some n) (k : Q (.int (n : Nat)) M) : rIx (.ptr q) (.str s) M Q :=
  IxQ.dic (k := .inr s) (.ptr h) (by rw [look_emb, e]; rfl) k
theorem sum_cast {L : Tab} : ∀ ch : List Str, (ch.map fun c => (((getN L c).getD 0 : Nat) : Int)).sum = ((sumL L ch : Nat) : Int)
  | [] => rfl
  | c :: ch => by
    have e2 : sumL L (c :: ch) = (getN L c).getD 0 + sumL L ch := by unfold sumL; rw [List.map_cons, List.sum_cons]
    rw [List.map_cons, List.sum_cons, sum_cast ch, e2, Int.natCast_add]
theorem any_not {L : Tab} : ∀ ch : List Str, (ch.map fun c => !(getN L c).isSome).any id = !allL L ch
  | [] => rfl
  | c :: ch => by
    have ih := any_not (L := L) ch
    rw [List.map_cons, List.any_cons, ih]
    unfold allL
    rw [List.all_cons, Bool.not_and]
    rfl
/-- one row of the loop -/
theorem row_wp {M : Mem} {d : D} {p l : Addr} {S L : Tab} {r : Kd} {b : Bool} {x7 x8 : Option D} {nx : NX} {rt : D → Mem → Prop} {bk ct : NX} {ex : Addr → Addr → Rho → Mem → Prop} (pl : p ≠ l) (nd : Nd M) (hp : (p, MO.dic (emb S)) ∈ M) (hl : (l, MO.dic (emb L)) ∈ M) (h3 : r.ch.length ≤ 3) (hS : S.length ≤ 1000) (hL : L.length ≤ 1000)
    (k0 : allL L r.ch = false → ct [some d, some (.ptr p), some (.ptr l), some (.bl b), some (.str r.n), some (.str r.f), some (.tup (r.ch.map .str)), x7, x8] M)
    (k1 : allL L r.ch = true → ∀ M' x8', Nd M' → (p, MO.dic (emb (stepS S L r))) ∈ M' → (l, MO.dic (emb (stepL L r))) ∈ M' → Fr [p, l] M M' → nx [some d, some (.ptr p), some (.ptr l), some (.bl (b || newer S r.n (sumL L r.ch + 1))), some (.str r.n), some (.str r.f), some (.tup (r.ch.map .str)), x7, x8'] M') :
    (sSeq (sIf (dB (dCB rAny (dCons (dLc (iAny (dVar 6)) (.nm 7) (dYes) (dOp rNin (dVar 7) (dVar 2)) [7]) (dNil)))) (sCont) (sNext)) (sSeq (sAsg (dOp rAdd (dC (.int 1)) (dCB rSum (dCons (dLc (iAny (dVar 6)) (.nm 7) (dYes) (dOp rIx (dVar 2) (dVar 7)) [7]) (dNil)))) (gNm 8)) (sSeq (sIf (dOr (dB (dOp rNin (dVar 4) (dVar 1))) (dB (dOp rLt (dVar 8) (dOp rIx (dVar 1) (dVar 4))))) (sSeq (sAsg (dVar 8) (gSub (dVar 1) (dVar 4))) (sAsg (dC (.bl true)) (gNm 3))) (sNext)) (sIf (dOr (dB (dOp rNin (dVar 5) (dVar 2))) (dB (dOp rLt (dVar 8) (dOp rIx (dVar 2) (dVar 5))))) (sAsg (dVar 8) (gSub (dVar 2) (dVar 5))) (sNext)))))
      nx rt bk ct ex [some d, some (.ptr p), some (.ptr l), some (.bl b), some (.str r.n), some (.str r.f), some (.tup (r.ch.map .str)), x7, x8] M := by
  have hsz : (r.ch.map D.str).length < sizeLine := lt_line (by rw [List.length_map]; omega)
  walk_at "dl"
  refine ⟨_, _, .tup _, hsz, lc_map .str (fun c => .bl (!(getN L c).isSome)) trivial (fun c _ P1 h1 => ?_) (.inl ?_)⟩
  · walk_at "dl"
    exact nin_tab hl h1
  walk_at "dl"
  refine .lst (bs := r.ch.map fun c => !(getN L c).isSome) (by rw [List.map_map]; exact .lst _) ?_
  walk_at "dl"
  have ea := any_not (L := L) r.ch
  cases ha : allL L r.ch with
  | false =>
    refine g_ift (by rw [ha] at ea; exact ea) ?_
    walk_at "dl"
    exact k0 ha
  | true =>
    refine g_iff' (by rw [ha] at ea; exact ea) ?_
    walk_at "dl"
    refine ⟨_, _, .tup _, hsz, lc_map .str (fun c => .int (((getN L c).getD 0 : Nat))) trivial (fun c hc P1 h1 => ?_) (.inl ?_)⟩
    · walk_at "dl"
      have hcs : (getN L c).isSome = true := List.all_eq_true.mp ha c hc
      cases e : getN L c with
      | none => rw [e] at hcs; cases hcs
      | some n =>
        rw [e] at h1
        exact ix_tab hl e h1
    walk_at "dl"
    refine .lst (ns := r.ch.map fun c => (((getN L c).getD 0 : Nat) : Int)) (by rw [List.map_map]; exact .lst _) ?_
    rw [sum_cast]
    walk_at "dl"
    have ez : (1 : Int) + ((sumL L r.ch : Nat) : Int) = ((sumL L r.ch + 1 : Nat) : Int) := by omega
    rw [ez]
    generalize hz : sumL L r.ch + 1 = z at *
    have kk := k1 ha
    -- the family's own least size
    have tail : ∀ (b' : Bool) (M' : Mem), b' = (b || newer S r.n z) → Nd M' → (p, MO.dic (emb (stepS S L r))) ∈ M' → (l, MO.dic (emb L)) ∈ M' → Fr [p, l] M M' →
        (sIf (dOr (dB (dOp rNin (dVar 5) (dVar 2))) (dB (dOp rLt (dVar 8) (dOp rIx (dVar 2) (dVar 5))))) (sAsg (dVar 8) (gSub (dVar 2) (dVar 5))) (sNext)) nx rt bk ct ex
          [some d, some (.ptr p), some (.ptr l), some (.bl b'), some (.str r.n), some (.str r.f), some (.tup (r.ch.map .str)), x7, some (.int (z : Nat))] M' := by
      intro b' M' eb nd' a1 a2 f
      subst eb
      -- stored
      have put_it : newer L r.f z = true → sAsg (dVar 8) (gSub (dVar 2) (dVar 5)) nx rt bk ct ex [some d, some (.ptr p), some (.ptr l), some (.bl (b || newer S r.n z)), some (.str r.n), some (.str r.f), some (.tup (r.ch.map .str)), x7, some (.int (z : Nat))] M' := fun hn => by
        walk_at "dl"
        obtain ⟨M2, U2⟩ := upd_ex (n := .dic (putD (emb L) (.inr r.f) (.int (z : Nat)))) nd' a2
        refine SetQ.dic (k := .inr r.f) U2.up (lt_line (by unfold emb; rw [List.length_map]; omega)) ?_
        refine kk M2 _ U2.nd (U2.fr _ _ (not_mem1 pl) a1) ?_ (f.trans U2.fr.r2)
        have e := U2.at_
        rw [put_emb] at e
        unfold stepL
        rw [hz, if_pos hn]
        exact e
      have keep_it : newer L r.f z = false → nx [some d, some (.ptr p), some (.ptr l), some (.bl (b || newer S r.n z)), some (.str r.n), some (.str r.f), some (.tup (r.ch.map .str)), x7, some (.int (z : Nat))] M' := fun hn => by
        refine kk M' _ nd' a1 ?_ f
        unfold stepL
        rw [hz, if_neg (by rw [hn]; exact Bool.false_ne_true)]
        exact a2
      walk_at "dl"
      refine nin_tab a2 ?_
      walk_at "dl"
      cases e : getN L r.f with
      | none =>
        refine g_ift rfl ?_
        refine g_t ?_
        exact put_it (by unfold newer; rw [e])
      | some n =>
        refine g_iff' rfl ?_
        walk_at "dl"
        refine ix_tab a2 e ?_
        walk_at "dl"
        by_cases hn : z < n
        · refine g_ift (by simp; omega) ?_
          exact put_it (by unfold newer; rw [e]; exact decide_eq_true hn)
        · refine g_iff' (by simp; omega) ?_
          walk_at "dl"
          exact keep_it (by unfold newer; rw [e]; exact decide_eq_false hn)
    have put_it : newer S r.n z = true → sSeq (sAsg (dVar 8) (gSub (dVar 1) (dVar 4))) (sAsg (dC (.bl true)) (gNm 3)) ((sIf (dOr (dB (dOp rNin (dVar 5) (dVar 2))) (dB (dOp rLt (dVar 8) (dOp rIx (dVar 2) (dVar 5))))) (sAsg (dVar 8) (gSub (dVar 2) (dVar 5))) (sNext)) nx rt bk ct ex) rt bk ct ex
        [some d, some (.ptr p), some (.ptr l), some (.bl b), some (.str r.n), some (.str r.f), some (.tup (r.ch.map .str)), x7, some (.int (z : Nat))] M := fun hn => by
      walk_at "dl"
      obtain ⟨M2, U2⟩ := upd_ex (n := .dic (putD (emb S) (.inr r.n) (.int (z : Nat)))) nd hp
      refine SetQ.dic (k := .inr r.n) U2.up (lt_line (by unfold emb; rw [List.length_map]; omega)) ?_
      refine g_asg (g_c (g_nm ?_))
      refine tail true M2 (by rw [hn, Bool.or_true]) U2.nd ?_ (U2.fr _ _ (not_mem1 (Ne.symm pl)) hl) U2.fr.l2
      have e := U2.at_
      rw [put_emb] at e
      unfold stepS
      rw [hz, if_pos hn]
      exact e
    have keep_it : newer S r.n z = false → (sIf (dOr (dB (dOp rNin (dVar 5) (dVar 2))) (dB (dOp rLt (dVar 8) (dOp rIx (dVar 2) (dVar 5))))) (sAsg (dVar 8) (gSub (dVar 2) (dVar 5))) (sNext)) nx rt bk ct ex
        [some d, some (.ptr p), some (.ptr l), some (.bl b), some (.str r.n), some (.str r.f), some (.tup (r.ch.map .str)), x7, some (.int (z : Nat))] M := fun hn => by
      refine tail b M (by rw [hn, Bool.or_false]) nd ?_ hl Fr.refl
      unfold stepS
      rw [hz, if_neg (by rw [hn]; exact Bool.false_ne_true)]
      exact hp
    refine nin_tab hp ?_
    walk_at "dl"
    cases e : getN S r.n with
    | none =>
      refine g_ift rfl ?_
      refine g_t ?_
      exact put_it (by unfold newer; rw [e])
    | some n =>
      refine g_iff' rfl ?_
      walk_at "dl"
      refine ix_tab hp e ?_
      walk_at "dl"
      by_cases hn : z < n
      · refine g_ift (by simp; omega) ?_
        exact put_it (by unfold newer; rw [e]; exact decide_eq_true hn)
      · refine g_iff' (by simp; omega) ?_
        exact keep_it (by unfold newer; rw [e]; exact decide_eq_false hn)
theorem isS_st {M : Mem} {d : D} {xs : List D} (h : IsS M d xs) : ∃ st, IsI M d xs st ∧ st M ∧ ∀ M', (∀ p, d = .ptr p → (p, MO.lst xs) ∈ M → (p, MO.lst xs) ∈ M') → st M' := by
  cases h with
  | lst => exact ⟨_, .lst (.lst _), trivial, fun _ _ => trivial⟩
  | rol => exact ⟨_, .lst (.rol _), trivial, fun _ _ => trivial⟩
  | tup => exact ⟨_, .tup _, trivial, fun _ _ => trivial⟩
  | ptr h => exact ⟨_, .lst (.ptr h), h, fun M' f => f _ rfl h⟩
def spLeast : SpD := fun ds M Q _ => ∃ (d : D) (rs : List Kd), ds = [d] ∧ IsS M d (rs.map kdD) ∧ Nd M ∧ rs.length ≤ 8 ∧ (rs.map (·.n)).Nodup ∧ (∀ r ∈ rs, r.ch.length ≤ 3) ∧ ∀ (S : Tab) p M', Free p M → (p, MO.dic (emb S)) ∈ M' → Nd M' → Fr [] M M' → (∃ L, Szs rs S L ∧ ∀ r ∈ rs, Settled S L r) → Q (.ptr p) M'
theorem settled_of {S L : Tab} {r : Kd} (h : allL L r.ch = true → newer S r.n (sumL L r.ch + 1) = false) : Settled S L r := fun ha => newer_no (h ha)
theorem pureLeast {ds : List D} {M : Mem} {Qd : D → Mem → Prop} {Ed : XD} {y1 y2 y3 y4 y5 y6 y7 y8 y9 : Str} (h : spLeast ds M Qd Ed) : dLeast (fun _ M' => Qd .non M') Qd (fun _ _ => False) (fun _ _ => False) (fun C dd _ M' => Ed C dd M') (start0 [y1, y2, y3, y4, y5, y6, y7, y8, y9] ds) M := by
  obtain ⟨d, rs, rfl, hs, nd, h8, hnd, h3, kQ⟩ := h
  unfold dLeast
  walk_at "dl"
  refine .inl (.inr fun p hp => ?_)
  walk_at "dl"
  refine .inl (.inr fun l hl => ?_)
  walk_at "dl"
  have pl : p ≠ l := fun e => hl _ (by rw [← e]; exact List.mem_cons_self)
  let P : Nat → Rho → Mem → Prop := fun m ρ M' => Nd M' ∧ Fr [] M M' ∧ ∃ S L b, Szs rs S L ∧ (p, MO.dic (emb S)) ∈ M' ∧ (l, MO.dic (emb L)) ∈ M' ∧ (∃ x4 x5 x6 x7 x8, ρ = [some d, some (.ptr p), some (.ptr l), some (.bl b), x4, x5, x6, x7, x8]) ∧ (b = true → m = mu rs S + 1) ∧ (b = false → m = 0 ∧ ∀ r ∈ rs, Settled S L r)
  have z0 : Szs rs [] [] := ⟨fun _ _ e => (nomatch e), fun _ _ e => (nomatch e), fun _ _ _ e => (nomatch e), fun _ _ e => (nomatch e), fun _ _ e => (nomatch e), List.nodup_nil, List.nodup_nil⟩
  refine ⟨P, ⟨mu rs [] + 1, nd_new hl (nd_new hp nd), Fr.refl.cons.cons, [], [], true, z0, List.mem_cons_of_mem _ List.mem_cons_self, List.mem_cons_self, ⟨_, _, _, _, _, rfl⟩, fun _ => rfl, fun e => nomatch e⟩, ?_⟩
  rintro m ρ M1 ⟨nd1, f1, S, L, b, z, a1, a2, ⟨x4, x5, x6, x7, x8, rfl⟩, hb1, hb0⟩
  walk_at "dl"
  cases b with
  | false =>
    refine g_iff' rfl ?_
    walk_at "dl"
    exact kQ S p M1 hp a1 nd1 f1 ⟨L, z, (hb0 rfl).2⟩
  | true =>
    refine g_ift rfl ?_
    have hm := hb1 rfl
    walk_at "dl"
    have hs1 : IsS M1 d (rs.map kdD) := by
      cases hs with
      | lst => exact .lst _
      | rol => exact .rol _
      | tup => exact .tup _
      | ptr h => exact .ptr (f1 _ _ (by simp) h)
    obtain ⟨st, hi, hst, hfr⟩ := isS_st hs1
    refine ⟨_, st, hi, ?_⟩
    -- a row after the other
    have pass : ∀ (xs done : List Kd) (S' L' : Tab) (b : Bool) (ρ : Rho) (M' : Mem), rs = done ++ xs → Szs rs S' L' → Nd M' → (p, MO.dic (emb S')) ∈ M' → (l, MO.dic (emb L')) ∈ M' → Fr [p, l] M1 M' → (∃ x4 x5 x6 x7 x8, ρ = [some d, some (.ptr p), some (.ptr l), some (.bl b), x4, x5, x6, x7, x8]) →
        (b = true → mu rs S' < mu rs S) → (b = false → S' = S ∧ L' = L ∧ ∀ r ∈ done, Settled S L r) →
        goF (gTp 3 (gsCons (gNm 4) (gsCons (gNm 5) (gsCons (gNm 6) gsNil)))) (sSeq (sIf (dB (dCB rAny (dCons (dLc (iAny (dVar 6)) (.nm 7) (dYes) (dOp rNin (dVar 7) (dVar 2)) [7]) (dNil)))) (sCont) (sNext)) (sSeq (sAsg (dOp rAdd (dC (.int 1)) (dCB rSum (dCons (dLc (iAny (dVar 6)) (.nm 7) (dYes) (dOp rIx (dVar 2) (dVar 7)) [7]) (dNil)))) (gNm 8)) (sSeq (sIf (dOr (dB (dOp rNin (dVar 4) (dVar 1))) (dB (dOp rLt (dVar 8) (dOp rIx (dVar 1) (dVar 4))))) (sSeq (sAsg (dVar 8) (gSub (dVar 1) (dVar 4))) (sAsg (dC (.bl true)) (gNm 3))) (sNext)) (sIf (dOr (dB (dOp rNin (dVar 5) (dVar 2))) (dB (dOp rLt (dVar 8) (dOp rIx (dVar 2) (dVar 5))))) (sAsg (dVar 8) (gSub (dVar 2) (dVar 5))) (sNext)))))
          st (fun ρ' M'' => ∃ m', m' < m ∧ P m' ρ' M'') Qd (fun C dd _ M' => Ed C dd M') (xs.map kdD) ρ M' := by
      intro xs
      induction xs with
      | nil =>
        intro done S' L' b ρ M' er z' nd' c1 c2 f' hρ k1 k0
        rw [List.append_nil] at er
        have hst' : st M' := hfr M' fun p' e hm' => f' _ _ (not_mem2 (fun q => by subst q; exact nomatch nd1.one hm' a1) (fun q => by subst q; exact nomatch nd1.one hm' a2)) hm'
        have ff : Fr [] M M' := fun a m' ha hm' => f' _ _ (not_mem2 (fun q => hp m' (by rw [← q]; exact hm')) (fun q => hl m' (by rw [← q]; exact List.mem_cons_of_mem _ hm'))) (f1 _ _ ha hm')
        cases b with
        | true => exact ⟨hst', mu rs S' + 1, by have := k1 rfl; omega, nd', ff, S', L', true, z', c1, c2, hρ, fun _ => rfl, fun e => nomatch e⟩
        | false =>
          obtain ⟨e1, e2, hset⟩ := k0 rfl
          exact ⟨hst', 0, by omega, nd', ff, S', L', false, z', c1, c2, hρ, (fun e => nomatch e), fun _ => ⟨rfl, fun r hr => by rw [e1, e2]; exact hset r (by rw [← er]; exact hr)⟩⟩
      | cons r xs ih =>
        rintro done S' L' b ρ M' er z' nd' c1 c2 f' ⟨x4, x5, x6, x7, x8, rfl⟩ k1 k0
        have hst' : st M' := hfr M' fun p' e hm' => f' _ _ (not_mem2 (fun q => by subst q; exact nomatch nd1.one hm' a1) (fun q => by subst q; exact nomatch nd1.one hm' a2)) hm'
        have hr : r ∈ rs := by rw [er]; exact List.mem_append_right _ List.mem_cons_self
        have er' : rs = (done ++ [r]) ++ xs := by rw [er, List.append_assoc]; rfl
        have l1 := z'.lenS
        have l2 := z'.lenL
        refine ⟨hst', _, rfl, rfl, _, _, rfl, _, _, rfl, _, _, rfl, rfl, ?_⟩
        refine row_wp pl nd' c1 c2 (h3 r hr) (by omega) (by omega) (fun ha => ?_) fun ha M2 x8' nd2 d1 d2 f2 => ?_
        · refine ih (done ++ [r]) S' L' b _ M' er' z' nd' c1 c2 f' ⟨_, _, _, _, _, rfl⟩ k1 fun e => ?_
          obtain ⟨e1, e2, hset⟩ := k0 e
          refine ⟨e1, e2, fun q hq => ?_⟩
          rcases List.mem_append.mp hq with w | w
          · exact hset q w
          · rw [List.mem_singleton.mp w, ← e1, ← e2]
            exact fun w2 => by rw [ha] at w2; cases w2
        · have zs := z'.step hr hnd ha (h3 r hr)
          refine ih (done ++ [r]) _ _ _ _ M2 er' zs nd2 d1 d2 (f'.trans f2) ⟨_, _, _, _, _, rfl⟩ (fun e => ?_) fun e => ?_
          · cases hn : newer S' r.n (sumL L' r.ch + 1) with
            | true =>
              have es : stepS S' L' r = putN S' r.n (sumL L' r.ch + 1) := by unfold stepS; rw [if_pos hn]
              have hz : sumL L' r.ch + 1 ≤ 4 ^ 8 := by
                have h1 := zs.bS r.n (sumL L' r.ch + 1) (by rw [es, get_put, if_pos rfl])
                exact Nat.le_trans h1 (Nat.pow_le_pow_right (by decide) (by omega))
              have := mu_less hr h8 hz hn
              rw [es]
              cases b with
              | true => have := k1 rfl; omega
              | false => rw [(k0 rfl).1] at this ⊢; exact this
            | false =>
              rw [hn, Bool.or_false] at e
              have es : stepS S' L' r = S' := by unfold stepS; rw [if_neg (by rw [hn]; exact Bool.false_ne_true)]
              rw [es]
              exact k1 e
          · rw [Bool.or_eq_false_iff] at e
            obtain ⟨eb, en⟩ := e
            obtain ⟨e1, e2, hset⟩ := k0 eb
            have es : stepS S' L' r = S' := by unfold stepS; rw [if_neg (by rw [en]; exact Bool.false_ne_true)]
            have el : stepL L' r = L' := by
              unfold stepL
              rw [if_neg]
              intro w
              obtain ⟨n, g1, g2⟩ := newer_no en
              obtain ⟨l', g3, g4⟩ := z'.con r hr n g1
              have := newer_lt w g3
              omega
            rw [es, el]
            refine ⟨e1, e2, fun q hq => ?_⟩
            rcases List.mem_append.mp hq with w | w
            · exact hset q w
            · rw [List.mem_singleton.mp w, ← e1, ← e2]
              exact settled_of fun _ => en
    exact pass rs [] S L false _ M1 rfl z nd1 a1 a2 Fr.refl ⟨_, _, _, _, _, rfl⟩ (fun e => nomatch e) fun _ => ⟨rfl, rfl, fun _ h => nomatch h⟩
end DL
namespace DL
variable [Wd]
open PySem L2 PySem.Spec PyProof.Rows
/-! ### C(e, .., k = v) -/
section
variable {X : Cx} {g : G} {W : WX} {pos p : Pos} {e : Expr} {es : List Expr} {kws : List Keyword} {dA dK : DA} {x : Str}
end
end DL
namespace DL
variable [Wd]
open PySem L2 PySem.Spec PyProof.Rows
/-- each once, in order -/
def ordS (xs : List Str) : List Str := xs.foldl (fun a x => if x ∈ a then a else a ++ [x]) []
section
variable {M : Mem}
theorem ord_fold : ∀ (xs : List Str) (acc : List (Key × D)) (as : List Str), acc = as.map (fun x => (Sum.inr x, D.bl true)) → (xs.foldl (fun a x => putD a (Sum.inr x : Key) (.bl true)) acc) = (xs.foldl (fun a x => if x ∈ a then a else a ++ [x]) as).map fun x => (Sum.inr x, D.bl true)
  | [], acc, as, h => h
  | x :: xs, acc, as, h => by
    rw [List.foldl_cons, List.foldl_cons]
    refine ord_fold xs _ _ ?_
    subst h
    unfold putD
    have e : ((as.map fun x => ((Sum.inr x : Key), D.bl true)).any fun kv => decide (kv.1 = (Sum.inr x : Key))) = decide (x ∈ as) := by
      induction as with
      | nil => rfl
      | cons y ys ih =>
        rw [List.map_cons, List.any_cons, ih]
        by_cases q : y = x
        · subst q; simp
        · have q2 : ¬ x = y := fun z => q z.symm
          have q3 : ¬ (Sum.inr y : Key) = Sum.inr x := fun z => q (Sum.inr.inj z)
          simp [q2, q3]
    rw [e]
    by_cases q : x ∈ as
    · rw [if_pos (by simp [q]), if_pos q, List.map_map]
      refine List.map_congr_left fun y hy => ?_
      by_cases z : y = x
      · subst z; simp
      · have q3 : ¬ (Sum.inr y : Key) = Sum.inr x := fun w => z (Sum.inr.inj w)
        simp [q3]
    · rw [if_neg (by simp [q]), if_neg q, List.map_append]
      rfl
theorem isS_I {d : D} {xs : List D} (h : IsS M d xs) : ∃ st, IsI M d xs st ∧ st M := by
  cases h with
  | lst => exact ⟨_, .lst (.lst _), trivial⟩
  | rol => exact ⟨_, .lst (.rol _), trivial⟩
  | tup => exact ⟨_, .tup _, trivial⟩
  | ptr h => exact ⟨_, .lst (.ptr h), h⟩
theorem isS_len {d : D} {xs : List D} {Q : D → Mem → Prop} (h : IsS M d xs) (q : Q (.int (xs.length : Nat)) M) : rLen [d] M Q := .seq h q
theorem atI0 {α : Type} {x : α} {xs : List α} : atI (x :: xs) 0 = some x := atI_nat' (j := 0) rfl rfl
theorem atI1 {α : Type} {x y : α} {xs : List α} : atI (x :: y :: xs) 1 = some y := atI_nat' (j := 1) rfl rfl
theorem atI2 {α : Type} {x y z : α} {xs : List α} : atI (x :: y :: z :: xs) 2 = some z := atI_nat' (j := 2) rfl rfl
theorem ixq_tup {ds : List D} {i : Int} {e : D} {Q : D → Mem → Prop} (ha : atI ds i = some e) (q : Q e M) : IxQ M Q (.tup ds) (.int i) := .seq (.tup ds) ha q
theorem strs_in (x : Str) (xs : List Str) : ((xs.map D.str).any fun z => eqD z (.str x)) = decide (x ∈ xs) := by
  induction xs with
  | nil => rfl
  | cons y ys ih =>
    rw [List.map_cons, List.any_cons, ih]
    show ((y == x) || decide (x ∈ ys)) = _
    by_cases q : y = x
    · subst q; simp
    · have q2 : ¬ x = y := fun z => q z.symm
      simp [q, q2]
theorem strs_flat (xs : List Str) : (xs.map D.str).all flatD = true := by
  induction xs with
  | nil => rfl
  | cons y ys ih => rw [List.map_cons, List.all_cons, ih]; rfl
theorem nin_strs {e : D} {x : Str} {xs : List Str} {Q : D → Mem → Prop} (h : IsS M e (xs.map .str)) (q : Q (.bl (decide (x ∈ xs) != true)) M) : rNin (.str x) e M Q := .seq h rfl (strs_flat xs) (by rw [strs_in]; exact q)
theorem isS_fr {M' : Mem} {d : D} {xs : List D} {ps : List Addr} (h : IsS M d xs) (f : Fr ps M M') (hp : ∀ p ∈ ps, ∀ ys, (p, MO.lst ys) ∉ M) : IsS M' d xs := by
  cases h with
  | lst => exact .lst _
  | rol => exact .rol _
  | tup => exact .tup _
  | ptr h => exact .ptr (f _ _ (fun z => hp _ z _ h) h)
theorem tup_of {d : D} {xs : List D} (hd : IsS M d xs) {Q : D → Mem → Prop} (hq : Q (.tup xs) M) : rTuple [d] M Q := by
  cases hd with
  | lst => exact .lst (.lst _) hq
  | rol => exact .lst (.rol _) hq
  | tup => exact .tup hq
  | ptr h => exact .lst (.ptr h) hq
theorem ixt0 {x : D} {xs : List D} {Q : D → Mem → Prop} (q : Q x M) : IxQ M Q (.tup (x :: xs)) (.int 0) := ixq_tup atI0 q
theorem ixt1 {x y : D} {xs : List D} {Q : D → Mem → Prop} (q : Q y M) : IxQ M Q (.tup (x :: y :: xs)) (.int 1) := ixq_tup atI1 q
theorem ixt2 {x y z : D} {xs : List D} {Q : D → Mem → Prop} (q : Q z M) : IxQ M Q (.tup (x :: y :: z :: xs)) (.int 2) := ixq_tup atI2 q
theorem put_new {es : List (Str × D)} {f : Str} {d : D} (h : NoF f es) : Put es f d (es ++ [(f, d)]) := by
  induction h with
  | nil => exact .nil
  | cons ne _ ih => exact .tail ne ih
theorem fld_new {K : PySem.W.Frag} {q C : Addr} {es : List (Str × D)} {f : Str} {d : D} {R : Mem → Prop} (nd : Nd M) (hq : (q, MO.obj C es) ∈ M) (fo : FldOk K C f) (nf : NoF f es) (hl : es.length < 1000) (k : ∀ M', UpdOk q (.obj C es) (.obj C (es ++ [(f, d)])) M M' → R M') :
    ∃ q_1 C' es1 es' M3, D.ptr q = .ptr q_1 ∧ FldOk K C' f ∧ es1.length < 1000 ∧ Put es1 f d es' ∧ Upd q_1 (.obj C' es1) (.obj C' es') M M3 ∧ R M3 := by
  obtain ⟨M', U⟩ := upd_ex (n := .obj C (es ++ [(f, d)])) nd hq
  exact ⟨q, C, es, _, M', rfl, fo, hl, put_new nf, U.up, k M' U⟩
theorem ord_nodup {xs : List Str} (h : xs.Nodup) : ordS xs = xs := by
  have key : ∀ (xs as : List Str), (as ++ xs).Nodup → xs.foldl (fun a x => if x ∈ a then a else a ++ [x]) as = as ++ xs := by
    intro xs
    induction xs with
    | nil => intro as _; simp
    | cons x xs ih =>
      intro as hn
      have hx : x ∉ as := fun z => (List.nodup_append.mp hn).2.2 x z x List.mem_cons_self rfl
      rw [List.foldl_cons, if_neg hx, ih (as ++ [x]) (by simpa using hn)]
      simp
  exact key xs [] h
theorem put_new_key {es : List (Key × D)} {k : Key} {d : D} (h : ∀ e ∈ es, e.1 ≠ k) : putD es k d = es ++ [(k, d)] := by
  unfold putD
  rw [if_neg]
  rw [Bool.not_eq_true, List.any_eq_false]
  intro e he
  simp [h e he]
theorem okStr {x : Str} (h : NameOk x) : PyData.strOk x = true := by
  unfold PyData.strOk
  rw [Array.all_eq_true']
  intro c hc
  have := (h.lo c hc).2
  simp
  omega
theorem cut_nat {α : Type} (f : α → D) (xs : List α) (n : Nat) : DL.cutD (xs.map f) none (some (n : Int)) = (xs.take (min n xs.length)).map f := by
  unfold DL.cutD
  rw [HT.sIx_nat, show HT.sIx (xs.map f).length 0 none = 0 from rfl, List.drop_zero, Nat.sub_zero, List.length_map, List.map_take]
/-- _in_order -/
def dOrder : DS := sRet (dCB rList (dCons (dDe (iAny (dVar 0)) (.nm 1) (dYes) (dVar 1) (dC (.bl true)) [1]) (dNil)))
def spOrder : SpD := fun ds M Q _ => ∃ d xs, ds = [d] ∧ IsS M d (xs.map .str) ∧ xs.length ≤ 1000 ∧ Q (.lst ((ordS xs).map .str)) M
theorem pureOrder {ds : List D} {Qd : D → Mem → Prop} {Ed : XD} {y1 y2 : Str} (h : spOrder ds M Qd Ed) : dOrder (fun _ M' => Qd .non M') Qd (fun _ _ => False) (fun _ _ => False) (fun C dd _ M' => Ed C dd M') (start0 [y1, y2] ds) M := by
  obtain ⟨d, xs, rfl, hs, hl, q⟩ := h
  obtain ⟨st, hi, hst⟩ := isS_I hs
  unfold dOrder
  walk_at "dl"
  refine .inl ?_
  walk_at "dl"
  refine ⟨_, st, hi, lt_line (by rw [List.length_map]; omega), dc_map .str Sum.inr (fun _ => .bl true) hst (fun x _ => ⟨fun P1 h1 => ?_, fun P1 h1 => h1⟩) (.inl ?_)⟩
  · walk_at "dl"
    exact h1
  · walk_at "dl"
    refine .dic (.dic _) (.inl ?_)
    rw [ord_fold xs [] [] rfl, List.map_map]
    exact q
end
end DL
namespace DL
variable [Wd]
open PySem L2 PySem.Spec PyProof.Rows
section
variable {M : Mem} {K : PySem.W.Frag} {ds : List D} {Qd : D → Mem → Prop} {Ed : XD}
/-! ### the checks of a grammar -/
/-- what an own error with one field leaves -/
def Errs (E : XD) (C : Addr) (f : Str) (x : Str) (M : Mem) : Prop := ∀ dx, Free dx M → E C dx ((dx, .xd [(f, .str x)]) :: M)
def ConI (K : PySem.W.Frag) (C : Addr) (f : Str) (i : Int) : Prop := ∃ mc u, ClX.CRead K C mc ∧ ClX.CVal K C mc f (.int i) u
def dChkF (K : PySem.W.Frag) (cG cL cB : Addr) (sdO sdL sdB : SpD) : DS := sSeq (sIf (dB (dOp rGt (dCB rLen (dCons (dVar 0) (dNil))) (dCon K (dC (.ptr cG)) "MOST_FIELDS"))) (sRaise cL sdL (dCons (dC (.str ("fields" : Str))) (dNil))) (sNext)) (sIf (dB (dOp rLt (dCB rLen (dCons (dCall sdO (dCons (dVar 0) (dNil))) (dNil))) (dCB rLen (dCons (dVar 0) (dNil))))) (sRaise cB sdB (dCons (dC (.str ("fields" : Str))) (dNil))) (sNext))
def spChkF (cL cB : Addr) : SpD := fun ds M Q E => ∃ d xs, ds = [d] ∧ IsS M d (xs.map .str) ∧ Nd M ∧ xs.length ≤ 1000 ∧ (6 < xs.length → Errs E cL "limit" "fields" M) ∧ (xs.length ≤ 6 → (ordS xs).length < xs.length → Errs E cB "part" "fields" M) ∧ (xs.length ≤ 6 → ¬ (ordS xs).length < xs.length → Q .non M)
theorem pureChkF {cG cL cB : Addr} {y1 : Str} (co : ConI K cG "MOST_FIELDS" 6) (h : spChkF cL cB ds M Qd Ed) : dChkF K cG cL cB spOrder (spErr cL "limit") (spErr cB "part") (fun _ M' => Qd .non M') Qd (fun _ _ => False) (fun _ _ => False) (fun C dd _ M' => Ed C dd M') (start0 [y1] ds) M := by
  obtain ⟨d, xs, rfl, hs, nd, hl, k1, k2, k3⟩ := h
  obtain ⟨mc, u, c1, c2⟩ := co
  unfold dChkF
  walk_at "dl"
  refine isS_len hs ?_
  walk_at "dl"
  refine ⟨_, mc, _, u, rfl, c1, c2, ?_⟩
  walk_at "dl"
  by_cases h6 : 6 < xs.length
  · refine g_ift (by rw [List.length_map]; simp; omega) ?_
    refine g_raise ?_ fun Q Q' hQ z => hQ _ _ z
    walk_at "dl"
    exact ⟨_, rfl, nd, k1 h6⟩
  · refine g_iff' (by rw [List.length_map]; simp; omega) ?_
    walk_at "dl"
    refine ⟨d, xs, rfl, hs, hl, ?_⟩
    walk_at "dl"
    refine isS_len (.lst _) ?_
    walk_at "dl"
    refine isS_len hs ?_
    walk_at "dl"
    by_cases ho : (ordS xs).length < xs.length
    · refine g_ift (by rw [List.length_map, List.length_map]; simp; omega) ?_
      refine g_raise ?_ fun Q Q' hQ z => hQ _ _ z
      walk_at "dl"
      exact ⟨_, rfl, nd, k2 (by omega) ho⟩
    · refine g_iff' (by rw [List.length_map, List.length_map]; simp; omega) ?_
      walk_at "dl"
      exact k3 (by omega) ho
def dChkK (K : PySem.W.Frag) (cG cL cB : Addr) (sdO sdL sdB : SpD) : DS := sSeq (sIf (dOr (dB (dOp rEq (dCB rLen (dCons (dVar 0) (dNil))) (dC (.int 0)))) (dB (dOp rLt (dCB rLen (dCons (dCall sdO (dCons (dLc (iAny (dVar 0)) (.nm 2) (dYes) (dOp rIx (dVar 2) (dC (.int 0))) [2]) (dNil))) (dNil))) (dCB rLen (dCons (dVar 0) (dNil)))))) (sRaise cB sdB (dCons (dC (.str ("kinds" : Str))) (dNil))) (sNext)) (sSeq (sIf (dB (dOp rGt (dCB rLen (dCons (dVar 0) (dNil))) (dCon K (dC (.ptr cG)) "MOST_KINDS"))) (sRaise cL sdL (dCons (dC (.str ("kinds" : Str))) (dNil))) (sNext)) (sSeq (sIf (dB (dCB rAny (dCons (dLc (iAny (dVar 0)) (.nm 2) (dYes) (dOp rGt (dCB rLen (dCons (dOp rIx (dVar 2) (dC (.int 2))) (dNil))) (dCon K (dC (.ptr cG)) "MOST_CHILDREN")) [2]) (dNil)))) (sRaise cL sdL (dCons (dC (.str ("children" : Str))) (dNil))) (sNext)) (sSeq (sIf (dB (dOp rGt (dCB rLen (dCons (dVar 1) (dNil))) (dCon K (dC (.ptr cG)) "MOST_FAMILIES"))) (sRaise cL sdL (dCons (dC (.str ("families" : Str))) (dNil))) (sNext)) (sIf (dB (dCB rAny (dCons (dLc2 (iAny (dVar 0)) (.nm 2) (dYes) (iAny (dOp rIx (dVar 2) (dC (.int 2)))) (.nm 3) (dYes) (dOp rNin (dVar 3) (dVar 1)) [2, 3] [3]) (dNil)))) (sRaise cB sdB (dCons (dC (.str ("children" : Str))) (dNil))) (sNext)))))
/-- which rule the kinds break: true a BadGrammar, false a LimitExceeded -/
def kindsErr (rs : List Kd) (fs : List Str) : Option (Bool × Str) :=
  if rs.length = 0 ∨ (ordS (rs.map (·.n))).length < rs.length then some (true, "kinds")
  else if 8 < rs.length then some (false, "kinds")
  else if (rs.any fun r => decide (3 < r.ch.length)) = true then some (false, "children")
  else if 3 < fs.length then some (false, "families")
  else if (rs.any fun r => r.ch.any fun c => decide (c ∉ fs)) = true then some (true, "children")
  else none
def Out (E : XD) (cL cB : Addr) (M : Mem) (k : Prop) : Option (Bool × Str) → Prop
  | none => k
  | some (true, s) => Errs E cB "part" s M
  | some (false, s) => Errs E cL "limit" s M
def spChkK (cL cB : Addr) : SpD := fun ds M Q E => ∃ (d e : D) (rs : List Kd) (fs : List Str), ds = [d, e] ∧ IsS M d (rs.map kdD) ∧ IsS M e (fs.map .str) ∧ Nd M ∧ rs.length ≤ 1000 ∧ Out E cL cB M (Q .non M) (kindsErr rs fs)
theorem any_map_id {α : Type} (p : α → Bool) (xs : List α) : (xs.map p).any id = xs.any p := by
  induction xs with
  | nil => rfl
  | cons x xs ih => rw [List.map_cons, List.any_cons, List.any_cons, ih]; rfl
theorem any_flat {α β : Type} (f : α → List β) (p : β → Bool) (xs : List α) : (xs.flatMap fun x => (f x).map p).any id = xs.any fun x => (f x).any p := by
  induction xs with
  | nil => rfl
  | cons x xs ih => rw [List.flatMap_cons, List.any_append, ih, any_map_id, List.any_cons]
theorem pureChkK {cG cL cB : Addr} {y1 y2 y3 y4 : Str} (co1 : ConI K cG "MOST_KINDS" 8) (co2 : ConI K cG "MOST_CHILDREN" 3) (co3 : ConI K cG "MOST_FAMILIES" 3) (h : spChkK cL cB ds M Qd Ed) :
    dChkK K cG cL cB spOrder (spErr cL "limit") (spErr cB "part") (fun _ M' => Qd .non M') Qd (fun _ _ => False) (fun _ _ => False) (fun C dd _ M' => Ed C dd M') (start0 [y1, y2, y3, y4] ds) M := by
  obtain ⟨d, e, rs, fs, rfl, hs, he, nd, hl, q⟩ := h
  obtain ⟨mc1, u1, c1, c2⟩ := co1
  obtain ⟨mc2, u2, c3, c4⟩ := co2
  obtain ⟨mc3, u3, c5, c6⟩ := co3
  obtain ⟨st, hi, hst⟩ := isS_I hs
  have hsz : (rs.map kdD).length < sizeLine := lt_line (by rw [List.length_map]; omega)
  unfold kindsErr at q
  unfold dChkK
  walk_at "dl"
  refine isS_len hs ?_
  walk_at "dl"
  by_cases h0 : rs.length = 0
  · refine g_ift (by rw [List.length_map]; simp [h0]) ?_
    refine g_t ?_
    rw [if_pos (.inl h0)] at q
    refine g_raise ?_ fun Q Q' hQ z => hQ _ _ z
    walk_at "dl"
    exact ⟨_, rfl, nd, q⟩
  refine g_iff' (by rw [List.length_map]; simpa using h0) ?_
  walk_at "dl"
  refine ⟨_, st, hi, hsz, lc_map kdD (fun r => .str r.n) hst (fun r _ P1 h1 => ?_) (.inl ?_)⟩
  · walk_at "dl"
    exact ixt0 h1
  walk_at "dl"
  refine ⟨_, rs.map (·.n), rfl, by rw [List.map_map]; exact .lst _, by rw [List.length_map]; exact hl, ?_⟩
  walk_at "dl"
  refine isS_len (.lst _) ?_
  walk_at "dl"
  refine isS_len hs ?_
  walk_at "dl"
  by_cases h1 : (ordS (rs.map (·.n))).length < rs.length
  · refine g_ift (by rw [List.length_map, List.length_map]; simp; omega) ?_
    rw [if_pos (.inr h1)] at q
    refine g_raise ?_ fun Q Q' hQ z => hQ _ _ z
    walk_at "dl"
    exact ⟨_, rfl, nd, q⟩
  refine g_iff' (by rw [List.length_map, List.length_map]; simp; omega) ?_
  rw [if_neg (fun z => z.elim h0 h1)] at q
  walk_at "dl"
  refine isS_len hs ?_
  walk_at "dl"
  refine ⟨_, mc1, _, u1, rfl, c1, c2, ?_⟩
  walk_at "dl"
  by_cases h8 : 8 < rs.length
  · refine g_ift (by rw [List.length_map]; simp; omega) ?_
    rw [if_pos h8] at q
    refine g_raise ?_ fun Q Q' hQ z => hQ _ _ z
    walk_at "dl"
    exact ⟨_, rfl, nd, q⟩
  refine g_iff' (by rw [List.length_map]; simp; omega) ?_
  rw [if_neg h8] at q
  walk_at "dl"
  refine ⟨_, st, hi, hsz, lc_map kdD (fun r => .bl (decide (3 < r.ch.length))) hst (fun r _ P1 h1 => ?_) (.inl ?_)⟩
  · walk_at "dl"
    refine ixt2 ?_
    walk_at "dl"
    refine isS_len (.tup _) ?_
    walk_at "dl"
    refine ⟨_, mc2, _, u2, rfl, c3, c4, ?_⟩
    walk_at "dl"
    have e1 : decide ((3 : Int) < (((r.ch.map D.str).length : Nat) : Int)) = decide (3 < r.ch.length) := by
      rw [List.length_map]
      exact decide_eq_decide.mpr (by omega)
    rw [e1]
    exact h1
  walk_at "dl"
  refine .lst (bs := rs.map fun r => decide (3 < r.ch.length)) (by rw [List.map_map]; exact .lst _) ?_
  walk_at "dl"
  have ea := any_map_id (fun r : Kd => decide (3 < r.ch.length)) rs
  by_cases h3 : (rs.any fun r => decide (3 < r.ch.length)) = true
  · refine g_ift (ea.trans h3) ?_
    rw [if_pos h3] at q
    refine g_raise ?_ fun Q Q' hQ z => hQ _ _ z
    walk_at "dl"
    exact ⟨_, rfl, nd, q⟩
  refine g_iff' (ea.trans (by simpa using h3)) ?_
  rw [if_neg h3] at q
  have h3' : ∀ r ∈ rs, r.ch.length ≤ 3 := fun r hr => Nat.le_of_not_lt fun z => h3 (List.any_eq_true.mpr ⟨r, hr, decide_eq_true z⟩)
  walk_at "dl"
  refine isS_len he ?_
  walk_at "dl"
  refine ⟨_, mc3, _, u3, rfl, c5, c6, ?_⟩
  walk_at "dl"
  by_cases h4 : 3 < fs.length
  · refine g_ift (by rw [List.length_map]; simp; omega) ?_
    rw [if_pos h4] at q
    refine g_raise ?_ fun Q Q' hQ z => hQ _ _ z
    walk_at "dl"
    exact ⟨_, rfl, nd, q⟩
  refine g_iff' (by rw [List.length_map]; simp; omega) ?_
  rw [if_neg h4] at q
  walk_at "dl"
  refine ⟨_, st, hi, ?_⟩
  refine lc2_map kdD (fun r => r.ch) .str (fun _ c => .bl (decide (c ∉ fs))) hst ?_ (fun r hr => ⟨fun R hR => ?_, fun c hc P1 h1 => ?_⟩) (.inl ?_)
  · have hle : ∀ l : List Kd, (∀ r ∈ l, r.ch.length ≤ 3) → (l.flatMap fun r => r.ch.map fun c => D.bl (decide (c ∉ fs))).length ≤ 3 * l.length := by
      intro l
      induction l with
      | nil => intro _; exact Nat.le_refl _
      | cons r l ih =>
        intro hl
        rw [List.flatMap_cons, List.length_append, List.length_map, List.length_cons]
        have := ih fun z hz => hl z (List.mem_cons_of_mem _ hz)
        have := hl r List.mem_cons_self
        omega
    have := hle rs h3'
    exact lt_line (by show 0 + _ ≤ _; omega)
  · walk_at "dl"
    refine ixt2 ?_
    exact ⟨_, _, .tup _, hR _ trivial⟩
  · walk_at "dl"
    refine nin_strs he ?_
    rw [show (decide (c ∈ fs) != true) = decide (c ∉ fs) by by_cases z : c ∈ fs <;> simp [z]]
    exact h1
  walk_at "dl"
  refine .lst (bs := rs.flatMap fun r => r.ch.map fun c => decide (c ∉ fs)) (by rw [List.map_flatMap]; simp only [List.map_map]; exact .lst _) ?_
  walk_at "dl"
  have ef := any_flat (fun r : Kd => r.ch) (fun c => decide (c ∉ fs)) rs
  by_cases h5 : (rs.any fun r => r.ch.any fun c => decide (c ∉ fs)) = true
  · refine g_ift (ef.trans h5) ?_
    rw [if_pos h5] at q
    refine g_raise ?_ fun Q Q' hQ z => hQ _ _ z
    walk_at "dl"
    exact ⟨_, rfl, nd, q⟩
  refine g_iff' (ef.trans (by simpa using h5)) ?_
  rw [if_neg h5] at q
  walk_at "dl"
  exact q
end
end DL
namespace DL
variable [Wd]
open PySem L2 PySem.Spec PyProof.Rows

/-! ### enumerate: over a list or a tuple, from a number on -/
/-- an iterator over what SQ tells, drawn from by enumerate -/
structure Src1 (P : Program) (w : World) (K : PySem.W.Frag) (it : Addr) (SQ : Hp → List V → Prop) (tn : Nat → Heap → Prop) : Prop where
  live : ∀ i h, tn i h → ∃ o, h.get? it = some o ∧ (∀ v, o.data ≠ .cell v) ∧ o.cls ≠ .type "enumerate"
  stay : ∀ i h h', tn i h → (∀ o, h.get? it = some o → h'.get? it = some o) → tn i h'
  inj : ∀ (X : Cx), X.prog = P → X.w = w → X.K = K → ∀ (pins : List (Addr × Obj)) (s : Shared) (σ : L2.St) (H : Hp) (xs ys : List V), Inv X pins σ H s → SQ H xs → SQ H ys → xs = ys
  dr : ∀ (X : Cx), X.prog = P → X.w = w → X.K = K → X.calm = true → ∀ (pins : List (Addr × Obj)) (s : Shared) (σ : L2.St) (H : Hp) (xs : List V) (i : Nat), Inv X pins σ H s → tn i s.heap → SQ H xs →
    ∃ (its : List Value) (St : Nat → Heap → Prop) (b : Addr) (ob : Obj), Vals xs its ∧ s.heap.get? b = some ob ∧ ob.cls ≠ .type "enumerate" ∧ Draws P w X.A.in1 it [it, b] its.length (fun j v => its[j]? = some v) St ∧ St i s.heap ∧ ∀ j h, St j h → tn j h
  dn : ∀ (X : Cx), X.prog = P → X.w = w → X.K = K → X.calm = true → ∀ (pins : List (Addr × Obj)) (s : Shared) (σ : L2.St) (H : Hp) (xs : List V) (i : Nat), Inv X pins σ H s → tn i s.heap → SQ H xs → xs.length ≤ i →
    ∃ (fp : List Addr) (St : Nat → Heap → Prop), Draws P w X.A.in1 it fp 0 (fun _ _ => False) St ∧ St 0 s.heap
/-- the items with their numbers from k, each pair new -/
def ItN (SQ : Hp → List V → Prop) (k : Int) : It where
  go := fun i H => ∃ xs x, SQ H xs ∧ xs[i]? = some x
  yld := fun i H v H' => ∃ T x, v = .ref T ∧ H T = none ∧ H' = upd H T (.tup [.int (k + (i : Nat)), x]) ∧ ∀ xs, SQ H xs → xs[i]? = some x
  stop := fun i H => ∃ xs, SQ H xs ∧ xs.length ≤ i
theorem turnN {P : Program} {w : World} {K : PySem.W.Frag} {elts : List Expr} {kk : Nat} {tpos : Pos} {SQ : Hp → List V → Prop} {tn : Nat → Heap → Prop} {it : Addr} (k : Int) (e : Addr) (Z : Src1 P w K it SQ tn) :
    Turn P w K (.Tuple elts kk tpos) (ItN SQ k) [e, it] e (fun i h => (∃ old, IsEnum h e it (k + (i : Nat)) old) ∧ tn i h ∧ e ≠ it) := by
  have two : ∀ {b : Addr}, b ∈ [e, it] → b = e ∨ b = it := fun {b} hb => by simpa using hb
  refine ⟨List.mem_cons_self, ?_, ?_, ?_, ?_, ?_⟩
  · rintro i h ⟨⟨old, he⟩, hi, _⟩ b hb
    rcases two hb with z | z
    · refine ⟨{ cls := .type "enumerate", data := .fields #[.none, .bool false, .ref it, rawInt (k + (i : Nat)), .none, old] }, by rw [z]; exact he, fun v q => ?_⟩
      cases q
    · obtain ⟨o, h1, h2, _⟩ := Z.live i h hi
      exact ⟨o, by rw [z]; exact h1, h2⟩
  · rintro i h h' ⟨⟨old, he⟩, hi, hne⟩ kp
    exact ⟨⟨old, kp e List.mem_cons_self _ he⟩, Z.stay i h h' hi fun o q => kp it (List.mem_cons_of_mem _ List.mem_cons_self) o q, hne⟩
  · rintro X hP hw hK hc i pins s σ H E I hf ⟨⟨old, he⟩, hi, hne⟩ ⟨xs, x, hq, hx⟩
    obtain ⟨its, St, b, ob, rv, hb, nb, D, st, back⟩ := Z.dr X hP hw hK hc pins s σ H xs i I hi hq
    have inj := fun ys => Z.inj X hP hw hK pins s σ H ys xs I
    subst hP hw
    obtain ⟨u, hu, ru⟩ := rv.get hx
    have hef : e ∉ [it, b] := fun z => by
      rcases (show e = it ∨ e = b by simpa using z) with z | z
      · exact hne z
      · rw [← z, he] at hb
        cases hb
        exact nb rfl
    have el := Heap.lt_size he
    have il : it < s.heap.objs.size := let ⟨o, q, _⟩ := Z.live i _ hi; Heap.lt_size q
    refine (WalksT.enumFrom k D e hne hef List.mem_cons_self).item i s _ E (List.getElem?_eq_some_iff.mp hu).1 ⟨⟨old, he⟩, st⟩ fun T vals h1 tk1 ⟨t, y, hy, ev⟩ hT htu mid kp => ⟨.ref T, rfl, ?_⟩
    subst ev
    have ey : y = u := Option.some.inj (hy.symm.trans hu)
    subst ey
    refine (WalksT.enumFrom k D e hne hef List.mem_cons_self).go elts kk tpos i T { s with heap := h1, toks := tk1 } _ E mid fun h2 ⟨he2, st2⟩ kp2 => ?_
    have apart : T ∉ [e, it] := (WalksT.enumFrom k D e hne hef List.mem_cons_self).apart i T h1 mid
    obtain ⟨o, ho, oc, n, od⟩ := htu
    have hT2 : h2.get? T = some o := kp2 T o apart ho
    have new : ObjOk X.prog X.w (upd H T (.tup [.int (k + (i : Nat)), x])) h2 T (.tup [.int (k + (i : Nat)), x]) :=
      ⟨by show 2 ≤ sizeLine; decide, [.int (k + (i : Nat)) t, y], .cons ⟨_, rfl⟩ (.cons ru .nil), o, hT2, oc, n, od⟩
    refine ⟨.ref T, _, I.turnedNew (t' := tk1) (ch := [e, it]) (fun c oc' hc' q => kp2 c oc' hc' (kp c oc' hc' q)) hf hT new, rfl, ⟨T, x, rfl, I.hok.fresh hT, rfl, fun ys hy => by rw [inj ys hy hq]; exact hx⟩, ⟨he2, back _ _ st2, hne⟩, fun c hc' => ?_⟩
    have hlt : c < s.heap.objs.size := by
      rcases two hc' with z | z
      · rw [z]; exact el
      · rw [z]; exact il
    rw [upd_ne (Nat.ne_of_lt (Nat.lt_of_lt_of_le hlt hT))]
    exact (hf c hc').1
  · rintro X hP hw hK hc i pins s σ H E I hf ⟨⟨old, he⟩, hi, hne⟩ ⟨xs, hq, hx⟩
    obtain ⟨fp, St, D, st⟩ := Z.dn X hP hw hK hc pins s σ H xs i I hi hq hx
    subst hP hw
    obtain ⟨f0, f1, f2, f3, f4, f5⟩ := hf it (List.mem_cons_of_mem _ List.mem_cons_self)
    exact wpAny_pyNext_enum_endD D he st fun h' eb => ⟨rfl, I.turned (t' := s.toks) (fun b o hb q => eb b o hb q) f0 f1 f3 f4 f5⟩
  · rintro A i s Q E ⟨⟨_, he⟩, _⟩ q
    exact wpAny_pyIter_enum he q
section
variable {P : Program} {w : World} {K : PySem.W.Frag}
theorem srcL (a it : Addr) : Src1 P w K it (fun H xs => SqL K H a xs) (fun i h => h.IsListIter it a i) := by
  have ne : ∀ {h : Heap} {i : Nat} {its : Array Value}, h.IsListIter it a i → h.IsList a its → a ≠ it := by
    rintro h i its ⟨o1, q1, c1, _⟩ ⟨o2, q2, c2, _⟩ z
    rw [z, q1] at q2
    cases q2
    rw [c1] at c2
    exact absurd c2 (by simp)
  refine ⟨?_, fun i h h' st kp => st.at fun o q => kp o q, fun X hP hw hK pins s σ H xs ys I h1 h2 => by subst hK; exact I.list_inj h1 h2, ?_, ?_⟩
  · rintro i h ⟨o, q, c, d⟩
    exact ⟨o, q, (fun v z => by rw [d] at z; cases z), fun z => by rw [c] at z; exact absurd z (by simp)⟩
  · rintro X hP hw hK hc pins s σ H xs i I hi hq
    subst hP hw hK
    obtain ⟨its, rv, p, hz⟩ := I.list hq
    have pl : s.heap.IsList a its.toArray := p.isList
    obtain ⟨ob, qb, cb, _⟩ := id pl
    have D := Draws.list (prog := X.prog) (w := X.w) (A := X.A.in1) (I.ok.hd hc) it a (ne hi pl) its.toArray
    exact ⟨its, fun j h => h.IsListIter it a j ∧ h.IsList a its.toArray, a, ob, rv, qb, by rw [cb]; simp, by simpa using D, ⟨hi, pl⟩, fun _ _ z => z.1⟩
  · rintro X hP hw hK hc pins s σ H xs i I hi hq hx
    subst hP hw hK
    obtain ⟨its, rv, p, hz⟩ := I.list hq
    have pl : s.heap.IsList a its.toArray := p.isList
    have hl := rv.length
    refine ⟨[it, a], fun _ h => h.IsListIter it a i ∧ h.IsList a its.toArray, ⟨fun _ h st => let ⟨o, q, _⟩ := st.1; ⟨o, q⟩, fun _ h h' st kp => ⟨st.1.at fun o q => kp it (by simp) o q, st.2.at fun o q => kp a (by simp) o q⟩, fun i s Q E hlt => absurd hlt (Nat.not_lt_zero _), fun s Q E st hE => ?_⟩, hi, pl⟩
    exact wpAny_nextOf_list_end (I.ok.hd hc) st.1 st.2 (by simp; omega) hE
theorem srcT (a it : Addr) : Src1 P w K it (fun H xs => SqT K H a xs) (fun i h => h.IsTupleIter it a i) := by
  have ne : ∀ {h : Heap} {i : Nat} {its : Array Value}, h.IsTupleIter it a i → h.IsTuple a its → a ≠ it := by
    rintro h i its ⟨o1, q1, c1, _⟩ ⟨o2, q2, c2, _⟩ z
    rw [z, q1] at q2
    cases q2
    rw [c1] at c2
    exact absurd c2 (by simp)
  refine ⟨?_, fun i h h' st kp => st.at fun o q => kp o q, fun X hP hw hK pins s σ H xs ys I h1 h2 => by subst hK; exact I.tuple_inj h1 h2, ?_, ?_⟩
  · rintro i h ⟨o, q, c, d⟩
    exact ⟨o, q, (fun v z => by rw [d] at z; cases z), fun z => by rw [c] at z; exact absurd z (by simp)⟩
  · rintro X hP hw hK hc pins s σ H xs i I hi hq
    subst hP hw hK
    obtain ⟨its, rv, p, hz⟩ := I.tuple hq
    have pl : s.heap.IsTuple a its.toArray := p
    obtain ⟨ob, qb, cb, _⟩ := id pl
    have D := Draws.tuple (prog := X.prog) (w := X.w) (A := X.A.in1) (I.ok.hd hc) it a (ne hi pl) its.toArray
    exact ⟨its, fun j h => h.IsTupleIter it a j ∧ h.IsTuple a its.toArray, a, ob, rv, qb, by rw [cb]; simp, by simpa using D, ⟨hi, pl⟩, fun _ _ z => z.1⟩
  · rintro X hP hw hK hc pins s σ H xs i I hi hq hx
    subst hP hw hK
    obtain ⟨its, rv, p, hz⟩ := I.tuple hq
    have pl : s.heap.IsTuple a its.toArray := p
    have hl := rv.length
    refine ⟨[it, a], fun _ h => h.IsTupleIter it a i ∧ h.IsTuple a its.toArray, ⟨fun _ h st => let ⟨o, q, _⟩ := st.1; ⟨o, q⟩, fun _ h h' st kp => ⟨st.1.at fun o q => kp it (by simp) o q, st.2.at fun o q => kp a (by simp) o q⟩, fun i s Q E hlt => absurd hlt (Nat.not_lt_zero _), fun s Q E st hE => ?_⟩, hi, pl⟩
    exact wpAny_nextOf_tuple_end (I.ok.hd hc) st.1 st.2 (by simp; omega) hE
end
end DL
namespace DL
variable [Wd]
open PySem L2 PySem.Spec PyProof.Rows
theorem callWith_typeKw {M : Model} {A : Around} {E : Value → Shared → Prop} {s : Shared} {env : Env} {pos : Pos} {T : String} {e : Expr} {rest : List Expr} {kws : List Keyword} {Q : Value → Shared → Prop}
    (h : wpAny M A (spliced (backTo pos (starEach (e :: rest) env))) (fun vs s₁ => wpAny M A (evalAll ((backToKw pos (keywordEach kws env)).map (·.2)))
      (fun kvs s₂ => wpAny M A (call (.type T) vs (((backToKw pos (keywordEach kws env)).filterMap (·.1)).zip kvs)) Q E s₂) E s₁) E s)
    (he : backTo pos (starEach (e :: rest) env) = (false, eval e env) :: backTo pos (starEach rest env) := by rfl)
    (hplain : (backTo pos (starEach (e :: rest) env)).any (·.1) = false := by rfl)
    (hall : (backToKw pos (keywordEach kws env)).all (·.1.isSome) = true := by rfl)
    (hkw : (backToKw pos (keywordEach kws env)).any (·.1.isNone) = false := by rfl) :
    wpAny M A (callWith pos (.type T) [] (backTo pos (starEach (e :: rest) env)) (backToKw pos (keywordEach kws env))) Q E s := by
  have key : ∀ {args : List (Bool × Sem Value)} {keywords : List (Option Str × Sem Value)}, args.any (·.1) = false → keywords.any (·.1.isNone) = false → wpAny M A (evalArgs (.type T) true args keywords) (fun a s₁ => wpAny M A (call (.type T) (([] : List Value) ++ a.pos) a.kw) Q E s₁) E s → wpAny M A (callWith pos (.type T) [] args keywords) Q E s := by
    intro args keywords hp hk h
    unfold callWith
    refine wpAny_bind (wpAny_holding (wpAny_mono h (fun a s₁ h₁ => wpAny_bind (wpAny_standAt ?_)) fun _ _ x => x))
    simp only [hp, hk, Bool.or_false]
    refine wpAny_bind (wpAny_pure ?_)
    exact wpAny_bind (wpAny_mono h₁ (fun r s₂ hr => wpAny_bind (wpAny_holding (wpAny_point (wpAny_pure hr)))) fun _ _ x => x)
  refine key hplain hkw ?_
  rw [he] at h ⊢
  exact evalArgs_kwB hall h
/-- the numbers beside the items -/
def enumL {α : Type} (k : Int) : List α → List (Int × α)
  | [] => []
  | x :: xs => (k, x) :: enumL (k + 1) xs
def prD (p : Int × D) : D := .tup [.int p.1, p.2]
theorem enumL_get {α : Type} : ∀ {xs : List α} {k : Int} {i : Nat}, (enumL k xs)[i]? = (xs[i]?).map fun x => (k + (i : Nat), x)
  | [], _, _ => rfl
  | x :: xs, k, 0 => by simp [enumL]
  | x :: xs, k, i + 1 => by
    show (enumL (k + 1) xs)[i]? = (xs[i]?).map _
    rw [enumL_get]
    have e : k + 1 + (i : Nat) = k + ((i + 1 : Nat) : Int) := by omega
    rw [e]
theorem enumL_len {α : Type} : ∀ {xs : List α} {k : Int}, (enumL k xs).length = xs.length
  | [], _ => rfl
  | x :: xs, k => congrArg (· + 1) enumL_len
inductive IsN (M : Mem) : D → List D → (Mem → Prop) → Prop
  | lst {d : D} {ds : List D} {st : Mem → Prop} : IsL M d ds st → IsN M d ds st
  | tup (ds : List D) : IsN M (.tup ds) ds fun _ => True
def iEn (k : Int) (de : DE) : DI := fun ρ M Q E => de ρ M (fun d M1 => ∃ ds st, IsN M1 d ds st ∧ Q ((enumL k ds).map prD) st M1) E
section
variable {X : Cx} {g : G} {W : WX} {pos p : Pos} {e : Expr} {de dk : DE}
def enQ (k : Int) (Q : List D → (Mem → Prop) → Mem → Prop) (ds : List D) (M1 : Mem) : Prop := match ds with
  | [d] => ∃ ds st, IsN M1 d ds st ∧ Q ((enumL k ds).map prD) st M1
  | _ => False
theorem enQ_one {k : Int} {Q : List D → (Mem → Prop) → Mem → Prop} {ds : List D} {M1 : Mem} (h : enQ k Q ds M1) : ∃ d, ds = [d] ∧ ∃ ds st, IsN M1 d ds st ∧ Q ((enumL k ds).map prD) st M1 := by
  unfold enQ at h
  split at h
  · exact ⟨_, rfl, h⟩
  · exact h.elim
theorem iEn_one {ρ : Rho} {M : Mem} {k : Int} {Q : List D → (Mem → Prop) → Mem → Prop} {E : XD} (q : iEn k de ρ M Q E) : dCons de dNil ρ M (enQ k Q) E := q
theorem yields_enL {F : Hp} {a : Addr} {ds : List D} {k : Int} {st : Mem → Prop} (hK : g.K = X.K) (hr : ∀ U F' M' H', Same F F' → Sta ⟨g.K, U⟩ F' M' H' → st M' → ∃ ys, SqL g.K H' a ys ∧ Reps g.K F' ys ds) : Yields g.K noH (ItN (fun H xs => SqL X.K H a xs) k) F ((enumL k ds).map prD) st := by
  refine ⟨fun _ _ e => (nomatch e), fun i d U F' M H _ s S h e => ?_, fun i U F' M H _ s S h e => ?_⟩
  · obtain ⟨ys, hq, r⟩ := hr U F' M H s S h
    rw [List.getElem?_map, enumL_get] at e
    cases ed : ds[i]? with
    | none => rw [ed] at e; cases e
    | some x =>
      rw [ed] at e
      cases e
      obtain ⟨v, hv, rv⟩ := r.get ed
      refine ⟨⟨ys, v, by rw [← hK]; exact hq, hv⟩, fun x' H' ⟨T, y, ex, hT, eH, hy⟩ => ?_⟩
      subst ex eH
      have y' := hy ys (by rw [← hK]; exact hq)
      rw [hv] at y'
      cases y'
      obtain ⟨s2, S2⟩ := S.newF (o := .tup [.int (k + (i : Nat)), v]) hT
      exact ⟨_, s2, S2, .tup upd_same (.cons (.int _) (.cons (rv.mono s2) .nil))⟩
  · obtain ⟨ys, hq, r⟩ := hr U F' M H s S h
    rw [List.length_map, enumL_len] at e
    exact ⟨ys, by rw [← hK]; exact hq, by rw [r.length]; exact e⟩
theorem yields_enT {F : Hp} {a : Addr} {ds : List D} {k : Int} {xs : List V} (hK : g.K = X.K) (hs : F a = some (.tup xs)) (r : Reps g.K F xs ds) : Yields g.K noH (ItN (fun H xs => SqT X.K H a xs) k) F ((enumL k ds).map prD) (fun _ => True) := by
  refine ⟨fun _ _ e => (nomatch e), fun i d U F' M H _ s S h e => ?_, fun i U F' M H _ s S h e => ?_⟩
  · have hq := S.sub.sqT (K := g.K) (sqT_mono s hs)
    rw [List.getElem?_map, enumL_get] at e
    cases ed : ds[i]? with
    | none => rw [ed] at e; cases e
    | some x =>
      rw [ed] at e
      cases e
      obtain ⟨v, hv, rv⟩ := r.get ed
      refine ⟨⟨xs, v, by rw [← hK]; exact hq, hv⟩, fun x' H' ⟨T, y, ex, hT, eH, hy⟩ => ?_⟩
      subst ex eH
      have y' := hy xs (by rw [← hK]; exact hq)
      rw [hv] at y'
      cases y'
      obtain ⟨s2, S2⟩ := S.newF (o := .tup [.int (k + (i : Nat)), v]) hT
      exact ⟨_, s2, S2, .tup upd_same (.cons (.int _) (.cons ((rv.mono s).mono s2) .nil))⟩
  · have hq := S.sub.sqT (K := g.K) (sqT_mono s hs)
    rw [List.length_map, enumL_len] at e
    exact ⟨xs, by rw [← hK]; exact hq, by rw [r.length]; exact e⟩
/-- what is behind the call of enumerate -/
theorem enum_end {elts : List Expr} {kk : Nat} {tpos : Pos} {pins : List (Addr × Obj)} {σ : L2.St} {H1 : Hp} {s1 : Shared} {M2 : Mem} {F2 : Hp} {d : D} {ds : List D} {st : Mem → Prop} {k : Int} {v : V} {u : Value} {R : It → Hp → Prop} (hK : g.K = X.K) (I1 : Inv X pins σ H1 s1) (S2 : Sta g F2 M2 H1) (r : Rep g.K F2 v d) (rv : RelV v u) (hi : IsN M2 d ds st)
    (kR : ∀ J, Yields g.K noH J F2 ((enumL k ds).map prD) st → R J H1) :
    (∃ (o : Obj) (HH : Heap → Prop), Begins u o HH ∧ HH s1.heap ∧ ∀ h', IsEnum h' (s1.heap.objs.size + 1) s1.heap.objs.size k .none → h'.get? s1.heap.objs.size = some o → h'.objs.size = s1.heap.objs.size + 2 → (∀ b o, s1.heap.get? b = some o → h'.get? b = some o) →
      wpAny (model X.prog X.w) X.A (pyIter (.ref (s1.heap.objs.size + 1))) (PIE X pins σ (.Tuple elts kk tpos) R) X.xe { s1 with heap := h' }) := by
  have ff : ∀ b ∈ [s1.heap.objs.size + 1, s1.heap.objs.size], FpOk X pins H1 b := fun b hb => by
    have e' : b = s1.heap.objs.size + 1 ∨ b = s1.heap.objs.size := by simpa using hb
    have hle : s1.heap.objs.size ≤ b := by
      rcases e' with z | z
      · rw [z]; exact Nat.le_add_right _ _
      · rw [z]; exact Nat.le_refl _
    exact I1.fpOk hle (I1.hok.fresh hle)
  cases hi with
  | lst hl =>
    obtain ⟨a, xs, ev, hq, r1, r2⟩ := hl.sq S2 r
    subst ev
    obtain rfl : u = Value.ref a := rv
    rw [hK] at hq
    obtain ⟨its, rv', p', hz⟩ := I1.list hq
    refine ⟨_, _, begins_list a its.toArray, p'.isList, fun h' he hit hsz hk => wpAny_pyIter_enum he ?_⟩
    exact ⟨s1.heap.objs.size + 1, _, _, _, H1, rfl, I1.kept (t' := s1.toks) hk, turnN k (s1.heap.objs.size + 1) (srcL a s1.heap.objs.size), ⟨⟨.none, by simpa using he⟩, ⟨_, hit, rfl, rfl⟩, Nat.succ_ne_self _⟩, ff, kR _ (yields_enL hK r2)⟩
  | tup =>
    cases r with
    | tup hs r =>
      obtain rfl : u = Value.ref _ := rv
      have hq := S2.sub.sqT (K := g.K) hs
      rw [hK] at hq
      obtain ⟨its, rv', p', hz⟩ := I1.tuple hq
      refine ⟨_, _, begins_tuple _ its.toArray, (show s1.heap.IsTuple _ its.toArray from p'), fun h' he hit hsz hk => wpAny_pyIter_enum he ?_⟩
      exact ⟨s1.heap.objs.size + 1, _, _, _, H1, rfl, I1.kept (t' := s1.toks) hk, turnN k (s1.heap.objs.size + 1) (srcT _ s1.heap.objs.size), ⟨⟨.none, by simpa using he⟩, ⟨_, hit, rfl, rfl⟩, Nat.succ_ne_self _⟩, ff, kR _ (yields_enT hK hs r)⟩
theorem di_enumS {elts : List Expr} {kk j : Nat} {tpos kp cp : Pos} {k : Int} (hK : g.K = X.K) (h0 : 0 ≤ k) (h1 : k < 1000) (hg : Gl X "enumerate") (hm : X.mg "enumerate" = none) (ha : PE X e (liftE g W de)) (hs : starEach [e] X.env = [(false, eval e X.env)] := by rfl) (hs2 : backTo pos (starEach [e] X.env) = (false, eval e X.env) :: backTo pos (starEach [] X.env) := by rfl) (hpl : (backTo pos (starEach [e] X.env)).any (·.1) = false := by rfl) :
    PI X (.Tuple elts kk tpos) (.Call (.Name "enumerate" p) [e] [⟨some "start", .Constant (.int k) j cp, kp⟩] pos) (liftI g W (iEn k de)) := by
  refine ⟨fun pins s σ H R I ⟨ρ, M, F, Q, E, S, En, q, kQ, kE⟩ => ?_⟩
  have hA := da_cons ha (da_nil (g := g) (W := W)) hs
  have hk := pk_cons (nm := some "start") (kpos := kp) (pe_int (X := X) (i := k) (j := j) (pos := cp)) (pk_nil (X := X))
  refine wpAny_bind (ld_blt I hg hm boot_enumerate (callWith_typeKw (thn (hA.run pos pins s σ H (fun vs H1 => ∃ M1 F1 d v, Same F F1 ∧ Sta g F1 M1 H1 ∧ vs = [v] ∧ Rep g.K F1 v d ∧ ∃ ds st, IsN M1 d ds st ∧ Q ((enumL k ds).map prD) st M1) I
    ⟨ρ, M, F, (enQ k Q), E, S, En, ?_, fun ds M1 F1 vs H1 z s S' r => ?_, kE⟩) fun us s1 ⟨vs, H1, I1, r1, M1, F1, d, v, s12, S1, ev, rv, ds, st, hi, z⟩ => ?_) hs2 hpl))
  · exact iEn_one q
  · obtain ⟨d, ed, z⟩ := enQ_one z
    subst ed
    cases r with
    | cons r rr => cases rr; exact ⟨M1, F1, d, _, s, S', rfl, r, z⟩
  · subst ev
    cases r1 with
    | cons rx rr =>
      cases rr
      refine thn (hk.run pos pins s1 σ H1 (fun vs H2 => vs = [.int k] ∧ H2 = H1) I1 ⟨rfl, rfl⟩) fun ws s2 ⟨zs, H2, I2, rz, ez, eH⟩ => ?_
      subst ez eH
      cases rz with
      | cons rk rr =>
        cases rr
        obtain ⟨t, rfl⟩ := rk
        obtain ⟨o, HH, B, hh, fin⟩ := enum_end (k := k) (elts := elts) (kk := kk) (tpos := tpos) hK I2 S1 rv rx hi fun J Y => kQ _ _ M1 g.U noH F1 J _ z (Same.r _) same_no s12 S1 Y
        exact enum_begins_start B hh (by omega) (by omega) fun h' he hit hsz hk => fin h' he hit hsz hk
end
end DL
namespace DL
variable [Wd]
open PySem L2 PySem.Spec PyProof.Rows
/-! ### properties of own classes -/
section
variable {X : Cx} {g : G} {W : WX} {pos pos' : Pos} {e o : Expr} {es : List Expr} {de do_ : DE} {dA : DA} {f : Str} {p : Pos}
theorem cx_no {P : Program} {w : World} {outer : List PySem.Env} {H : Hp} {s s' : Shared} {er : Value} (h : L2.CX P w outer H s (fun _ _ _ => False) er s') : False := by
  obtain ⟨_, _, _, _, _, _, _, _, _, _, _, _, z⟩ := h
  exact z
/-! ### defs with a star parameter -/
def SpD.star (n : Nat) (sd : SpD) : SpD := fun ds M Q E => ∃ ws rest, ds = ws ++ rest ∧ ws.length = n ∧ rest.length ≤ sizeLine ∧ sd (ws ++ [.tup rest]) M Q E
theorem reps_split {K : PySem.W.Frag} {F : Hp} : ∀ {ds es : List D} {vs : List V}, Reps K F vs (ds ++ es) → ∃ v1 v2, vs = v1 ++ v2 ∧ Reps K F v1 ds ∧ Reps K F v2 es
  | [], _, vs, r => ⟨[], vs, rfl, .nil, r⟩
  | _ :: _, _, _, .cons a r => let ⟨v1, v2, e, r1, r2⟩ := reps_split r; ⟨_ :: v1, v2, by rw [e]; rfl, .cons a r1, r2⟩
end
section
variable {P : Program} {w : World} {K : PySem.W.Frag} {mg : Str → Option Value} {base : Heap}
theorem fnD_ofStar {x qual pv : Str} {st : Stmt} {f : Addr} {fd : FuncData} {N ps : List Str} {k : Nat} {sd : SpD} (Fu : Fun K x qual st f fd) (S : FnScope N (ps ++ [pv]) (defScope st))
    (hb : ∀ (kV doc pm : Value) (an : Option Addr) (cdv ct : Value) (us rest : List Value), us.length = ps.length → bindArgs (PySem.W.fnOf x qual (defArgs st) (defBody st) (defScope st) .none kV doc pm an cdv ct) ⟨us ++ rest, []⟩ = (newTuple rest >>= fun t => pure (ps.zip us ++ [(pv, t)])))
    (hbody : ∀ (cdv : Value) (A : Around) (outer : List PySem.Env) (s : Shared) (H : Hp) (U : Hp) (E : XK) (ds : List D) (M : Mem) (Qd : D → Mem → Prop) (Ed : XD), Room k (A.deeper (PyProof.Rows.envOfC qual (defScope st) s.heap.objs.size f cdv)) → sd ds M Qd Ed →
      ∃ body : DS, PSs (cxOf (L2.CX P w) P w K mg base N qual (defScope st) f cdv A outer s H E) (defBody st) (liftS ⟨K, U⟩ (fun cls d _ H => E cls d H) body) ∧
        body (fun _ M' => Qd .non M') Qd (fun _ _ => False) (fun _ _ => False) (fun C dd _ M' => Ed C dd M') (start0 N ds) M) : FnD P w K mg base (k + 1) f (SpD.star ps.length sd) := by
  obtain ⟨oc, od, kV, doc, pm, an, cdv, ct, osl, rfl, lk, hcd⟩ := Fu.ex
  refine FnR.imp (StX.fn_star (sp := spOf K sd) lk hcd S StX.cxUp (hb kV doc pm an cdv ct) fun A outer s H vs Q E hr h => ?_) fun vs H Q E h => ?_
  · obtain ⟨U, M, F, ds, Qd, Ed, St_, r, h, kQ, kE⟩ := h
    obtain ⟨body, hp, hq⟩ := hbody cdv A outer s H U E ds M Qd Ed hr h
    refine ⟨_, hp, start0 N ds, M, F, _, _, _, _, _, St_, env_start r, hq, ?_, ?_, ?_, ?_, ?_⟩
    · exact fun ρ' M' F' σ' H' z s S' En => kQ _ M' F' .non H' z s S' .non
    · exact kQ
    · exact fun ρ' M' F' σ' H' z s S' En => z.elim
    · exact fun ρ' M' F' σ' H' z s S' En => z.elim
    · exact fun C dd ρ' M' F' σ' H' z s S' En => kE C dd M' F' H' z s S'
  · obtain ⟨U, M, F, ds, Qd, Ed, S, r, ⟨ws, rest, ed, hl, hz, h⟩, kQ, kE⟩ := h
    subst ed
    obtain ⟨v1, v2, ev, r1, r2⟩ := reps_split r
    subst ev
    refine ⟨v1, v2, rfl, by rw [r1.length]; exact hl, by rw [r2.length]; exact hz, fun p hp => ?_⟩
    obtain ⟨s, S'⟩ := S.newF (o := .tup v2) hp
    exact ⟨U, M, _, _, Qd, Ed, S', (r1.mono s).append (.cons (.tup upd_same (r2.mono s)) .nil), h, fun d M' F' v H' z s' S'' r => kQ d M' F' v H' z (s.t s') S'' r, fun C dd M' F' H' z s' S'' => kE C dd M' F' H' z (s.t s') S''⟩
end
/-! ### starred arguments -/
section
variable {X : Cx} {g : G} {W : WX} {pos p sp_ : Pos} {e o : Expr} {es : List Expr} {de do_ : DE} {dA : DA} {x f : Str}
def dStar (de : DE) (dA : DA) : DA := fun ρ M Q E => de ρ M (fun d M1 => ∃ xs, IsS M1 d xs ∧ dA ρ M1 (fun ds M2 => Q (xs ++ ds) M2) E) E
theorem da_star (hK : g.K = X.K) (he : PE X e (liftE g W de)) (hr : PA X es (liftA g W dA)) (hs : starEach (.Starred e p :: es) X.env = (true, eval e X.env) :: starEach es X.env := by rfl) : PA X (.Starred e p :: es) (liftA g W (dStar de dA)) := by
  refine ⟨fun pos pins s σ H k I ⟨ρ, M, F, Q, E, S, En, q, kQ, kE⟩ => (StX.pa_star he hr hs).run pos pins s σ H k I ⟨ρ, M, F, _, E, S, En, q, fun d M1 F1 v H1 ⟨xs, hi, z⟩ s1 S1 r1 => ?_, kE⟩⟩
  obtain ⟨a, vs, ev, hq, rv⟩ := hi.to S1 r1
  rw [hK] at hq
  exact ⟨a, vs, ev, hq.symm, ρ, M1, F1, _, E, S1, En.mono s1, z, fun ds M2 F2 us H2 z s2 S2 r2 => kQ _ M2 F2 _ H2 z (s1.t s2) S2 ((rv.mono s2).append r2), fun C dd M2 F2 H2 q2 s2 S2 => kE C dd M2 F2 H2 q2 (s1.t s2) S2⟩
/-- C(e, .., *e') -/
theorem de_makeS2 {k : Nat} {C fa : Addr} {sd : SpD} (Mk_ : Mk X.K C fa) (F : FnD X.prog X.w X.K X.mg X.base k fa sd) (hr : Room (k + 1) X.A) (hg : Gl X x) (hm : X.mg x = some (.ref C)) (hK : g.K = X.K) (tk : Takes X W) (ha : PA X (e :: es) (liftA g W dA))
    (hdb : (x == ("__debug__" : Str)) = false := by decide) (he : starEach (e :: es) X.env = (false, eval e X.env) :: starEach es X.env := by rfl) (hst : (backTo pos (starEach es X.env)).any (·.1) = true := by rfl) :
    PE X (.Call (.Name x p) (e :: es) [] pos) (liftE g W (dMake C sd dA)) := by
  refine ⟨fun pins s σ H k I ⟨ρ, M, F1, Q, E, S, En, q, kQ, kE⟩ => ?_⟩
  obtain ⟨K0, U⟩ := g
  simp only at hK
  subst hK
  refine wpAny_Call_Name_kw (ld_glob I hg hm ?_ hdb)
  refine PySem.W.callWith_S2 (h₀ := X.base) I.ok.mod.kin Mk_.kp (thn (ha.run pos pins s σ H (fun vs H1 => ∃ M1 F2 ds, Same F1 F2 ∧ Sta ⟨X.K, U⟩ F2 M1 H1 ∧ Reps X.K F2 vs ds ∧ ∀ x, (∀ m, (x, m) ∉ M1) → sd (.ptr x :: ds) ((x, .obj C []) :: M1) (fun d M2 => d = .non ∧ Q (.ptr x) M2) E) I
    ⟨ρ, M, F1, _, E, S, En, q, fun ds M1 F2 vs H1 z s S' r => ⟨M1, F2, ds, s, S', r, z⟩, kE⟩) fun us s1 ⟨vs, H1, I1, r, M1, F2, ds, s12, S1, r1, q1⟩ => ⟨I1.kIn, ?_⟩) he hst
  refine run_makeD (Ex := fun cls d H' => W cls d σ H') Mk_ F hr tk (fun _ _ _ h => h) I1 r fun y dx h1 h2 h3 => ?_
  exact ⟨U, _, F2, _, _, E, sta_made S1 h1 h2 h3, .cons (.ptr y) r1, q1 y (S1.fresh h1), fun d M' F' v H' ⟨ed, z⟩ s S' r => by
    subst ed
    cases r
    exact ⟨rfl, kQ _ M' F' _ H' z (s12.t s) S' (.ptr y)⟩, fun C dd M' F' H' z s S' => kE C dd M' F' H' z (s12.t s) S'⟩
end
end DL
namespace DL
variable [Wd]
open PySem L2 PySem.Spec PyProof.Rows
/-! ### isinstance of any value, one class -/
inductive TyI (K : PySem.W.Frag) (M : Mem) : D → Value → Prop
  | non : TyI K M .non (.type "NoneType")
  | bl (b : Bool) : TyI K M (.bl b) (.type "bool")
  | int (i : Int) : TyI K M (.int i) (.type "int")
  | str (x : Str) : TyI K M (.str x) (.type "str")
  | lst {d : D} {ds : List D} {st : Mem → Prop} : IsL M d ds st → TyI K M d (.type "list")
  | tup (ds : List D) : TyI K M (.tup ds) (.type "tuple")
  | obj {d : D} {C : Addr} {es : List (Str × D)} : IsO M d C es → C8.InsC K C → TyI K M d (.ref C)
section
variable {X : Cx} {g : G} {W : WX} {F : Hp} {M : Mem} {H : Hp} {pos p : Pos} {e : Expr} {es : List Expr} {de : DE}
theorem sqL_ty {K : PySem.W.Frag} {a : Addr} {xs : List V} (h : SqL K H a xs) : TyX K H (.ref a) (.type "list") := by
  rcases h with (h | ⟨z, h⟩) | ⟨o, its, n, hk, hc, _⟩
  · exact .base (.lst h)
  · exact .base (.frz h)
  · exact .kList hk hc
theorem sqT_ty {K : PySem.W.Frag} {a : Addr} {xs : List V} (h : SqT K H a xs) : TyX K H (.ref a) (.type "tuple") := by
  rcases h with (h | ⟨z, h⟩) | ⟨o, its, n, hk, hc, _⟩
  · exact .base (.tup h)
  · exact .fTuple h
  · exact .kTuple hk hc
theorem TyI.to {v : V} {d : D} {t : Value} (h : TyI g.K M d t) (S : Sta g F M H) (r : Rep g.K F v d) : TyX g.K H v t := by
  cases h with
  | non => cases r; exact .base .non
  | bl => cases r; exact .base (.bl _)
  | int => cases r; exact .base (.int _)
  | str => cases r; exact .base (.str _)
  | lst h => obtain ⟨a, xs, ev, hq, _⟩ := h.sq S r; subst ev; exact sqL_ty hq
  | tup => cases r with | tup e r => exact sqT_ty (S.sub.sqT (K := g.K) e)
  | obj h c => obtain ⟨a, dx, kvs, ev, ha, _⟩ := h.to S r; subst ev; exact .base (.ins ha c.cl c.ha c.hn c.htk c.hm)
inductive IsiC (K : PySem.W.Frag) (M : Mem) (Q : D → Mem → Prop) : List D → Prop
  | mk {x c : D} {t u : Value} {b : Bool} : ClD c u → TyI K M x t → PySem.W.kitOne K t u = some b → Q (.bl b) M → IsiC K M Q [x, c]
abbrev rIsi (K : PySem.W.Frag) : DC := fun ds M Q => IsiC K M Q ds
theorem cd_isi (hK : g.K = X.K) : CallD X g (.builtin "isinstance") (rIsi X.K) := by
  intro pins s σ H vs us k I r h
  obtain ⟨F, M, ds, Q, S, r1, q, kQ⟩ := h
  obtain ⟨K0, U⟩ := g
  simp only at hK
  subst hK
  cases q with
  | mk hc ht hk q =>
    cases r1 with
    | cons r1 rn =>
      cases rn with
      | cons r2 rn =>
        cases rn
        have ty := ht.to S r1
        rename_i c t u b v1 v2
        have cv : ClsV v2 u := by
          cases hc with
          | own => cases r2; exact .own _
          | ty => cases r2; exact .ty _
        exact call_isi pins s σ H _ us k I r ⟨_, _, t, u, b, rfl, cv, ty, hk, kQ _ M F _ H q (Same.r F) S (.bl _)⟩
structure OwnOp (K : PySem.W.Frag) (C fa : Addr) (nm : Str) : Prop where
  at_ : PySem.W.findIn K (.ref C) nm = some (some (.ref fa))
  fn : PySem.W.isFn K (.ref fa) = true
  sf : PySem.W.selfFirst K C = true
end
end DL
namespace DL
variable [Wd]
open PySem L2 PySem.Spec PyProof.Rows
section
variable {M : Mem} {K : PySem.W.Frag} {ds : List D} {Qd : D → Mem → Prop} {Ed : XD}
/-! ### Grammar.__init__ -/
theorem ord_le : ∀ (xs as : List Str), (xs.foldl (fun a x => if x ∈ a then a else a ++ [x]) as).length ≤ as.length + xs.length
  | [], as => Nat.le_refl _
  | x :: xs, as => by
    rw [List.foldl_cons, List.length_cons]
    have ih := ord_le xs (if x ∈ as then as else as ++ [x])
    by_cases h : x ∈ as
    · rw [if_pos h] at ih ⊢; omega
    · rw [if_neg h] at ih ⊢
      rw [List.length_append] at ih
      simp at ih
      omega
theorem ord_len {xs : List Str} (h : ¬ (ordS xs).length < xs.length) : xs.Nodup := by
  have key : ∀ (xs as : List Str), as.Nodup → ¬ (xs.foldl (fun a x => if x ∈ a then a else a ++ [x]) as).length < as.length + xs.length → (as ++ xs).Nodup := by
    intro xs
    induction xs with
    | nil => intro as h _; simpa using h
    | cons x xs ih =>
      intro as hn h
      rw [List.foldl_cons, List.length_cons] at h
      by_cases hx : x ∈ as
      · rw [if_pos hx] at h
        have := ord_le xs as
        omega
      · rw [if_neg hx] at h
        have := ih (as ++ [x]) (List.nodup_append.mpr ⟨hn, by simp, fun a ha b hb e => hx (by rw [← List.mem_singleton.mp hb, ← e]; exact ha)⟩) (by rw [List.length_append]; simp; omega)
        simpa using this
  have := key xs [] List.nodup_nil (by simpa [ordS] using h)
  simpa using this
theorem ord_mem {x : Str} {xs : List Str} (h : x ∈ xs) : x ∈ ordS xs := by
  have key : ∀ (xs as : List Str), x ∈ as ∨ x ∈ xs → x ∈ xs.foldl (fun a x => if x ∈ a then a else a ++ [x]) as := by
    intro xs
    induction xs with
    | nil => intro as h; simpa using h
    | cons y ys ih =>
      intro as h
      rw [List.foldl_cons]
      refine ih _ ?_
      rcases h with h | h
      · left
        by_cases q : y ∈ as
        · rw [if_pos q]; exact h
        · rw [if_neg q]; exact List.mem_append_left _ h
      · rcases List.mem_cons.mp h with h | h
        · subst h
          left
          by_cases q : x ∈ as
          · rw [if_pos q]; exact q
          · rw [if_neg q]; simp
        · exact .inr h
  exact key xs [] (.inr h)
def dGram (K : PySem.W.Frag) (cB : Addr) (sdO sdF sdK sdS sdB : SpD) : DS := sSeq (sAsg (dLc (iAny (dVar 2)) (.tp [5, 6, 7]) (dYes) (dTup (dCons (dVar 5) (dCons (dVar 6) (dCons (dCB rTuple (dCons (dVar 7) (dNil))) (dNil))))) [5, 6, 7]) (gNm 4)) (sSeq (sAsg (dCall sdO (dCons (dLc (iAny (dVar 4)) (.nm 9) (dYes) (dOp rIx (dVar 9) (dC (.int 1))) [9]) (dNil))) (gNm 8)) (sSeq (sDrop (dCall sdF (dCons (dVar 1) (dNil)))) (sSeq (sDrop (dCall sdK (dCons (dVar 4) (dCons (dVar 8) (dNil))))) (sSeq (sIf (dAnd (dB (dOp rIsn (dVar 3) (dC .non))) (dB (dOp rNin (dVar 3) (dVar 8)))) (sRaise cB sdB (dCons (dC (.str ("root" : Str))) (dNil))) (sNext)) (sSeq (sAsg (dZK K (dCall sdS (dCons (dVar 4) (dNil)))) (gNm 10)) (sSeq (sIf (dB (dOp rLt (dCB rLen (dCons (dVar 10) (dNil))) (dCB rLen (dCons (dVar 4) (dNil))))) (sRaise cB sdB (dCons (dC (.str ("finite" : Str))) (dNil))) (sNext)) (sSeq (sFldD K (dVar 0) (dCB rTuple (dCons (dVar 1) (dNil))) "fields") (sSeq (sFldD K (dVar 0) (dCB rTuple (dCons (dLc (iAny (dVar 4)) (.nm 9) (dYes) (dOp rIx (dVar 9) (dC (.int 0))) [9]) (dNil))) "kinds") (sSeq (sFldD K (dVar 0) (dCB rTuple (dCons (dVar 8) (dNil))) "families") (sSeq (sFldD K (dVar 0) (dIf (dB (dOp rIs (dVar 3) (dC .non))) (dOp rIx (dVar 8) (dC (.int 0))) (dVar 3)) "root") (sSeq (sFldD K (dVar 0) (dDe (iAny (dVar 4)) (.nm 9) (dYes) (dOp rIx (dVar 9) (dC (.int 0))) (dOp rIx (dVar 9) (dC (.int 1))) [9]) "_families") (sSeq (sFldD K (dVar 0) (dDe (iAny (dVar 4)) (.nm 9) (dYes) (dOp rIx (dVar 9) (dC (.int 0))) (dOp rIx (dVar 9) (dC (.int 2))) [9]) "_children") (sFldD K (dVar 0) (dZK K (dVar 10)) "_sizes")))))))))))))
def rowsD (ps : List (Kd × D)) : List D := ps.map fun p => .tup [.str p.1.n, .str p.1.f, p.2]
def rootD : Option Str → D
  | none => .non
  | some s => .str s
def famsOf (rs : List Kd) : List Str := ordS (rs.map (·.f))
/-- the fields of a made grammar -/
def gramD (xs : List Str) (rs : List Kd) (root : Option Str) (S : Tab) : List (Str × D) :=
  [("fields", .tup (xs.map .str)), ("kinds", .tup (rs.map fun r => .str r.n)), ("families", .tup ((famsOf rs).map .str)), ("root", .str (root.getD ((famsOf rs).headD ""))),
   ("_families", .dic (rs.foldl (fun a r => putD a (.inr r.n) (.str r.f)) [])), ("_children", .dic (rs.foldl (fun a r => putD a (.inr r.n) (.tup (r.ch.map .str))) [])), ("_sizes", .dic (emb S))]
def fieldsErr (xs : List Str) : Option (Bool × Str) := if 6 < xs.length then some (false, "fields") else if (ordS xs).length < xs.length then some (true, "fields") else none
def rootBad (rs : List Kd) : Option Str → Bool
  | none => false
  | some s => decide (s ∉ famsOf rs)
def spGram (cG cL cB : Addr) : SpD := fun ds M Q E => ∃ (q : Addr) (a b : D) (root : Option Str) (xs : List Str) (ps : List (Kd × D)), ds = [.ptr q, a, b, rootD root] ∧ (q, MO.obj cG []) ∈ M ∧ Nd M ∧ IsS M a (xs.map .str) ∧ xs.length ≤ 1000 ∧ IsS M b (rowsD ps) ∧ ps.length ≤ 1000 ∧ (∀ p ∈ ps, IsS M p.2 (p.1.ch.map .str)) ∧
  Out E cL cB M (Out E cL cB M (if rootBad (ps.map (·.1)) root = true then Errs E cB "part" "root" M else
    ∀ (S : Tab) M', Nd M' → (∃ L, Szs (ps.map (·.1)) S L ∧ ∀ r ∈ ps.map (·.1), Settled S L r) →
      (S.length < ps.length → Fr [] M M' → Errs E cB "part" "finite" M') ∧ (¬ S.length < ps.length → (q, MO.obj cG (gramD xs (ps.map (·.1)) root S)) ∈ M' → Fr [q] M M' → Q .non M')) (kindsErr (ps.map (·.1)) (famsOf (ps.map (·.1))))) (fieldsErr xs)
structure GrOk (K : PySem.W.Frag) (C : Addr) : Prop where
  f1 : FldOk K C "fields"
  f2 : FldOk K C "kinds"
  f3 : FldOk K C "families"
  f4 : FldOk K C "root"
  f5 : FldOk K C "_families"
  f6 : FldOk K C "_children"
  f7 : FldOk K C "_sizes"
theorem pureGram {cG cL cB : Addr} {y0 y1 y2 y3 y4 y5 y6 y7 y8 y9 y10 : Str} (T : GrOk K cG) (h : spGram cG cL cB ds M Qd Ed) :
    dGram K cB spOrder (spChkF cL cB) (spChkK cL cB) spLeast (spErr cB "part") (fun _ M' => Qd .non M') Qd (fun _ _ => False) (fun _ _ => False) (fun C dd _ M' => Ed C dd M') (start0 [y0, y1, y2, y3, y4, y5, y6, y7, y8, y9, y10] ds) M := by
  obtain ⟨q, a, b, root, xs, ps, rfl, hq, nd, ha, hxs, hb, hps, hch, out⟩ := h
  obtain ⟨st, hi, hst⟩ := isS_I hb
  unfold dGram
  walk_at "dl"
  refine ⟨_, st, hi, lt_line (by unfold rowsD; rw [List.length_map]; omega), lc_mapT (fun p : Kd × D => .tup [.str p.1.n, .str p.1.f, p.2]) (fun p => kdD p.1) (fun p => [.str p.1.n, .str p.1.f, p.2]) hst (fun p hp => ⟨rfl, rfl, fun P1 h1 => ?_⟩) (.inl ?_)⟩
  · walk_at "dl"
    refine tup_of (hch p hp) ?_
    walk_at "dl"
    exact ⟨len_le_line (n := 3), h1⟩
  have er : (ps.map fun p => kdD p.1) = (ps.map (·.1)).map kdD := by rw [List.map_map]; rfl
  rw [er]
  have hrl : (ps.map (·.1)).length = ps.length := List.length_map ..
  rw [← hrl] at hps out
  generalize hrs : ps.map (·.1) = rs at hps out hrl
  have irow : ∀ M', IsI M' (.lst (rs.map kdD)) (rs.map kdD) fun _ => True := fun _ => .lst (.lst _)
  have hsz : (rs.map kdD).length < sizeLine := lt_line (by rw [List.length_map]; omega)
  walk_at "dl"
  refine ⟨_, _, irow _, hsz, lc_map kdD (fun r => .str r.f) trivial (fun r _ P1 h1 => ?_) (.inl ?_)⟩
  · walk_at "dl"
    exact ixt1 h1
  walk_at "dl"
  refine ⟨_, rs.map (·.f), rfl, by rw [List.map_map]; exact .lst _, by rw [List.length_map]; exact hps, ?_⟩
  walk_at "dl"
  refine ⟨a, xs, rfl, ha, nd, hxs, fun h6 => ?_, fun h6 ho => ?_, fun h6 ho => ?_⟩
  · rw [show fieldsErr xs = (some (false, ("fields" : Str)) : Option (Bool × Str)) from if_pos h6] at out
    exact out
  · rw [show fieldsErr xs = (some (true, ("fields" : Str)) : Option (Bool × Str)) from (if_neg (show ¬ 6 < xs.length by omega)).trans (if_pos ho)] at out
    exact out
  rw [show fieldsErr xs = none from (if_neg (show ¬ 6 < xs.length by omega)).trans (if_neg ho)] at out
  walk_at "dl"
  refine ⟨.lst (rs.map kdD), .lst ((famsOf rs).map .str), rs, famsOf rs, rfl, .lst _, .lst _, nd, hps, ?_⟩
  cases ek : kindsErr rs (famsOf rs) with
  | some e =>
    have out2 : Out Ed cL cB M _ (kindsErr rs (famsOf rs)) := out
    rw [ek] at out2
    obtain ⟨bb, s⟩ := e
    cases bb <;> exact out2
  | none =>
    have out2 : Out Ed cL cB M _ (kindsErr rs (famsOf rs)) := out
    rw [ek] at out2
    have ek' := ek
    unfold kindsErr at ek'
    split at ek'
    · cases ek'
    rename_i e1
    split at ek'
    · cases ek'
    rename_i e2
    split at ek'
    · cases ek'
    rename_i e3
    have h0 : ¬ rs.length = 0 := fun z => e1 (.inl z)
    have hnd : (rs.map (·.n)).Nodup := ord_len (by rw [List.length_map]; exact fun z => e1 (.inr z))
    have h3 : ∀ r ∈ rs, r.ch.length ≤ 3 := fun r hr => Nat.le_of_not_lt fun z => e3 (List.any_eq_true.mpr ⟨r, hr, decide_eq_true z⟩)
    have out3 : if rootBad rs root = true then Errs Ed cB "part" "root" M else _ := out2
    unfold Out
    -- the root
    walk_at "dl"
    have hroot : ∀ (ρ : Rho) (k : Bool → Mem → Prop) (E : XD), at_ ρ 3 = some (rootD root) → at_ ρ 8 = some (.lst ((famsOf rs).map .str)) → k (rootBad rs root) M → if (isN (rootD root) != true) = true then dB (dOp rNin (dVar 3) (dVar 8)) ρ M k E else k false M := by
      intro ρ k E h3 h8 hk
      cases root with
      | none => exact g_iff' rfl hk
      | some s =>
        refine g_ift rfl ?_
        refine g_B (g_op (g_var h3 (g_var h8 (nin_strs (.lst _) ?_))))
        walk_at "dl"
        rw [show (decide (s ∈ famsOf rs) != true) = decide (s ∉ famsOf rs) by by_cases z : s ∈ famsOf rs <;> simp [z]]
        exact hk
    refine hroot _ _ _ rfl rfl ?_
    cases erb : rootBad rs root with
    | true =>
      rw [erb, if_pos rfl] at out3
      refine g_ift rfl ?_
      refine g_raise ?_ fun Q Q' hQ z => hQ _ _ z
      walk_at "dl"
      exact ⟨_, rfl, nd, out3⟩
    | false =>
    rw [erb, if_neg Bool.false_ne_true] at out3
    refine g_iff' rfl ?_
    have h8 : rs.length ≤ 8 := Nat.le_of_not_lt e2
    walk_at "dl"
    refine ⟨_, rs, rfl, .lst _, nd, h8, hnd, h3, fun S p M1 hp hm nd1 f1 hS => ?_⟩
    -- the sizes, frozen
    obtain ⟨M2, U2⟩ := del_ex nd1 hm
    refine ⟨_, M2, .one U2.up rfl, ?_⟩
    have f2 : Fr [] M M2 := fun a m ha hm' => U2.fr _ _ (not_mem1 fun e => hp m (by rw [← e]; exact hm')) (f1 _ _ ha hm')
    obtain ⟨o1, o2⟩ := out3 S M2 U2.nd hS
    have hq2 := f2 _ _ (by simp) hq
    walk_at "dl"
    refine LenC.dic (.dic _) ?_
    walk_at "dl"
    refine isS_len (.lst _) ?_
    walk_at "dl"
    have ls : (emb S).length = S.length := List.length_map ..
    by_cases hfin : S.length < rs.length
    · refine g_ift (by rw [ls, List.length_map]; simp; omega) ?_
      refine g_raise ?_ fun Q Q' hQ z => hQ _ _ z
      walk_at "dl"
      exact ⟨_, rfl, U2.nd, o1 hfin f2⟩
    refine g_iff' (by rw [ls, List.length_map]; simp; omega) ?_
    -- the fields
    walk_at "dl"
    refine tup_of (isS_fr ha f2 (by simp)) ?_
    walk_at "dl"
    refine fld_new U2.nd hq2 T.f1 .nil (by simp) fun M3 U3 => ?_
    walk_at "dl"
    refine ⟨_, _, irow _, hsz, lc_map kdD (fun r => .str r.n) trivial (fun r _ P1 h1 => ?_) (.inl ?_)⟩
    · walk_at "dl"
      exact ixt0 h1
    walk_at "dl"
    refine tup_of (.lst _) ?_
    walk_at "dl"
    refine fld_new U3.nd U3.at_ T.f2 (by walk_at "nof") (by simp) fun M4 U4 => ?_
    walk_at "dl"
    refine tup_of (.lst _) ?_
    walk_at "dl"
    refine fld_new U4.nd U4.at_ T.f3 (by walk_at "nof") (by simp) fun M5 U5 => ?_
    walk_at "dl"
    have hrt : ∀ (ρ : Rho) (k : D → Mem → Prop) (E : XD), at_ ρ 3 = some (rootD root) → at_ ρ 8 = some (.lst ((famsOf rs).map .str)) → k (.str (root.getD ((famsOf rs).headD ""))) M5 → if (isN (rootD root) != false) = true then dOp rIx (dVar 8) (dC (.int 0)) ρ M5 k E else dVar 3 ρ M5 k E := by
      intro ρ k E h3 h8 hk
      cases root with
      | some s => exact g_iff' rfl (g_var h3 hk)
      | none =>
        refine g_ift rfl (g_op (g_var h8 (g_c ?_)))
        have hpos : 0 < (famsOf rs).length := by
          cases rs with
          | nil => exact absurd rfl h0
          | cons r rs =>
            have : r.f ∈ famsOf (r :: rs) := ord_mem (by simp)
            exact List.length_pos_of_mem this
        cases ef : famsOf rs with
        | nil => rw [ef] at hpos; cases hpos
        | cons f fs =>
          rw [ef] at hk
          exact ixq_lst (e := .str f) atI0 hk
    refine hrt _ _ _ rfl rfl ?_
    walk_at "dl"
    refine fld_new U5.nd U5.at_ T.f4 (by walk_at "nof") (by simp) fun M6 U6 => ?_
    walk_at "dl"
    refine .inl ?_
    walk_at "dl"
    refine ⟨_, _, irow _, hsz, dc_map kdD (fun r => .inr r.n) (fun r => .str r.f) trivial (fun _ _ => ⟨fun P1 h1 => ?_, fun P1 h1 => ?_⟩) (.inl ?_)⟩
    · walk_at "dl"
      exact ixt0 h1
    · walk_at "dl"
      exact ixt1 h1
    walk_at "dl"
    refine fld_new U6.nd U6.at_ T.f5 (by walk_at "nof") (by simp) fun M7 U7 => ?_
    walk_at "dl"
    refine .inl ?_
    walk_at "dl"
    refine ⟨_, _, irow _, hsz, dc_map kdD (fun r => .inr r.n) (fun r => .tup (r.ch.map .str)) trivial (fun _ _ => ⟨fun P1 h1 => ?_, fun P1 h1 => ?_⟩) (.inl ?_)⟩
    · walk_at "dl"
      exact ixt0 h1
    · walk_at "dl"
      exact ixt2 h1
    walk_at "dl"
    refine fld_new U7.nd U7.at_ T.f6 (by walk_at "nof") (by simp) fun M8 U8 => ?_
    walk_at "dl"
    refine ⟨_, _, .refl, ?_⟩
    walk_at "dl"
    refine fld_new U8.nd U8.at_ T.f7 (by walk_at "nof") (by simp) fun M9 U9 => ?_
    obtain ⟨_, o2⟩ := out3 S M9 U9.nd hS
    refine o2 hfin ?_ (((((((f2.mono (by simp)).trans U3.fr).trans U4.fr).trans U5.fr).trans U6.fr).trans U7.fr).trans (U8.fr.trans U9.fr))
    exact U9.at_
end
end DL
namespace DL
variable [Wd]
open PySem L2 PySem.Spec PyProof.Rows
/-! ### more steps -/
section
variable {ρ : Rho} {M : Mem} {E : XD} {K : PySem.W.Frag}
theorem g_try {body : DS} {hds : List HdD} {nx : NX} {rt : D → Mem → Prop} {bk ct : NX} {ex : XR} (q : body nx rt bk ct (hGo K nx rt bk ct ex hds) ρ M) : sTry K body hds nx rt bk ct ex ρ M := q
theorem g_star {de : DE} {dA : DA} {Q : List D → Mem → Prop} (q : de ρ M (fun d M1 => ∃ xs, IsS M1 d xs ∧ dA ρ M1 (fun ds M2 => Q (xs ++ ds) M2) E) E) : dStar de dA ρ M Q E := q
theorem g_xf {a C dd : Addr} {n : Str} {de : DE} {Q : D → Mem → Prop} (q : de ρ M (fun d M' => ∃ es d', d = .ptr a ∧ XfC K C ∧ PySem.W.findIn K (.ref C) n = some none ∧ (dd, MO.xd es) ∈ M' ∧ Has es n d' ∧ Q d' M') E) : dXf K a C dd n de ρ M Q E := q
end
end DL
local macro_rules | `(tactic| walk_at "dl") => `(tactic| repeat (first | (with_reducible first | refine DL.g_seq ?_ | refine DL.g_asg ?_ | refine DL.g_sif ?_ | refine DL.g_ret ?_ | refine DL.g_retN ?_ | refine DL.g_drop ?_ | refine DL.g_next ?_ | refine DL.g_cont ?_ | refine DL.g_brk ?_ | refine DL.g_sfor ?_ | refine DL.g_op ?_ | refine DL.g_c ?_ | refine DL.g_nil ?_ | refine DL.g_cons ?_ | refine DL.g_cb ?_ | refine DL.g_call ?_ | refine DL.g_tup ?_ | refine DL.g_lst ?_ | refine DL.g_B ?_ | refine DL.g_not ?_ | refine DL.g_and ?_ | refine DL.g_or ?_ | refine DL.g_if ?_ | refine DL.g_bl ?_ | refine DL.g_in ?_ | refine DL.g_nm ?_ | refine DL.g_fld ?_ | refine DL.IntB.int ?_ | refine DL.AddR.int ?_ | refine DL.SubR.int ?_ | refine DL.EqR.int ?_ | refine DL.EqR.str ?_ | refine DL.EqR.bl ?_ | refine DL.IntC.int ?_ | refine DL.IsR.non ?_ | refine DL.g_lc ?_ | refine DL.g_lc2 ?_ | refine DL.g_dc ?_ | refine DL.g_iany ?_ | refine DL.g_iitm ?_ | refine DL.g_irg1 ?_ | refine DL.g_sl ?_ | refine DL.g_onone ?_ | refine DL.g_osome ?_ | refine DL.g_con ?_ | refine DL.g_bm ?_ | refine DL.g_andV ?_ | refine DL.g_orV ?_ | refine DL.g_notV ?_ | refine DL.g_make ?_ | refine DL.g_meth ?_ | refine DL.g_listint ?_ | refine DL.g_fldS ?_ | refine DL.g_gsub ?_ | refine DL.g_zK ?_ | refine DL.g_try ?_ | refine DL.g_prop ?_ | refine DL.g_propS ?_ | refine DL.g_star ?_ | refine DL.g_xf ?_) | (refine DL.g_var (by first | assumption | rfl) ?_)))
namespace DL
variable [Wd]
open PySem L2 PySem.Spec PyProof.Rows
end DL
namespace DL
variable [Wd]
open PySem L2 PySem.Spec PyProof.Rows
/-! ### keywords behind the positional values -/
abbrev kwF : List Value → List Value → List Value := fun us ws => us ++ ws
abbrev kwV : List V → List V → List V := fun vs zs => vs ++ zs
end DL
namespace DL
variable [Wd]
open PySem L2 PySem.Spec PyProof.Rows
/-! ### a made grammar and its methods -/
section
variable {M : Mem} {K : PySem.W.Frag} {ds : List D} {Qd : D → Mem → Prop} {Ed : XD}
theorem fold_put (v : Kd → D) {rs : List Kd} (h : (rs.map (·.n)).Nodup) : rs.foldl (fun a r => putD a (Sum.inr r.n : Key) (v r)) [] = rs.map fun r => (Sum.inr r.n, v r) := by
  have key : ∀ (rs done : List Kd), ((done ++ rs).map (·.n)).Nodup → rs.foldl (fun a r => putD a (Sum.inr r.n : Key) (v r)) (done.map fun r => (Sum.inr r.n, v r)) = (done ++ rs).map fun r => (Sum.inr r.n, v r) := by
    intro rs
    induction rs with
    | nil => intro done _; simp
    | cons r rs ih =>
      intro done h
      rw [List.foldl_cons, put_new_key]
      · have := ih (done ++ [r]) (by simpa using h)
        rw [List.map_append] at this
        simpa using this
      · intro e he
        obtain ⟨q, hq, rfl⟩ := List.mem_map.mp he
        intro z
        rw [List.map_append, List.map_cons] at h
        exact (List.nodup_append.mp h).2.2 q.n (List.mem_map.mpr ⟨q, hq, rfl⟩) r.n List.mem_cons_self (Sum.inr.inj z)
  exact key rs [] h
theorem look_rows (v : Kd → D) : ∀ {rs : List Kd}, (rs.map (·.n)).Nodup → ∀ {r : Kd}, r ∈ rs → lookD (rs.map fun r => ((Sum.inr r.n : Key), v r)) (.inr r.n) = some (v r)
  | q :: rs, h, r, hr => by
    rw [List.map_cons, List.nodup_cons] at h
    unfold lookD
    rw [List.map_cons, List.find?_cons]
    rcases List.mem_cons.mp hr with e | e
    · subst e; simp
    · have : ¬ (Sum.inr q.n : Key) = Sum.inr r.n := fun z => h.1 (by rw [Sum.inr.inj z]; exact List.mem_map.mpr ⟨r, e, rfl⟩)
      simp only [this, decide_false]
      exact look_rows v h.2 e
/-- a grammar of these fields and rows, made -/
structure Gm (M : Mem) (g : D) (cG : Addr) (xs : List Str) (rs : List Kd) (root : Option Str) (S : Tab) : Prop where
  at_ : IsO M g cG (gramD xs rs root S)
  nd : (rs.map (·.n)).Nodup
  l8 : rs.length ≤ 8
  sz : ∃ L, Szs rs S L ∧ ∀ r ∈ rs, Settled S L r
  full : ¬ S.length < rs.length
theorem Gm.size {g : D} {cG : Addr} {xs : List Str} {rs : List Kd} {root : Option Str} {S : Tab} (G : Gm M g cG xs rs root S) {r : Kd} (hr : r ∈ rs) : ∃ n, getN S r.n = some n ∧ Fewest rs r n := by
  obtain ⟨L, z, h⟩ := G.sz
  have hk : r.n ∈ S.map (·.1) := by
    apply Classical.byContradiction
    intro hn
    have : (r.n :: S.map (·.1)).length ≤ (rs.map (·.n)).length := nodup_le (List.nodup_cons.mpr ⟨hn, z.kS⟩) fun x hx => by
      rcases List.mem_cons.mp hx with e | e
      · rw [e]; exact List.mem_map.mpr ⟨r, hr, rfl⟩
      · obtain ⟨n, en⟩ := get_key e
        obtain ⟨r', hr', e', _⟩ := z.sS _ n en
        rw [← e']; exact List.mem_map.mpr ⟨r', hr', rfl⟩
    rw [List.length_cons, List.length_map, List.length_map] at this
    exact G.full (by omega)
  obtain ⟨n, en⟩ := get_key hk
  exact ⟨n, en, (sizes_least G.nd z h hr).1 n en⟩
/-- a finite grammar: every kind is the root of some tree -/
theorem full_of {rs : List Kd} {S L : Tab} (nd : (rs.map (·.n)).Nodup) (z : Szs rs S L) (h : ∀ r ∈ rs, Settled S L r) (ht : ∀ r ∈ rs, ∃ m, Trs rs r.ch m) : ¬ S.length < rs.length := by
  have : (rs.map (·.n)).length ≤ (S.map (·.1)).length := nodup_le nd fun x hx => by
    obtain ⟨r, hr, rfl⟩ := List.mem_map.mp hx
    obtain ⟨n, en⟩ := (sizes_least nd z h hr).2 (ht r hr)
    apply Classical.byContradiction
    intro hn
    unfold getN at en
    cases e : S.find? fun p => decide (p.1 = r.n) with
    | none => rw [e] at en; cases en
    | some p =>
      have h1 := List.mem_of_find?_eq_some e
      have h2 := List.find?_some e
      exact hn (List.mem_map.mpr ⟨p, h1, by simpa using h2⟩)
  rw [List.length_map, List.length_map] at this
  omega
section
variable {cG cU : Addr} {g : D} {xs : List Str} {rs : List Kd} {root : Option Str} {S : Tab} {x : Str}
theorem has_kinds : Has (gramD xs rs root S) "kinds" (.tup (rs.map fun r => .str r.n)) := .tail (by decide) .head
theorem has_families : Has (gramD xs rs root S) "families" (.tup ((famsOf rs).map .str)) := .tail (by decide) (.tail (by decide) .head)
theorem has_fam (nd : (rs.map (·.n)).Nodup) : Has (gramD xs rs root S) "_families" (.dic (rs.map fun r => (.inr r.n, .str r.f))) := by
  unfold gramD
  rw [fold_put (fun r => .str r.f) nd, fold_put (fun r => .tup (r.ch.map .str)) nd]
  exact .tail (by decide) (.tail (by decide) (.tail (by decide) (.tail (by decide) .head)))
theorem has_ch (nd : (rs.map (·.n)).Nodup) : Has (gramD xs rs root S) "_children" (.dic (rs.map fun r => (.inr r.n, .tup (r.ch.map .str)))) := by
  unfold gramD
  rw [fold_put (fun r => .str r.f) nd, fold_put (fun r => .tup (r.ch.map .str)) nd]
  exact .tail (by decide) (.tail (by decide) (.tail (by decide) (.tail (by decide) (.tail (by decide) .head))))
theorem has_sz : Has (gramD xs rs root S) "_sizes" (.dic (emb S)) := .tail (by decide) (.tail (by decide) (.tail (by decide) (.tail (by decide) (.tail (by decide) (.tail (by decide) .head)))))
theorem no_meth {m : Str} (h : m ∉ (["fields", "kinds", "families", "root", "_families", "_children", "_sizes"] : List Str)) : NoF m (gramD xs rs root S) := by
  simp only [List.mem_cons, not_or] at h
  obtain ⟨h1, h2, h3, h4, h5, h6, h7, _⟩ := h
  exact .cons (Ne.symm h1) (.cons (Ne.symm h2) (.cons (Ne.symm h3) (.cons (Ne.symm h4) (.cons (Ne.symm h5) (.cons (Ne.symm h6) (.cons (Ne.symm h7) .nil))))))
def namesOf (rs : List Kd) : List Str := rs.map (·.n)
theorem names_str (rs : List Kd) : (rs.map fun r => D.str r.n) = (namesOf rs).map .str := by unfold namesOf; rw [List.map_map]; rfl
/-- _check_kind -/
def dChk1 (K : PySem.W.Frag) (cU : Addr) (sdU : SpD) : DS := sIf (dB (dOp rNin (dVar 1) (dFld K (dVar 0) "kinds"))) (sRaise cU sdU (dCons (dVar 1) (dNil))) (sNext)
def spChk1 (cG cU : Addr) : SpD := fun ds M Q E => ∃ g xs rs root S x, ds = [g, .str x] ∧ IsO M g cG (gramD xs rs root S) ∧ Nd M ∧ (x ∉ namesOf rs → Errs E cU "name" x M) ∧ (x ∈ namesOf rs → Q .non M)
theorem pureChk1 {y0 y1 : Str} (T : GrOk K cG) (h : spChk1 cG cU ds M Qd Ed) : dChk1 K cU (spErr cU "name") (fun _ M' => Qd .non M') Qd (fun _ _ => False) (fun _ _ => False) (fun C dd _ M' => Ed C dd M') (start0 [y0, y1] ds) M := by
  obtain ⟨g, xs, rs, root, S, x, rfl, hg, nd, k1, k2⟩ := h
  unfold dChk1
  walk_at "dl"
  refine ⟨_, _, _, hg, T.f2, has_kinds, ?_⟩
  rw [names_str]
  refine nin_strs (.tup _) ?_
  walk_at "dl"
  by_cases hx : x ∈ namesOf rs
  · refine g_iff' (by simp [hx]) ?_
    walk_at "dl"
    exact k2 hx
  · refine g_ift (by simp [hx]) ?_
    refine g_raise ?_ fun Q Q' hQ ⟨d, e, z⟩ => ⟨d, e, hQ _ _ z⟩
    walk_at "dl"
    exact ⟨_, rfl, nd, k1 hx⟩
/-- family_of, children_of, kind_size: what stands for the kind in a dict of the grammar -/
def dKindQ (K : PySem.W.Frag) (cG : Addr) (sdC : SpD) (f : Str) : DS := sSeq (sDrop (dMeth cG "_check_kind" sdC (dVar 0) (dCons (dVar 1) (dNil)))) (sRet (dOp rIx (dFld K (dVar 0) f) (dVar 1)))
def spKindQ (cG cU : Addr) (v : Tab → Kd → D → Prop) : SpD := fun ds M Q E => ∃ g xs rs root S x, ds = [g, .str x] ∧ Gm M g cG xs rs root S ∧ Nd M ∧ (x ∉ namesOf rs → Errs E cU "name" x M) ∧ ∀ r ∈ rs, r.n = x → ∀ d, v S r d → Q d M
theorem pureKindQ {y0 y1 f : Str} {v : Tab → Kd → D → Prop} (T : GrOk K cG) (fo : FldOk K cG f)
    (hv : ∀ (xs : List Str) (rs : List Kd) (root : Option Str) (S : Tab), (rs.map (·.n)).Nodup → (∀ r ∈ rs, ∃ n, getN S r.n = some n) → ∃ es, Has (gramD xs rs root S) f (.dic es) ∧ ∀ r ∈ rs, ∃ d, lookD es (.inr r.n) = some d ∧ v S r d)
    (h : spKindQ cG cU v ds M Qd Ed) : dKindQ K cG (spChk1 cG cU) f (fun _ M' => Qd .non M') Qd (fun _ _ => False) (fun _ _ => False) (fun C dd _ M' => Ed C dd M') (start0 [y0, y1] ds) M := by
  obtain ⟨g, xs, rs, root, S, x, rfl, G, nd, k1, k2⟩ := h
  unfold dKindQ
  walk_at "dl"
  refine ⟨_, G.at_, no_meth (by decide +kernel), ?_⟩
  walk_at "dl"
  refine ⟨g, xs, rs, root, S, x, rfl, G.at_, nd, k1, fun hx => ?_⟩
  obtain ⟨r, hr, rfl⟩ := List.mem_map.mp hx
  obtain ⟨es, h1, h2⟩ := hv xs rs root S G.nd fun r hr => (G.size hr).imp fun n h => h.1
  obtain ⟨d, h3, h4⟩ := h2 r hr
  walk_at "dl"
  refine ⟨_, _, _, G.at_, fo, h1, ?_⟩
  walk_at "dl"
  exact .dic (k := .inr r.n) (.dic es) h3 (k2 r hr rfl d h4)
abbrev vFam : Tab → Kd → D → Prop := fun _ r d => d = .str r.f
abbrev vCh : Tab → Kd → D → Prop := fun _ r d => d = .tup (r.ch.map .str)
abbrev vSz : Tab → Kd → D → Prop := fun S r d => ∃ n, getN S r.n = some n ∧ d = .int (n : Nat)
theorem hv_fam (xs : List Str) (rs : List Kd) (root : Option Str) (S : Tab) (nd : (rs.map (·.n)).Nodup) (_ : ∀ r ∈ rs, ∃ n, getN S r.n = some n) : ∃ es, Has (gramD xs rs root S) "_families" (.dic es) ∧ ∀ r ∈ rs, ∃ d, lookD es (.inr r.n) = some d ∧ vFam S r d := ⟨_, has_fam nd, fun r hr => ⟨_, look_rows _ nd hr, rfl⟩⟩
theorem hv_ch (xs : List Str) (rs : List Kd) (root : Option Str) (S : Tab) (nd : (rs.map (·.n)).Nodup) (_ : ∀ r ∈ rs, ∃ n, getN S r.n = some n) : ∃ es, Has (gramD xs rs root S) "_children" (.dic es) ∧ ∀ r ∈ rs, ∃ d, lookD es (.inr r.n) = some d ∧ vCh S r d := ⟨_, has_ch nd, fun r hr => ⟨_, look_rows _ nd hr, rfl⟩⟩
theorem hv_sz (xs : List Str) (rs : List Kd) (root : Option Str) (S : Tab) (nd : (rs.map (·.n)).Nodup) (h : ∀ r ∈ rs, ∃ n, getN S r.n = some n) : ∃ es, Has (gramD xs rs root S) "_sizes" (.dic es) ∧ ∀ r ∈ rs, ∃ d, lookD es (.inr r.n) = some d ∧ vSz S r d := ⟨_, has_sz, fun r hr => by
  obtain ⟨n, hn⟩ := h r hr
  exact ⟨_, by rw [look_emb, hn]; rfl, n, hn, rfl⟩⟩
/-- kinds_of -/
def dKindsOf (K : PySem.W.Frag) (cU : Addr) (sdU : SpD) : DS := sSeq (sIf (dB (dOp rNin (dVar 1) (dFld K (dVar 0) "families"))) (sRaise cU sdU (dCons (dVar 1) (dNil))) (sNext)) (sRet (dCB rTuple (dCons (dLc (iAny (dFld K (dVar 0) "kinds")) (.nm 2) (dB (dOp rEq (dOp rIx (dFld K (dVar 0) "_families") (dVar 2)) (dVar 1))) (dVar 2) [2]) (dNil))))
def kindsOf (rs : List Kd) (x : Str) : List Kd := rs.filter fun r => decide (r.f = x)
def spKindsOf (cG cU : Addr) : SpD := fun ds M Q E => ∃ g xs rs root S x, ds = [g, .str x] ∧ Gm M g cG xs rs root S ∧ Nd M ∧ (x ∉ famsOf rs → Errs E cU "name" x M) ∧ (x ∈ famsOf rs → Q (.tup ((kindsOf rs x).map fun r => .str r.n)) M)
theorem pureKindsOf {y0 y1 y2 : Str} (T : GrOk K cG) (h : spKindsOf cG cU ds M Qd Ed) : dKindsOf K cU (spErr cU "name") (fun _ M' => Qd .non M') Qd (fun _ _ => False) (fun _ _ => False) (fun C dd _ M' => Ed C dd M') (start0 [y0, y1, y2] ds) M := by
  obtain ⟨g, xs, rs, root, S, x, rfl, G, nd, k1, k2⟩ := h
  unfold dKindsOf
  walk_at "dl"
  refine ⟨_, _, _, G.at_, T.f3, has_families, ?_⟩
  refine nin_strs (.tup _) ?_
  walk_at "dl"
  by_cases hx : x ∈ famsOf rs
  · refine g_iff' (by simp [hx]) ?_
    walk_at "dl"
    refine ⟨_, _, _, G.at_, T.f2, has_kinds, ?_⟩
    walk_at "dl"
    refine ⟨_, _, .tup _, lt_line (by rw [List.length_map]; have := G.l8; omega), lc_if (fun r : Kd => .str r.n) (fun r => .str r.n) (fun r => decide (r.f = x)) trivial (fun r hr P1 h1 => ?_) (fun r _ _ P1 h1 => ?_) (.inl ?_)⟩
    · walk_at "dl"
      refine ⟨_, _, _, G.at_, T.f5, has_fam G.nd, ?_⟩
      walk_at "dl"
      refine .dic (k := .inr r.n) (.dic _) (look_rows _ G.nd hr) ?_
      walk_at "dl"
      rw [ne_false]
      exact h1
    · walk_at "dl"
      exact h1
    walk_at "dl"
    refine tup_of (.lst _) ?_
    exact k2 hx
  · refine g_ift (by simp [hx]) ?_
    refine g_raise ?_ fun Q Q' hQ ⟨d, e, z⟩ => ⟨d, e, hQ _ _ z⟩
    walk_at "dl"
    exact ⟨_, rfl, nd, k1 hx⟩
/-- least_size -/
def dLeastOf (K : PySem.W.Frag) (cG : Addr) (sdK : SpD) : DS := sRet (dCB rMin (dCons (dLc (iAny (dZK K (dMeth cG "kinds_of" sdK (dVar 0) (dCons (dVar 1) (dNil))))) (.nm 2) (dYes) (dCB rInt (dCons (dOp rIx (dFld K (dVar 0) "_sizes") (dVar 2)) (dNil))) [2]) (dNil)))
def spLeastOf (cG cU : Addr) : SpD := fun ds M Q E => ∃ g xs rs root S x, ds = [g, .str x] ∧ Gm M g cG xs rs root S ∧ Nd M ∧ (x ∉ famsOf rs → Errs E cU "name" x M) ∧ (x ∈ famsOf rs → ∀ n : Nat, (∃ r ∈ rs, r.f = x ∧ getN S r.n = some n) → (∀ r ∈ rs, r.f = x → ∀ m, getN S r.n = some m → n ≤ m) → Q (.int (n : Nat)) M)
theorem ord_sub {x : Str} {xs : List Str} (h : x ∈ ordS xs) : x ∈ xs := by
  have key : ∀ (xs as : List Str), x ∈ xs.foldl (fun a x => if x ∈ a then a else a ++ [x]) as → x ∈ as ∨ x ∈ xs := by
    intro xs
    induction xs with
    | nil => intro as h; exact .inl h
    | cons y ys ih =>
      intro as h
      rw [List.foldl_cons] at h
      rcases ih _ h with h | h
      · by_cases q : y ∈ as
        · rw [if_pos q] at h; exact .inl h
        · rw [if_neg q] at h
          rcases List.mem_append.mp h with h | h
          · exact .inl h
          · rw [List.mem_singleton.mp h]; exact .inr List.mem_cons_self
      · exact .inr (List.mem_cons_of_mem _ h)
  rcases key xs [] h with h | h
  · cases h
  · exact h
theorem fam_kind {rs : List Kd} {x : Str} (h : x ∈ famsOf rs) : ∃ r ∈ rs, r.f = x := by
  obtain ⟨r, hr, e⟩ := List.mem_map.mp (ord_sub h)
  exact ⟨r, hr, e⟩
theorem pureLeastOf {y0 y1 y2 : Str} (T : GrOk K cG) (h : spLeastOf cG cU ds M Qd Ed) : dLeastOf K cG (spKindsOf cG cU) (fun _ M' => Qd .non M') Qd (fun _ _ => False) (fun _ _ => False) (fun C dd _ M' => Ed C dd M') (start0 [y0, y1, y2] ds) M := by
  obtain ⟨g, xs, rs, root, S, x, rfl, G, nd, k1, k2⟩ := h
  unfold dLeastOf
  walk_at "dl"
  refine ⟨_, G.at_, no_meth (by decide +kernel), ?_⟩
  walk_at "dl"
  refine ⟨g, xs, rs, root, S, x, rfl, G, nd, k1, fun hx => ?_⟩
  refine ⟨_, _, .refl, ?_⟩
  have hk : ∀ r ∈ kindsOf rs x, r ∈ rs ∧ r.f = x := fun r hr => by simpa [kindsOf] using List.mem_filter.mp hr
  refine ⟨_, _, .tup _, lt_line (by rw [List.length_map]; have := G.l8; have := List.length_filter_le (fun r : Kd => decide (r.f = x)) rs; unfold kindsOf; omega), lc_map (fun r : Kd => .str r.n) (fun r => .int ((getN S r.n).getD 0 : Nat)) trivial (fun r hr P1 h1 => ?_) (.inl ?_)⟩
  · obtain ⟨n, hn, _⟩ := G.size (hk r hr).1
    walk_at "dl"
    refine ⟨_, _, _, G.at_, T.f7, has_sz, ?_⟩
    walk_at "dl"
    refine .dic (k := .inr r.n) (.dic _) (by rw [look_emb, hn]; rfl) ?_
    walk_at "dl"
    rw [hn] at h1
    exact h1
  walk_at "dl"
  refine .lst (ns := (kindsOf rs x).map fun r => ((getN S r.n).getD 0 : Nat)) (by rw [List.map_map]; exact .lst _) ?_ fun m hm hmin => ?_
  · obtain ⟨r, hr, e⟩ := fam_kind hx
    rw [List.length_map]
    exact List.length_pos_of_mem (List.mem_filter.mpr ⟨hr, by simpa using e⟩)
  · obtain ⟨r, hr, rfl⟩ := List.mem_map.mp hm
    obtain ⟨n, hn, _⟩ := G.size (hk r hr).1
    simp only [hn, Option.getD_some] at hmin ⊢
    refine k2 hx n ⟨r, (hk r hr).1, (hk r hr).2, hn⟩ fun r' hr' e' m' hm' => ?_
    have := hmin ((getN S r'.n).getD 0 : Nat) (List.mem_map.mpr ⟨r', List.mem_filter.mpr ⟨hr', by simpa using e'⟩, rfl⟩)
    rw [hm'] at this
    exact Int.ofNat_le.mp this
end
end
end DL
namespace DL
variable [Wd]
open PySem L2 PySem.Spec PyProof.Rows
/-! ### the kinds that a law draws -/
section
variable {M : Mem} {K : PySem.W.Frag} {ds : List D} {Qd : D → Mem → Prop} {Ed : XD}
/-- a comprehension whose values change what stands -/
theorem lc_chg {α : Type} {ρ : Rho} {st : Mem → Prop} {de : DE} {j : Nat} {Q : List D → Mem → Prop} (g : α → D) (I : List D → Mem → Prop) (hst : ∀ acc M, I acc M → st M) : ∀ {xs done : List α} {acc : List D} {M : Mem}, acc.length = done.length →
    (∀ i x acc M, (done ++ xs)[i]? = some x → acc.length = i → I acc M → ∀ P1 : D → Mem → Prop, (∀ d M', I (acc ++ [d]) M' → P1 d M') → de (put ρ j (some (g x))) M P1 noE) → (∀ acc M, acc.length = (done ++ xs).length → I acc M → Q acc M) → I acc M → goC (.nm j) dYes de st ρ Q (xs.map g) acc M
  | [], done, acc, M, hl, _, hd, h0 => ⟨hst _ _ h0, hd _ _ (by rw [List.append_nil]; exact hl) h0⟩
  | x :: xs, done, acc, M, hl, hs, hd, h0 => by
    have e : done ++ x :: xs = (done ++ [x]) ++ xs := by simp
    have key : de (put ρ j (some (g x))) M (fun d M3 => goC (.nm j) dYes de st ρ Q (xs.map g) (acc ++ [d]) M3) noE :=
      hs done.length x acc M (by simp) hl h0 _ fun d M' h' => lc_chg g I hst (done := done ++ [x]) (by simp [hl]) (by rw [← e]; exact hs) (by rw [← e]; exact hd) h'
    exact ⟨hst _ _ h0, @g_t _ _ (goC (.nm j) dYes de st ρ Q (xs.map g) acc M) key⟩
/-- a row as the laws write it -/
def kdL (r : Kd) : D := .tup [.str r.n, .str r.f, .lst (r.ch.map .str)]
theorem trs_all {rs : List Kd} : ∀ {ch : List Str}, (∀ c ∈ ch, ∃ m, Tr rs c m) → ∃ m, Trs rs ch m
  | [], _ => ⟨_, .nil⟩
  | c :: ch, h => by
    obtain ⟨a, ha⟩ := h c List.mem_cons_self
    obtain ⟨b, hb⟩ := trs_all fun z hz => h z (List.mem_cons_of_mem _ hz)
    exact ⟨_, .cons ha hb⟩
/-- kinds as _law_kinds draws them -/
structure KOk (fs : List Str) (rs : List Kd) (e w : Nat) : Prop where
  len : rs.length ≤ fs.length + e
  nd : (rs.map (·.n)).Nodup
  nm : ∀ r ∈ rs, NameOk r.n
  fam : ∀ r ∈ rs, r.f ∈ fs
  cov : ∀ f ∈ fs, ∃ r ∈ rs, r.f = f
  cl : ∀ r ∈ rs, r.ch.length ≤ w
  ch : ∀ r ∈ rs, ∀ c ∈ r.ch, c ∈ fs
  tr : ∀ f ∈ fs, ∃ m, Tr rs f m
theorem KOk.trs {fs : List Str} {rs : List Kd} {e w : Nat} (k : KOk fs rs e w) : ∀ r ∈ rs, ∃ m, Trs rs r.ch m := fun r hr => trs_all fun c hc => k.tr c (k.ch r hr c hc)
/-- before they are turned round: row i has family i, and children of the families before -/
structure KRow (fs ns : List Str) (w : Nat) (rs : List Kd) : Prop where
  nm : rs.map (·.n) = ns.take rs.length
  fam : ∀ r ∈ rs, r.f ∈ fs
  own : ∀ i r, rs[i]? = some r → i < fs.length → fs[i]? = some r.f
  cl : ∀ r ∈ rs, r.ch.length ≤ w
  ch : ∀ i r, rs[i]? = some r → ∀ c ∈ r.ch, c ∈ fs.take i
theorem KRow.push {fs ns : List Str} {w : Nat} {rs : List Kd} (k : KRow fs ns w rs) {r : Kd} (h1 : ns[rs.length]? = some r.n) (h2 : r.f ∈ fs) (h3 : rs.length < fs.length → fs[rs.length]? = some r.f) (h4 : r.ch.length ≤ w) (h5 : ∀ c ∈ r.ch, c ∈ fs.take rs.length) : KRow fs ns w (rs ++ [r]) := by
  have at_ : ∀ i q, (rs ++ [r])[i]? = some q → rs[i]? = some q ∨ (i = rs.length ∧ q = r) := by
    intro i q h
    by_cases hi : i < rs.length
    · rw [List.getElem?_append_left hi] at h; exact .inl h
    · rw [List.getElem?_append_right (by omega)] at h
      have : i - rs.length = 0 := by
        have := (List.getElem?_eq_some_iff.mp h).1
        simp at this
        omega
      rw [this] at h
      cases h
      exact .inr ⟨by omega, rfl⟩
  have mem : ∀ q ∈ rs ++ [r], q ∈ rs ∨ q = r := fun q h => by simpa using h
  refine ⟨?_, fun q hq => ?_, fun i q hq hi => ?_, fun q hq => ?_, fun i q hq => ?_⟩
  · rw [List.map_append, k.nm, List.length_append, List.length_cons, List.length_nil, Nat.zero_add, List.take_succ, h1]
    rfl
  · rcases mem q hq with h | h
    · exact k.fam q h
    · rw [h]; exact h2
  · rcases at_ i q hq with h | ⟨h, h'⟩
    · exact k.own i q h hi
    · rw [h, h']; exact h3 (by omega)
  · rcases mem q hq with h | h
    · exact k.cl q h
    · rw [h]; exact h4
  · rcases at_ i q hq with h | ⟨h, h'⟩
    · exact k.ch i q h
    · rw [h, h']; exact h5
theorem KRow.done {fs ns : List Str} {e w c : Nat} {rs : List Kd} (k : KRow fs ns w rs) (hn : ns.Nodup) (ho : ∀ x ∈ ns, NameOk x) (h1 : fs.length ≤ rs.length) (h2 : rs.length ≤ fs.length + e) : KOk fs (rs.drop c ++ rs.take c) e w := by
  have perm : (rs.drop c ++ rs.take c).Perm rs := by
    refine List.perm_append_comm.trans ?_
    rw [List.take_append_drop]
  have mem : ∀ r, r ∈ rs.drop c ++ rs.take c ↔ r ∈ rs := fun r => perm.mem_iff
  have own : ∀ f ∈ fs, ∃ (i : Nat) (r : Kd), fs[i]? = some f ∧ rs[i]? = some r ∧ r.f = f := by
    intro f hf
    obtain ⟨i, hi, e⟩ := List.getElem_of_mem hf
    have hi' : i < rs.length := by omega
    refine ⟨i, rs[i], by rw [← e]; simp [hi], by simp [hi'], ?_⟩
    have := k.own i rs[i] (by simp [hi']) hi
    rw [List.getElem?_eq_getElem hi, e] at this
    exact (Option.some.inj this).symm
  have chf : ∀ r ∈ rs, ∀ c ∈ r.ch, c ∈ fs := fun r hr c hc => by
    obtain ⟨i, hi, e⟩ := List.getElem_of_mem hr
    exact List.mem_of_mem_take (k.ch i r (by rw [← e]; simp [hi]) c hc)
  refine ⟨by rw [perm.length_eq]; exact h2, ?_, fun r hr => ?_, fun r hr => k.fam r ((mem r).mp hr), fun f hf => ?_, fun r hr => k.cl r ((mem r).mp hr), fun r hr => chf r ((mem r).mp hr), ?_⟩
  · refine (perm.map _).nodup_iff.mpr ?_
    rw [k.nm]
    exact List.Nodup.sublist (List.take_sublist _ _) hn
  · have : r.n ∈ ns.take rs.length := by rw [← k.nm]; exact List.mem_map.mpr ⟨r, (mem r).mp hr, rfl⟩
    exact ho _ (List.mem_of_mem_take this)
  · obtain ⟨i, r, _, h, e⟩ := own f hf
    exact ⟨r, (mem r).mpr (List.mem_of_getElem? h), e⟩
  · have key : ∀ (n i : Nat) (f : Str), i < n → fs[i]? = some f → ∃ m, Tr (rs.drop c ++ rs.take c) f m := by
      intro n
      induction n with
      | zero => intro i f hi; omega
      | succ n ih =>
        intro i f hi hf
        have hlt := (List.getElem?_eq_some_iff.mp hf).1
        have hlt' : i < rs.length := by omega
        have hr : rs[i]? = some rs[i] := by simp [hlt']
        have e := k.own i _ hr hlt
        rw [hf] at e
        obtain ⟨m, hm⟩ : ∃ m, Trs (rs.drop c ++ rs.take c) rs[i].ch m := trs_all fun z hz => by
          obtain ⟨j, hj, ez⟩ := List.getElem_of_mem (k.ch i _ hr z hz)
          rw [List.length_take] at hj
          rw [List.getElem_take] at ez
          exact ih j z (by omega) (by rw [← ez]; simp)
        rw [Option.some.inj e]
        exact ⟨_, .mk ((mem _).mpr (List.mem_of_getElem? hr)) hm⟩
    intro f hf
    obtain ⟨i, hi, e⟩ := List.getElem_of_mem hf
    exact key (i + 1) i f (by omega) (by rw [← e]; simp [hi])
def dKinds (sdD sdN : SpD) (K : PySem.W.Frag) : DS := sSeq (sAsg (dOp rAdd (dCB rLen (dCons (dVar 1) (dNil))) (dCall sdD (dCons (dVar 0) (dCons (dOp rAdd (dVar 2) (dC (.int 1))) (dNil))))) (gNm 4)) (sSeq (sAsg (dZK K (dCall sdN (dCons (dVar 0) (dCons (dVar 4) (dNil))))) (gNm 5)) (sSeq (sAsg (dLst (dNil)) (gNm 6)) (sSeq (sFor (iRg1 (dCons (dVar 4) (dNil))) (gNm 7) (sSeq (sAsg (dIf (dB (dOp rLt (dVar 7) (dCB rLen (dCons (dVar 1) (dNil))))) (dOp rIx (dVar 1) (dVar 7)) (dOp rIx (dVar 1) (dCall sdD (dCons (dVar 0) (dCons (dCB rLen (dCons (dVar 1) (dNil))) (dNil)))))) (gNm 8)) (sSeq (sAsg (dCB rMin (dCons (dVar 7) (dCons (dCB rInt (dCons (dCB rLen (dCons (dVar 1) (dNil))) (dNil))) (dNil)))) (gNm 9)) (sSeq (sAsg (dLst (dNil)) (gNm 10)) (sSeq (sIf (dB (dOp rGt (dVar 9) (dC (.int 0)))) (sAsg (dLc (iRg1 (dCons (dCall sdD (dCons (dVar 0) (dCons (dOp rAdd (dVar 3) (dC (.int 1))) (dNil)))) (dNil))) (.nm 11) (dYes) (dOp rIx (dVar 1) (dCall sdD (dCons (dVar 0) (dCons (dVar 9) (dNil))))) [11]) (gNm 10)) (sNext)) (sDrop (dBM "list" rApp (dVar 6) (dCons (dTup (dCons (dOp rIx (dVar 5) (dVar 7)) (dCons (dVar 8) (dCons (dVar 10) (dNil))))) (dNil))))))))) (sSeq (sAsg (dCall sdD (dCons (dVar 0) (dCons (dVar 4) (dNil)))) (gNm 12)) (sRet (dOp rAdd (dSl (dVar 6) (oSome (dVar 12)) (oNone)) (dSl (dVar 6) (oNone) (oSome (dVar 12)))))))))
def spKinds : SpD := fun ds M Q _ => ∃ (p c : Addr) (fs : List Str) (e w b : Nat), ds = [.ptr p, .lst (fs.map .str), .int e, .int w] ∧ 1 ≤ fs.length ∧ fs.length ≤ 6 ∧ e ≤ 10 ∧ w ≤ 10 ∧ Nd M ∧ b < 1000000 ∧ Src p c b M ∧ ∀ rs M', KOk fs rs e w → Nd M' → Src p c (b + 300) M' → Fr [p, c] M M' → Q (.lst (rs.map kdL)) M'
theorem cut_low {α : Type} (f : α → D) (xs : List α) (n : Nat) : DL.cutD (xs.map f) (some (n : Int)) none = (xs.drop n).map f := by
  unfold DL.cutD
  rw [HT.sIx_nat, show HT.sIx (xs.map f).length (xs.map f).length none = (xs.map f).length from rfl, List.length_map, List.map_drop]
  by_cases h : n ≤ xs.length
  · rw [Nat.min_eq_left h, List.take_of_length_le (by rw [List.length_drop, List.length_map]; omega)]
  · rw [Nat.min_eq_right (by omega), List.drop_of_length_le (by rw [List.length_map]; omega), List.drop_of_length_le (by rw [List.length_map]; omega), List.take_nil]
theorem cut_up {α : Type} (f : α → D) (xs : List α) (n : Nat) : DL.cutD (xs.map f) none (some (n : Int)) = (xs.take n).map f := by
  rw [cut_nat]
  by_cases h : n ≤ xs.length
  · rw [Nat.min_eq_left h]
  · rw [Nat.min_eq_right (by omega), List.take_of_length_le (Nat.le_refl _), List.take_of_length_le (by omega)]
theorem pureKinds {y0 y1 y2 y3 y4 y5 y6 y7 y8 y9 y10 y11 y12 : Str} (h : spKinds ds M Qd Ed) : dKinds spDraw spNames K (fun _ M' => Qd .non M') Qd (fun _ _ => False) (fun _ _ => False) (fun C dd _ M' => Ed C dd M') (start0 [y0, y1, y2, y3, y4, y5, y6, y7, y8, y9, y10, y11, y12] ds) M := by
  obtain ⟨p, c, fs, e, w, b, rfl, hf1, hf6, he, hw, nd, hb, S, kQ⟩ := h
  unfold dKinds
  walk_at "dl"
  refine isS_len (.lst _) ?_
  rw [List.length_map]
  walk_at "dl"
  refine spDraw_of (by omega) (by omega) nd (by omega) S fun r1 M1 a1 b1 nd1 S1 f1 => ?_
  walk_at "dl"
  obtain ⟨n, hn⟩ : ∃ n : Nat, (fs.length : Int) + r1 = n := ⟨(fs.length + r1.toNat), by omega⟩
  rw [hn]
  refine ⟨p, c, _, n, rfl, by omega, nd1, by omega, S1, fun ns a M2 hns hnn hno nd2 S2 ha2 hap hac hm2 f2 => ?_⟩
  obtain ⟨M3, U3⟩ := del_ex nd2 hm2
  refine ⟨_, M3, .one U3.up rfl, ?_⟩
  have S3 := S2.fr U3.fr (not_mem1 (Ne.symm hap)) (not_mem1 (Ne.symm hac))
  have f3 : Fr [p, c] M M3 := fun x m hx hm => by
    have h1 := f2 _ _ hx (f1 _ _ hx hm)
    exact U3.fr _ _ (not_mem1 fun e => ha2 m (by rw [← e]; exact f1 _ _ hx hm)) h1
  walk_at "dl"
  refine ⟨len_le_line (n := 0), .inr fun h hh => ?_⟩
  walk_at "dl"
  refine ⟨by omega, by omega, ?_⟩
  have hpc : p ≠ h ∧ c ≠ h := by
    obtain ⟨_, _, _, _, _, h1, h2, _⟩ := S3.ex
    exact ⟨fun e => hh _ (by rw [← e]; exact h1), fun e => hh _ (by rw [← e]; exact h2)⟩
  let P : Nat → Rho → Mem → Prop := fun k ρ M' => ∃ rs : List Kd, (∃ x7 x8 x9 x10 x11 x12, ρ = [some (.ptr p), some (.lst (fs.map .str)), some (.int e), some (.int w), some (.int n), some (.lst (ns.map .str)), some (.ptr h), x7, x8, x9, x10, x11, x12]) ∧ rs.length = k ∧ KRow fs ns w rs ∧
    Nd M' ∧ Src p c (b + 6 + 15 * k) M' ∧ (h, MO.lst (rs.map kdL)) ∈ M' ∧ Fr [p, c, h] M M'
  have fr0 : Fr [p, c, h] M ((h, MO.lst []) :: M3) := fun x m hx hm => List.mem_cons_of_mem _ (f3 x m (fun z => hx (by rcases List.mem_cons.mp z with e | e <;> simp_all)) hm)
  refine goF_inv P (fun _ _ _ _ => trivial) (fun k d ρ M' hd hP go hgo => ?_) (fun ρ M' hP => ?_) ⟨[], ⟨_, _, _, _, _, _, rfl⟩, rfl, ⟨rfl, by simp, by simp, by simp, by simp⟩, nd_new hh U3.nd, (S3.fr (ps := []) Fr.refl.cons (by simp) (by simp)).more (by omega), List.mem_cons_self, fr0⟩
  · obtain ⟨rs, ⟨x7, x8, x9, x10, x11, x12, rfl⟩, hl, kr, nd', S', hm, f'⟩ := hP
    unfold rng at hd
    obtain ⟨hk, ed⟩ : k < n ∧ d = .int (k : Int) := by
      have hlt := (List.getElem?_eq_some_iff.mp hd).1
      rw [List.length_map, List.length_range] at hlt
      rw [List.getElem?_map, List.getElem?_range hlt] at hd
      refine ⟨by omega, ?_⟩
      have := Option.some.inj hd
      rw [← this]
      show D.int (0 + (k : Int)) = _
      rw [Int.zero_add]
    subst ed
    walk_at "dl"
    refine isS_len (.lst _) ?_
    rw [List.length_map]
    walk_at "dl"
    -- the family
    have hfam : ∀ (ρ : Rho) (R : D → Mem → Prop) (E : XD), at_ ρ 0 = some (.ptr p) → at_ ρ 1 = some (.lst (fs.map .str)) → at_ ρ 7 = some (.int (k : Int)) →
        (∀ (f : Str) M'', f ∈ fs → (k < fs.length → fs[k]? = some f) → Nd M'' → Src p c (b + 6 + 15 * k + 1) M'' → (h, MO.lst (rs.map kdL)) ∈ M'' → Fr [p, c, h] M M'' → R (.str f) M'') →
        if decide ((k : Int) < (fs.length : Nat)) = true then dOp rIx (dVar 1) (dVar 7) ρ M' R E else dOp rIx (dVar 1) (dCall spDraw (dCons (dVar 0) (dCons (dCB rLen (dCons (dVar 1) dNil)) dNil))) ρ M' R E := by
      intro ρ R E h0 h1 h7 kR
      by_cases hlt : k < fs.length
      · refine g_ift (by simpa using hlt) ?_
        refine g_op (g_var h1 (g_var h7 ?_))
        refine ixq_lst (atI_nat' (j := k) (x := .str fs[k]) rfl (by rw [List.getElem?_map]; simp [hlt])) ?_
        exact kR _ _ (List.getElem_mem hlt) (fun _ => by simp [hlt]) nd' (S'.more (by omega)) hm f'
      · refine g_iff' (by simpa using hlt) ?_
        refine g_op (g_var h1 (g_call (g_cons (g_var h0 (g_cons (g_cb (g_cons (g_var h1 (g_nil (isS_len (.lst _) (g_nil ?_)))))))))))
        rw [List.length_map]
        refine spDraw_of (by omega) (by omega) nd' (by omega) S' fun r2 M4 a2 b2 nd4 S4 f4 => ?_
        have hlt2 : r2.toNat < fs.length := by omega
        refine ixq_lst (atI_nat' (j := r2.toNat) (x := .str fs[r2.toNat]) (by omega) (by rw [List.getElem?_map]; simp [hlt2])) ?_
        exact kR _ _ (List.getElem_mem hlt2) (fun z => absurd z hlt) nd4 (S4.more (by omega)) (f4 _ _ (not_mem2 (Ne.symm hpc.1) (Ne.symm hpc.2)) hm) (fun x m hx hmm => f4 _ _ (fun z => hx (by rcases List.mem_cons.mp z with e | e <;> simp_all)) (f' _ _ hx hmm))
    refine hfam _ _ _ rfl rfl rfl fun f M4 hf hfk nd4 S4 hm4 f4 => ?_
    walk_at "dl"
    refine isS_len (.lst _) ?_
    rw [List.length_map]
    walk_at "dl"
    refine .two ?_
    obtain ⟨kn, hkn, hkn2⟩ : ∃ kn : Nat, (if (fs.length : Int) < (k : Int) then ((fs.length : Nat) : Int) else (k : Int)) = kn ∧ (kn = k ∨ kn = fs.length) ∧ kn ≤ k ∧ kn ≤ fs.length := by
      by_cases z : (fs.length : Int) < (k : Int)
      · exact ⟨fs.length, by rw [if_pos z], .inr rfl, by omega, Nat.le_refl _⟩
      · exact ⟨k, by rw [if_neg z], .inl rfl, Nat.le_refl _, by omega⟩
    rw [hkn]
    walk_at "dl"
    refine ⟨len_le_line (n := 0), .inl ?_⟩
    walk_at "dl"
    -- the row is appended
    have app : ∀ (ch : List Str) (ρ : Rho) (M5 : Mem), ch.length ≤ w → (∀ c ∈ ch, c ∈ fs.take k) → Nd M5 → Src p c (b + 6 + 15 * k + 13) M5 → (h, MO.lst (rs.map kdL)) ∈ M5 → Fr [p, c, h] M M5 → (∃ x11 x12, ρ = [some (.ptr p), some (.lst (fs.map .str)), some (.int e), some (.int w), some (.int n), some (.lst (ns.map .str)), some (.ptr h), some (.int (k : Int)), some (.str f), some (.int (kn : Int)), some (.lst (ch.map .str)), x11, x12]) →
        dBM "list" rApp (dVar 6) (dCons (dTup (dCons (dOp rIx (dVar 5) (dVar 7)) (dCons (dVar 8) (dCons (dVar 10) dNil)))) dNil) ρ M5 (fun _ M' => go ρ M') (fun _ _ _ => False) := by
      rintro ch ρ M5 hcl hch nd5 S5 hm5 f5 ⟨x11, x12, rfl⟩
      walk_at "dl"
      refine ⟨.lst (.ptr hm5), ?_⟩
      walk_at "dl"
      have hkn' : k < ns.length := by omega
      refine ixq_lst (atI_nat' (j := k) (x := .str ns[k]) rfl (by rw [List.getElem?_map]; simp [hkn'])) ?_
      walk_at "dl"
      refine ⟨len_le_line (n := 3), ?_⟩
      walk_at "dl"
      obtain ⟨M6, U6⟩ := upd_ex (n := .lst (rs.map kdL ++ [kdL ⟨ns[k], f, ch⟩])) nd5 hm5
      refine .ptr U6.up (lt_line (by rw [List.length_map]; omega)) (hgo _ _ ⟨rs ++ [⟨ns[k], f, ch⟩], ⟨_, _, _, _, _, _, rfl⟩, by rw [List.length_append, hl]; rfl, kr.push (by rw [hl]; simp [hkn']) hf (by rw [hl]; exact hfk) hcl (by rw [hl]; exact hch), U6.nd, (S5.fr U6.fr (not_mem1 hpc.1) (not_mem1 hpc.2)).more (by omega), by rw [List.map_append]; exact U6.at_, ?_⟩)
      exact fun x m hx hmm => U6.fr _ _ (fun z => hx (by simp_all)) (f5 _ _ hx hmm)
    by_cases hk0 : (0 : Int) < kn
    · refine g_ift (by simpa using hk0) ?_
      walk_at "dl"
      refine spDraw_of (by omega) (by omega) nd4 (by omega) S4 fun r5 M5 a5 b5 nd5 S5 f5 => ?_
      walk_at "dl"
      refine ⟨by omega, by omega, ?_⟩
      have fh := not_mem2 (Ne.symm hpc.1) (Ne.symm hpc.2)
      have frt : ∀ {M M' M'' : Mem}, Fr [p, c, h] M M' → Fr [p, c] M' M'' → Fr [p, c, h] M M'' := fun f f' x m hx hmm => f' _ _ (fun z => hx (by rcases List.mem_cons.mp z with e | e <;> simp_all)) (f _ _ hx hmm)
      unfold rng
      refine ⟨lt_line (by rw [List.length_map, List.length_range]; omega), lc_chg (fun i : Nat => D.int (0 + (i : Int))) (fun acc M6 => ∃ ch : List Str, acc = ch.map .str ∧ (∀ c ∈ ch, c ∈ fs.take k) ∧ Nd M6 ∧ Src p c (b + 6 + 15 * k + 2 + acc.length) M6 ∧ (h, MO.lst (rs.map kdL)) ∈ M6 ∧ Fr [p, c, h] M M6) (fun _ _ _ => trivial) (done := []) rfl (fun i x acc M6 hx hal I P1 hP1 => ?_) (fun acc M6 hal I => .inl ?_) ⟨[], rfl, by simp, nd5, S5, f5 _ _ fh hm4, frt f4 f5⟩⟩
      · obtain ⟨ch, rfl, hch, nd6, S6, hm6, f6⟩ := I
        have hi : i < r5.toNat := by
          have := (List.getElem?_eq_some_iff.mp hx).1
          simpa using this
        rw [hal] at S6
        walk_at "dl"
        refine spDraw_of hk0 (by omega) nd6 (by omega) S6 fun r7 M7 a7 b7 nd7 S7 f7 => ?_
        have hlt7 : r7.toNat < fs.length := by omega
        refine ixq_lst (atI_nat' (j := r7.toNat) (x := .str fs[r7.toNat]) (by omega) (by rw [List.getElem?_map]; simp [hlt7])) ?_
        refine hP1 _ _ ⟨ch ++ [fs[r7.toNat]], by rw [List.map_append]; rfl, fun z hz => ?_, nd7, S7.more (by rw [List.length_append, hal]; simp; omega), f7 _ _ fh hm6, frt f6 f7⟩
        rcases List.mem_append.mp hz with e | e
        · exact hch z e
        · rw [List.mem_singleton.mp e]
          rw [List.mem_take_iff_getElem]
          exact ⟨r7.toNat, by omega, rfl⟩
      · obtain ⟨ch, rfl, hch, nd6, S6, hm6, f6⟩ := I
        rw [List.nil_append, List.length_range, List.length_map] at hal
        exact g_nm (g_drop (app ch _ _ (by omega) hch nd6 (S6.more (by rw [List.length_map, hal]; omega)) hm6 f6 ⟨_, _, rfl⟩))
    · refine g_iff' (by simpa using hk0) ?_
      exact g_next (g_drop (app [] _ _ (by simp) (by simp) nd4 (S4.more (by omega)) hm4 f4 ⟨_, _, rfl⟩))
  · obtain ⟨rs, ⟨x7, x8, x9, x10, x11, x12, rfl⟩, hl, kr, nd', S', hm, f'⟩ := hP
    unfold rng at hl S'
    rw [List.length_map, List.length_range] at hl S'
    walk_at "dl"
    refine spDraw_of (by omega) (by omega) nd' (by omega) S' fun r2 M4 a2 b2 nd4 S4 f4 => ?_
    have hm4 := f4 _ _ (not_mem2 (Ne.symm hpc.1) (Ne.symm hpc.2)) hm
    obtain ⟨cu, hcu⟩ : ∃ cu : Nat, r2 = cu := ⟨r2.toNat, by omega⟩
    subst hcu
    walk_at "dl"
    refine .lst (.ptr hm4) (.inl ?_)
    rw [cut_low]
    walk_at "dl"
    refine .lst (.ptr hm4) (.inl ?_)
    rw [cut_up]
    walk_at "dl"
    refine .lst (.lst _) (.lst _) (len_le_line (by rw [List.length_map, List.length_map, List.length_drop, List.length_take]; omega)) (.inl ?_)
    rw [← List.map_append]
    refine kQ _ _ (kr.done hnn hno (by omega) (by omega)) nd4 (S4.more (by omega)) fun x m hx hmm => ?_
    exact f4 _ _ hx (f' _ _ (fun z => by
      rcases List.mem_cons.mp z with e | z
      · exact hx (by rw [e]; exact List.mem_cons_self)
      rcases List.mem_cons.mp z with e | z
      · exact hx (by rw [e]; exact List.mem_cons_of_mem _ List.mem_cons_self)
      · rw [List.mem_singleton.mp z] at hmm hx
        exact hh _ (f3 _ _ hx hmm)) hmm)
end
end DL
namespace DL
variable [Wd]
open PySem L2 PySem.Spec PyProof.Rows
/-! ### helpers of the laws -/
section
variable {ρ : Rho} {M : Mem} {E : XD} {K : PySem.W.Frag}
theorem g_ien {k : Int} {de : DE} {Q : List D → (Mem → Prop) → Mem → Prop} (q : de ρ M (fun d M1 => ∃ ds st, IsN M1 d ds st ∧ Q ((enumL k ds).map prD) st M1) E) : iEn k de ρ M Q E := q
theorem ne_free {x : Addr} (hx : Free x M) {b : Addr} {m : MO} (h : (b, m) ∈ M) : b ≠ x := fun e => hx m (by rw [← e]; exact h)
theorem hu64s {k : Nat} {A A' : Around} (hr : Room k A) (e : A'.units = A.units := by rfl) : A'.units + 64 < cLine := by rw [e]; exact hu64 hr
theorem far {x : Str} (h : NameOk x) : x ≠ "unknownname" := fun e => by
  have := h.l2
  rw [e] at this
  exact absurd this (by decide +kernel)
end
end DL
local macro_rules | `(tactic| walk_at "dl") => `(tactic| repeat (first | (with_reducible first | refine DL.g_seq ?_ | refine DL.g_asg ?_ | refine DL.g_sif ?_ | refine DL.g_ret ?_ | refine DL.g_retN ?_ | refine DL.g_drop ?_ | refine DL.g_next ?_ | refine DL.g_cont ?_ | refine DL.g_brk ?_ | refine DL.g_sfor ?_ | refine DL.g_op ?_ | refine DL.g_c ?_ | refine DL.g_nil ?_ | refine DL.g_cons ?_ | refine DL.g_cb ?_ | refine DL.g_call ?_ | refine DL.g_tup ?_ | refine DL.g_lst ?_ | refine DL.g_B ?_ | refine DL.g_not ?_ | refine DL.g_and ?_ | refine DL.g_or ?_ | refine DL.g_if ?_ | refine DL.g_bl ?_ | refine DL.g_in ?_ | refine DL.g_nm ?_ | refine DL.g_fld ?_ | refine DL.IntB.int ?_ | refine DL.AddR.int ?_ | refine DL.SubR.int ?_ | refine DL.EqR.int ?_ | refine DL.EqR.str ?_ | refine DL.EqR.bl ?_ | refine DL.IntC.int ?_ | refine DL.IsR.non ?_ | refine DL.g_lc ?_ | refine DL.g_lc2 ?_ | refine DL.g_dc ?_ | refine DL.g_iany ?_ | refine DL.g_iitm ?_ | refine DL.g_irg1 ?_ | refine DL.g_sl ?_ | refine DL.g_onone ?_ | refine DL.g_osome ?_ | refine DL.g_con ?_ | refine DL.g_bm ?_ | refine DL.g_andV ?_ | refine DL.g_orV ?_ | refine DL.g_notV ?_ | refine DL.g_make ?_ | refine DL.g_meth ?_ | refine DL.g_listint ?_ | refine DL.g_fldS ?_ | refine DL.g_gsub ?_ | refine DL.g_zK ?_ | refine DL.g_try ?_ | refine DL.g_prop ?_ | refine DL.g_propS ?_ | refine DL.g_star ?_ | refine DL.g_xf ?_ | refine DL.g_makeK ?_ | refine DL.g_ival ?_ | refine DL.g_ien ?_ | refine DL.g_irg2 ?_) | (refine DL.g_var (by first | assumption | rfl) ?_)))
namespace DL
variable [Wd]
open PySem L2 PySem.Spec PyProof.Rows
end DL
namespace DL
variable [Wd]
open PySem L2 PySem.Spec PyProof.Rows
/-! ### grammars that are not refused -/
section
variable {M : Mem} {K : PySem.W.Frag}
theorem ordS_nodup (xs : List Str) : (ordS xs).Nodup := by
  have key : ∀ (xs as : List Str), as.Nodup → (xs.foldl (fun a x => if x ∈ a then a else a ++ [x]) as).Nodup := by
    intro xs
    induction xs with
    | nil => intro as h; exact h
    | cons y ys ih =>
      intro as h
      rw [List.foldl_cons]
      refine ih _ ?_
      by_cases q : y ∈ as
      · rw [if_pos q]; exact h
      · rw [if_neg q]
        exact List.nodup_append.mpr ⟨h, by simp, fun a ha b hb e => q (by rw [← List.mem_singleton.mp hb, ← e]; exact ha)⟩
  exact key xs [] List.nodup_nil
theorem KOk.fams {fs : List Str} {rs : List Kd} {e w : Nat} (k : KOk fs rs e w) : ∀ f, f ∈ famsOf rs ↔ f ∈ fs := fun f => ⟨fun h => by obtain ⟨r, hr, rfl⟩ := fam_kind h; exact k.fam r hr, fun h => by obtain ⟨r, hr, rfl⟩ := k.cov f h; exact ord_mem (List.mem_map.mpr ⟨r, hr, rfl⟩)⟩
theorem KOk.famsLen {fs : List Str} {rs : List Kd} {e w : Nat} (k : KOk fs rs e w) : (famsOf rs).length ≤ fs.length := nodup_le (ordS_nodup _) fun x hx => (k.fams x).mp hx
theorem KOk.noErr {fs : List Str} {rs : List Kd} {e w : Nat} (k : KOk fs rs e w) (h0 : fs ≠ []) (h3 : fs.length ≤ 3) (h8 : fs.length + e ≤ 8) (hw : w ≤ 3) : kindsErr rs (famsOf rs) = none := by
  have hpos : rs.length ≠ 0 := fun z => by
    cases fs with
    | nil => exact h0 rfl
    | cons f fs =>
      obtain ⟨r, hr, _⟩ := k.cov f List.mem_cons_self
      rw [List.length_eq_zero_iff.mp z] at hr
      cases hr
  have := k.len
  have hf := k.famsLen
  unfold kindsErr
  rw [if_neg (fun z => z.elim hpos fun z => by rw [ord_nodup k.nd, List.length_map] at z; omega), if_neg (by omega), if_neg, if_neg (by omega), if_neg]
  · rw [Bool.not_eq_true, List.any_eq_false]
    intro r hr z
    obtain ⟨c, hc, hc2⟩ := List.any_eq_true.mp z
    exact (of_decide_eq_true hc2) ((k.fams c).mpr (k.ch r hr c hc))
  · rw [Bool.not_eq_true, List.any_eq_false]
    intro r hr z
    have := of_decide_eq_true z
    have := k.cl r hr
    omega
/-- Grammar(..) of kinds that are fine -/
theorem gram_ok {cG cL cB q : Addr} {a b : D} {root : Option Str} {xs fs : List Str} {ps : List (Kd × D)} {e w : Nat} {Q : D → Mem → Prop} {E : XD} (hq : (q, MO.obj cG []) ∈ M) (nd : Nd M) (ha : IsS M a (xs.map .str)) (hx : xs.length ≤ 6) (hxn : xs.Nodup) (hb : IsS M b (rowsD ps)) (hch : ∀ p ∈ ps, IsS M p.2 (p.1.ch.map .str))
    {rs : List Kd} (hrs : ps.map (·.1) = rs) (k : KOk fs rs e w) (h0 : fs ≠ []) (h3 : fs.length ≤ 3) (h8 : fs.length + e ≤ 8) (hw : w ≤ 3) (hroot : ∀ s, root = some s → s ∈ fs)
    (fin : ∀ S M', (q, MO.obj cG (gramD xs rs root S)) ∈ M' → Gm M' (.ptr q) cG xs rs root S → Nd M' → Fr [q] M M' → Q .non M') : spGram cG cL cB [.ptr q, a, b, rootD root] M Q E := by
  subst hrs
  have hl : ps.length ≤ 8 := by have := k.len; rw [List.length_map] at this; omega
  refine ⟨q, a, b, root, xs, ps, rfl, hq, nd, ha, by omega, hb, by omega, hch, ?_⟩
  rw [show fieldsErr xs = none from (if_neg (show ¬ 6 < xs.length by omega)).trans (if_neg (by rw [ord_nodup hxn]; omega)), k.noErr h0 h3 h8 hw]
  unfold Out
  have hrb : rootBad (ps.map (·.1)) root = false := by
    cases root with
    | none => rfl
    | some s =>
      have := (k.fams s).mpr (hroot s rfl)
      show decide (s ∉ famsOf (ps.map (·.1))) = false
      simp only [this, not_true_eq_false, decide_false]
  refine g_iff' hrb ?_
  rintro S M5 nd5 ⟨L, hz, hS⟩
  have full := full_of k.nd hz hS k.trs
  rw [List.length_map] at full
  refine ⟨fun z => absurd z full, fun _ h5 f5 => fin S M5 h5 ⟨.ptr h5, k.nd, by rw [List.length_map]; exact hl, ⟨L, hz, hS⟩, by rw [List.length_map]; exact full⟩ nd5 f5⟩
theorem rowsD_kdL (rs : List Kd) : rowsD (rs.map fun r => (r, D.lst (r.ch.map .str))) = rs.map kdL := by unfold rowsD; rw [List.map_map]; rfl
theorem fst_map (f : Kd → D) (rs : List Kd) : (rs.map fun r => (r, f r)).map (·.1) = rs := by rw [List.map_map]; exact List.map_id _
end
end DL
namespace DL
variable [Wd]
open PySem L2 PySem.Spec PyProof.Rows
/-! ### statements and bodies, as the laws draw them -/
section
variable {M : Mem} {K : PySem.W.Frag} {ds : List D} {Qd : D → Mem → Prop} {Ed : XD}
inductive Stm where
  | call (c : Nat) (w : Str)
  | set (p : Nat) (f : Str) (rs : List (Nat × Str))
def rdD (r : Nat × Str) : D := .tup [.int (r.1 : Nat), .str r.2]
def stD : Stm → D
  | .call c w => .tup [.str "call", .int (c : Nat), .str w]
  | .set p f rs => .tup [.str "set", .int (p : Nat), .str f, .tup (rs.map rdD)]
def StOk (fs ns : List Str) (w : Nat) : Stm → Prop
  | .call c x => 1 ≤ c ∧ c ≤ w ∧ x ∈ ns
  | .set p f rs => p ≤ w ∧ f ∈ fs ∧ rs.length ≤ 4 ∧ ∀ r ∈ rs, r.1 ≤ w ∧ r.2 ∈ fs
theorem draw_nat {p c : Addr} {many : Int} {n b : Nat} {Q : D → Mem → Prop} {E : XD} (hm : many = (n : Int)) (h0 : 0 < n) (h1 : n < 1000) (nd : Nd M) (hb : b < 100000000) (S : Src p c b M) (k : ∀ (r : Nat) M', r < n → Nd M' → Src p c (b + 1) M' → Fr [p, c] M M' → Q (.int (r : Nat)) M') : spDraw [.ptr p, .int many] M Q E := by
  refine spDraw_of (by omega) (by omega) nd hb S fun r M' a1 a2 nd' S' f' => ?_
  have := k r.toNat M' (by omega) nd' S' f'
  rwa [Int.toNat_of_nonneg a1] at this
theorem ix_map {α : Type} {Q : D → Mem → Prop} (f : α → D) {xs : List α} {i : Nat} (h : i < xs.length) (q : Q (f xs[i]) M) : IxQ M Q (.lst (xs.map f)) (.int (i : Nat)) := ixq_lst (atI_nat' (j := i) (x := f xs[i]) rfl (by rw [List.getElem?_map]; simp [h])) q
theorem rng_len {lo : Int} {n : Nat} : (rng lo n).length = n := by unfold rng; rw [List.length_map, List.length_range]
end
end DL
namespace DL
variable [Wd]
open PySem L2 PySem.Spec PyProof.Rows
/-! ### _law_body -/
section
variable {M : Mem} {K : PySem.W.Frag} {ds : List D} {Qd : D → Mem → Prop} {Ed : XD}
section
variable {p c h : Addr} {fs ns : List Str} {w b b' n : Nat} {bd : List Stm} {M0 M' : Mem}
end
end
end DL
namespace DL
variable [Wd]
open PySem L2 PySem.Spec PyProof.Rows
/-! ### walks, as the laws draw them -/
section
variable {M : Mem} {K : PySem.W.Frag} {ds : List D} {Qd : D → Mem → Prop} {Ed : XD}
abbrev Bs := List (Str × List Stm)
abbrev Ws := List (Str × Bs)
def namesW (ws : Ws) : List Str := ws.map (·.1)
structure BsOk (fs ns : List Str) (rs : List Kd) (bs : Bs) : Prop where
  nd : (bs.map (·.1)).Nodup
  ok : ∀ x ∈ bs, ∃ r ∈ rs, r.n = x.1 ∧ x.2.length ≤ 6 ∧ ∀ s ∈ x.2, StOk fs ns r.ch.length s
end
end DL
namespace DL
variable [Wd]
open PySem L2 PySem.Spec PyProof.Rows
/-! ### rows, systems, and what is handed to Program -/
section
variable {M : Mem} {K : PySem.W.Frag} {ds : List D} {Qd : D → Mem → Prop} {Ed : XD}
end
end DL
namespace DL
variable [Wd]
open PySem L2 PySem.Spec PyProof.Rows
/-! ### the checks of a program's bodies -/
section
variable {M : Mem} {K : PySem.W.Frag} {ds : List D} {Qd : D → Mem → Prop} {Ed : XD}
def pgE (g : D) (ns : List Str) (bd : D) (ig : List Str) : List (Str × D) := [("grammar", g), ("names", .tup (ns.map .str)), ("_bodies", bd), ("_ignored", .tup (ig.map .str))]
structure PgOk (K : PySem.W.Frag) (C : Addr) : Prop where
  f1 : FldOk K C "grammar"
  f2 : FldOk K C "names"
  f3 : FldOk K C "_bodies"
  f4 : FldOk K C "_ignored"
theorem hg1 {g bd : D} {ns ig : List Str} : Has (pgE g ns bd ig) "grammar" g := .head
theorem no_methP {g bd : D} {ns ig : List Str} {m : Str} (h : m ∉ (["grammar", "names", "_bodies", "_ignored"] : List Str)) : NoF m (pgE g ns bd ig) := by
  simp only [List.mem_cons, not_or] at h
  obtain ⟨h1, h2, h3, h4, _⟩ := h
  exact .cons (Ne.symm h1) (.cons (Ne.symm h2) (.cons (Ne.symm h3) (.cons (Ne.symm h4) .nil)))
end
end DL
namespace DL
variable [Wd]
open PySem L2 PySem.Spec PyProof.Rows
/-! ### programs -/
section
variable {M : Mem} {K : PySem.W.Frag} {ds : List D} {Qd : D → Mem → Prop} {Ed : XD}
def ent (w : Str) (y : Str × List Stm) : D × D := (.tup [.str w, .str y.1], .tup (y.2.map stD))
def esOf (ws : Ws) : List (D × D) := ws.flatMap fun x => x.2.map (ent x.1)
def bodyOf (ws : Ws) (w k : Str) : Option (List Stm) := (ws.find? fun x => decide (x.1 = w)).bind fun x => (x.2.find? fun y => decide (y.1 = k)).map (·.2)
/-- walks that Program takes -/
structure WsV (fs : List Str) (rs : List Kd) (ws : Ws) : Prop where
  nd : (namesW ws).Nodup
  l6 : ws.length ≤ 6
  ok : ∀ x ∈ ws, BsOk fs (namesW ws) rs x.2
/-- a made program; its bodies stand at an address -/
structure Pm (M : Mem) (pr : D) (cP cG : Addr) (g : D) (fs : List Str) (rs : List Kd) (root : Option Str) (S : Tab) (ws : Ws) (k : Addr) (ig : List Str) : Prop where
  at_ : IsO M pr cP (pgE g (namesW ws) (.ptr k) ig)
  bd : (k, MO.dit (esOf ws)) ∈ M
  G : ∀ M', Gm M' g cG fs rs root S
  W : WsV fs rs ws
theorem Pm.mono {M' : Mem} {pr : D} {cP cG : Addr} {g : D} {fs : List Str} {rs : List Kd} {root : Option Str} {S : Tab} {ws : Ws} {k : Addr} {ig : List Str} (h : Pm M pr cP cG g fs rs root S ws k ig) {ps : List Addr} (f : Fr ps M M') (hk : k ∉ ps) (hp : ∀ a, pr = .ptr a → a ∉ ps) : Pm M' pr cP cG g fs rs root S ws k ig := by
  refine ⟨?_, f _ _ hk h.bd, h.G, h.W⟩
  have a := h.at_
  cases a with
  | obj => exact .obj _ _
  | ptr hm => exact .ptr (f _ _ (hp _ rfl) hm)
def spBodyOf (cP cG cU : Addr) : SpD := fun ds M Q E => ∃ pr g fs rs root S ws k ig w kd, ds = [pr, .str w, .str kd] ∧ Pm M pr cP cG g fs rs root S ws k ig ∧ Nd M ∧ (w ∉ namesW ws → Errs E cU "name" w M) ∧ (w ∈ namesW ws → kd ∉ namesOf rs → Errs E cU "name" kd M) ∧ (w ∈ namesW ws → kd ∈ namesOf rs → Q (.tup (((bodyOf ws w kd).getD []).map stD)) M)
end
end DL
namespace DL
variable [Wd]
open PySem L2 PySem.Spec PyProof.Rows
/-! ### batches, steps, items -/
section
variable {M : Mem} {K : PySem.W.Frag} {ds : List D} {Qd : D → Mem → Prop} {Ed : XD}
def enumN {α : Type} (k : Nat) : List α → List (Nat × α)
  | [] => []
  | x :: xs => (k, x) :: enumN (k + 1) xs
theorem enum_int {α : Type} : ∀ (k : Nat) (xs : List α), enumL (k : Int) xs = (enumN k xs).map fun p => ((p.1 : Int), p.2)
  | _, [] => rfl
  | k, x :: xs => by
    show ((k : Int), x) :: enumL ((k : Int) + 1) xs = _
    rw [show (k : Int) + 1 = ((k + 1 : Nat) : Int) by omega, enum_int (k + 1) xs]
    rfl
def bodyAt (ws : Ws) (w k : Str) : List Stm := (bodyOf ws w k).getD []
theorem enumN_len {α : Type} : ∀ (k : Nat) (xs : List α), (enumN k xs).length = xs.length
  | _, [] => rfl
  | k, x :: xs => by show (enumN (k + 1) xs).length + 1 = _; rw [enumN_len]; rfl
theorem enumN_mem {α : Type} : ∀ {k : Nat} {xs : List α} {p : Nat × α}, p ∈ enumN k xs → p.2 ∈ xs
  | _, x :: xs, p, h => by
    rcases List.mem_cons.mp h with e | e
    · rw [e]; exact List.mem_cons_self
    · exact List.mem_cons_of_mem _ (enumN_mem e)
theorem flat_len {α β : Type} {n : Nat} (f : α → List β) : ∀ {xs : List α}, (∀ x ∈ xs, (f x).length ≤ n) → (xs.flatMap f).length ≤ xs.length * n
  | [], _ => Nat.zero_le _
  | x :: xs, h => by
    have ih := flat_len (n := n) f (xs := xs) fun z hz => h z (List.mem_cons_of_mem _ hz)
    have := h x List.mem_cons_self
    rw [List.flatMap_cons, List.length_append, List.length_cons, Nat.add_mul]
    omega
/-- what stands of a body: a few valid statements -/
theorem bodyAt_ok {fs : List Str} {rs : List Kd} {ws : Ws} (W : WsV fs rs ws) (w k : Str) : (bodyAt ws w k).length ≤ 6 ∧ ∀ s ∈ bodyAt ws w k, ∃ r ∈ rs, r.n = k ∧ StOk fs (namesW ws) r.ch.length s := by
  unfold bodyAt bodyOf
  cases e1 : ws.find? fun x => decide (x.1 = w) with
  | none => exact ⟨Nat.zero_le _, by simp⟩
  | some x =>
    have hx := List.mem_of_find?_eq_some e1
    simp only [Option.bind_some]
    cases e2 : x.2.find? fun y => decide (y.1 = k) with
    | none => exact ⟨Nat.zero_le _, by simp⟩
    | some y =>
      have hy := List.mem_of_find?_eq_some e2
      have hk := List.find?_some e2
      obtain ⟨r, hr, e, hl, hs⟩ := (W.ok x hx).ok y hy
      exact ⟨hl, fun s h => ⟨r, hr, by rw [e]; simpa using hk, hs s h⟩⟩
end
end DL
namespace DL
variable [Wd]
open PySem L2 PySem.Spec PyProof.Rows
section
variable {M : Mem} {K : PySem.W.Frag} {ds : List D} {Qd : D → Mem → Prop} {Ed : XD}
theorem g_dn {di : DI} {ct : CT} {dt : DT} {dk dv : DE} {vs : List Nat} {ρ : Rho} {E : XD} {Q : D → Mem → Prop} (q : di ρ M (fun ds st M1 => ds.length < sizeLine ∧ goN ct dt dk dv st (wipeD ρ vs) (fun acc M2 => NewM (.dit acc) (.dit acc) M2 Q) ds [] M1) E) : dDn di ct dt dk dv vs ρ M Q E := q
end
end DL
namespace DL
variable [Wd]
open PySem L2 PySem.Spec PyProof.Rows
/-! ### max(i, j), d.clear(), xs.count(text) -/
section
variable {X : Cx} {g : G}
theorem dboot_max : bootBuiltins "max" = some (.builtin "max") := by decide +kernel
end
end DL
namespace DL
variable [Wd]
open PySem L2 PySem.Spec PyProof.Rows
end DL
namespace DL
variable [Wd]
open PySem L2 PySem.Spec PyProof.Rows
end DL
namespace DL
variable [Wd]
open PySem L2 PySem.Spec PyProof.Rows
/-! ### _law_sizes of law k02 -/
section
variable {M : Mem} {K : PySem.W.Frag} {ds : List D} {Qd : D → Mem → Prop} {Ed : XD}
theorem in_tab {M : Mem} {q : Addr} {S : Tab} {s : Str} {Q : D → Mem → Prop} (h : (q, MO.dic (emb S)) ∈ M) (k : Q (.bl (getN S s).isSome) M) : rIn (.str s) (.ptr q) M Q := by
  refine InR.dic (k := .inr s) (.ptr h) ?_
  rw [look_emb, ne_false]
  cases e : getN S s with
  | none => rw [e] at k; exact k
  | some n => rw [e] at k; exact k
theorem all_is {L : Tab} : ∀ ch : List Str, (ch.map fun c => (getN L c).isSome).all id = allL L ch
  | [] => rfl
  | c :: ch => by
    have ih := all_is (L := L) ch
    rw [List.map_cons, List.all_cons, ih]
    unfold allL
    rw [List.all_cons]
    rfl
end
end DL
namespace DL
variable [Wd]
open PySem L2 PySem.Spec PyProof.Rows
/-! ### for c in a text -/
section
variable {X : Cx} {g : G} {W : WX} {tg e : Expr} {de : DE}
end
end DL
local macro_rules | `(tactic| walk_at "dl") => `(tactic| repeat (first | (with_reducible first | refine DL.g_seq ?_ | refine DL.g_asg ?_ | refine DL.g_sif ?_ | refine DL.g_ret ?_ | refine DL.g_retN ?_ | refine DL.g_drop ?_ | refine DL.g_next ?_ | refine DL.g_cont ?_ | refine DL.g_brk ?_ | refine DL.g_sfor ?_ | refine DL.g_op ?_ | refine DL.g_c ?_ | refine DL.g_nil ?_ | refine DL.g_cons ?_ | refine DL.g_cb ?_ | refine DL.g_call ?_ | refine DL.g_tup ?_ | refine DL.g_lst ?_ | refine DL.g_B ?_ | refine DL.g_not ?_ | refine DL.g_and ?_ | refine DL.g_or ?_ | refine DL.g_if ?_ | refine DL.g_bl ?_ | refine DL.g_in ?_ | refine DL.g_nm ?_ | refine DL.g_fld ?_ | refine DL.IntB.int ?_ | refine DL.AddR.int ?_ | refine DL.SubR.int ?_ | refine DL.EqR.int ?_ | refine DL.EqR.str ?_ | refine DL.EqR.bl ?_ | refine DL.IntC.int ?_ | refine DL.IsR.non ?_ | refine DL.g_lc ?_ | refine DL.g_lc2 ?_ | refine DL.g_dc ?_ | refine DL.g_iany ?_ | refine DL.g_iitm ?_ | refine DL.g_irg1 ?_ | refine DL.g_sl ?_ | refine DL.g_onone ?_ | refine DL.g_osome ?_ | refine DL.g_con ?_ | refine DL.g_bm ?_ | refine DL.g_andV ?_ | refine DL.g_orV ?_ | refine DL.g_notV ?_ | refine DL.g_make ?_ | refine DL.g_meth ?_ | refine DL.g_listint ?_ | refine DL.g_fldS ?_ | refine DL.g_gsub ?_ | refine DL.g_zK ?_ | refine DL.g_try ?_ | refine DL.g_prop ?_ | refine DL.g_propS ?_ | refine DL.g_star ?_ | refine DL.g_xf ?_ | refine DL.g_makeK ?_ | refine DL.g_ival ?_ | refine DL.g_ien ?_ | refine DL.g_irg2 ?_ | refine DL.g_itxt ?_) | (refine DL.g_var (by first | assumption | rfl) ?_)))
namespace DL
variable [Wd]
open PySem L2 PySem.Spec PyProof.Rows
end DL
namespace DL
variable [Wd]
open PySem L2 PySem.Spec PyProof.Rows
/-! ### _law_due of law k02 -/
section
variable {M : Mem} {K : PySem.W.Frag} {ds : List D} {Qd : D → Mem → Prop} {Ed : XD}
end
end DL
namespace DL
variable [Wd]
open PySem L2 PySem.Spec PyProof.Rows
section
variable {M : Mem} {K : PySem.W.Frag} {ds : List D} {Qd : D → Mem → Prop} {Ed : XD}
end
end DL
namespace DL
variable [Wd]
open PySem L2 PySem.Spec PyProof.Rows
/-! ### tables with tuples as keys -/
structure Lay (α : Type) where
  l : α → List D
  nk : α → NestedKey
  of : ∀ x, toNK 8 (.tup (l x)) = some (nk x)
  inj : ∀ x y, nk x = nk y → x = y
section
variable {α β : Type} [DecidableEq α]
def getA (t : List (α × β)) (x : α) : Option β := (t.find? fun p => decide (p.1 = x)).map (·.2)
def putA (t : List (α × β)) (x : α) (b : β) : List (α × β) := if (t.any fun p => decide (p.1 = x)) = true then t.map (fun p => if p.1 = x then (p.1, b) else p) else t ++ [(x, b)]
def tabD (L : Lay α) (v : β → D) (t : List (α × β)) : List (D × D) := t.map fun p => (.tup (L.l p.1), v p.2)
theorem Lay.eq (L : Lay α) (x y : α) : decide (toNK 8 (.tup (L.l x)) = some (L.nk y)) = decide (x = y) := by
  rw [L.of]
  by_cases h : x = y
  · rw [h]; simp
  · have : ¬ some (L.nk x) = some (L.nk y) := fun z => h (L.inj _ _ (Option.some.inj z))
    simp [h, this]
theorem getA_cons (p : α × β) (t : List (α × β)) (x : α) : getA (p :: t) x = if p.1 = x then some p.2 else getA t x := by
  unfold getA
  rw [List.find?_cons]
  by_cases h : p.1 = x
  · rw [if_pos h, decide_eq_true h]; rfl
  · rw [if_neg h, decide_eq_false h]
theorem look_tab (L : Lay α) (v : β → D) (x : α) : ∀ t : List (α × β), lookT (tabD L v t) (L.nk x) = (getA t x).map v
  | [] => rfl
  | p :: t => by
    rw [getA_cons]
    have ih := look_tab L v x t
    unfold lookT at ih ⊢
    show ((((D.tup (L.l p.1), v p.2) :: tabD L v t)).find? _).map _ = _
    rw [List.find?_cons]
    show ((match decide (toNK 8 (.tup (L.l p.1)) = some (L.nk x)) with
      | true => some (D.tup (L.l p.1), v p.2)
      | false => (tabD L v t).find? _).map _) = _
    rw [L.eq]
    by_cases h : p.1 = x
    · rw [if_pos h, decide_eq_true h]; rfl
    · rw [if_neg h, decide_eq_false h]; exact ih
theorem put_tab (L : Lay α) (v : β → D) (t : List (α × β)) (x : α) (b : β) : putT (tabD L v t) (.tup (L.l x)) (L.nk x) (v b) = tabD L v (putA t x b) := by
  unfold putT putA
  have e : ((tabD L v t).any fun e => decide (toNK 8 e.1 = some (L.nk x))) = t.any fun p => decide (p.1 = x) := by
    unfold tabD
    rw [List.any_map]
    congr 1
    funext p
    exact L.eq _ _
  rw [e]
  split
  · unfold tabD
    rw [List.map_map, List.map_map]
    refine List.map_congr_left fun p _ => ?_
    show (if toNK 8 (.tup (L.l p.1)) = some (L.nk x) then (D.tup (L.l p.1), v b) else (D.tup (L.l p.1), v p.2)) = (D.tup (L.l (if p.1 = x then (p.1, b) else p).1), v (if p.1 = x then (p.1, b) else p).2)
    have h := L.eq p.1 x
    by_cases q : p.1 = x
    · rw [if_pos q, if_pos (by rw [decide_eq_true q] at h; exact of_decide_eq_true h)]
    · rw [if_neg q, if_neg (by rw [decide_eq_false q] at h; exact of_decide_eq_false h)]
  · unfold tabD
    rw [List.map_append]
    rfl
theorem putA_len (t : List (α × β)) (x : α) (b : β) : (putA t x b).length ≤ t.length + 1 := by
  unfold putA
  split
  · rw [List.length_map]; omega
  · rw [List.length_append]; simp
theorem putA_keys (t : List (α × β)) (x : α) (b : β) : (putA t x b).map (·.1) = if x ∈ t.map (·.1) then t.map (·.1) else t.map (·.1) ++ [x] := by
  have e : (t.any fun p => decide (p.1 = x)) = true ↔ x ∈ t.map (·.1) := by
    rw [List.any_eq_true, List.mem_map]
    exact ⟨fun ⟨p, hp, h⟩ => ⟨p, hp, of_decide_eq_true h⟩, fun ⟨p, hp, h⟩ => ⟨p, hp, decide_eq_true h⟩⟩
  unfold putA
  by_cases h : x ∈ t.map (·.1)
  · rw [if_pos (e.mpr h), if_pos h, List.map_map]
    refine List.map_congr_left fun p _ => ?_
    show (if p.1 = x then (p.1, b) else p).1 = p.1
    split <;> rfl
  · rw [if_neg (fun z => h (e.mp z)), if_neg h, List.map_append]
    rfl
theorem putA_nd {t : List (α × β)} {x : α} {b : β} (h : (t.map (·.1)).Nodup) : ((putA t x b).map (·.1)).Nodup := by
  rw [putA_keys]
  split
  · exact h
  next q =>
    refine List.nodup_append.mpr ⟨h, by simp, fun a ha c hc e => ?_⟩
    rw [List.mem_singleton.mp hc] at e
    exact q (e ▸ ha)
theorem getA_mem {t : List (α × β)} (h : (t.map (·.1)).Nodup) {x : α} {b : β} : getA t x = some b ↔ (x, b) ∈ t := by
  induction t with
  | nil => simp [getA]
  | cons p t ih =>
    rw [List.map_cons, List.nodup_cons] at h
    rw [getA_cons, List.mem_cons]
    by_cases q : p.1 = x
    · rw [if_pos q]
      refine ⟨fun z => .inl (by rw [← q, ← Option.some.inj z]), fun z => ?_⟩
      rcases z with z | z
      · rw [← z]
      · exact absurd (List.mem_map.mpr ⟨_, z, q.symm⟩) h.1
    · rw [if_neg q, ih h.2]
      exact ⟨.inr, fun z => z.elim (fun z => absurd (by rw [← z]) q) id⟩
/-- many at once -/
def putAs (t : List (α × β)) (xs : List (α × β)) : List (α × β) := xs.foldl (fun a p => putA a p.1 p.2) t
theorem putAs_len (xs : List (α × β)) : ∀ t : List (α × β), (putAs t xs).length ≤ t.length + xs.length := by
  induction xs with
  | nil => intro t; exact Nat.le_refl _
  | cons p xs ih =>
    intro t
    have := putA_len t p.1 p.2
    have := ih (putA t p.1 p.2)
    show (putAs (putA t p.1 p.2) xs).length ≤ _
    rw [List.length_cons]
    omega
theorem putAs_nd (xs : List (α × β)) : ∀ {t : List (α × β)}, (t.map (·.1)).Nodup → ((putAs t xs).map (·.1)).Nodup := by
  induction xs with
  | nil => exact fun h => h
  | cons p xs ih => exact fun h => ih (putA_nd h)
theorem putT_foldl {γ : Type} (L : Lay α) (v : β → D) (k : γ → α) (f : γ → β) : ∀ (xs : List γ) (t : List (α × β)), xs.foldl (fun a x => putT a (.tup (L.l (k x))) (L.nk (k x)) (v (f x))) (tabD L v t) = tabD L v (putAs t (xs.map fun x => (k x, f x)))
  | [], _ => rfl
  | x :: xs, t => by
    rw [List.foldl_cons, put_tab, putT_foldl L v k f xs]
    rfl
/-- {k: v for a, b, .. in xs if t} -/
theorem dn_ifT {M : Mem} {α : Type} {is : List Nat} {ρ : Rho} {st : Mem → Prop} {dk dv : DE} {dt : DT} (g : α → D) (t : α → List D) (ys : α → List D) (k : α → NestedKey) (f : α → D) (p : α → Bool) {Q : List (D × D) → Mem → Prop} (hst : st M) : ∀ {xs : List α} {acc : List (D × D)}, (∀ x ∈ xs, g x = .tup (t x) ∧ (t x).length = is.length ∧ (∀ P : Bool → Mem → Prop, P (p x) M → dt (putAll ρ is (t x)) M P noE) ∧ (p x = true → toNK 8 (.tup (ys x)) = some (k x) ∧ (∀ P1 : D → Mem → Prop, P1 (.tup (ys x)) M → dk (putAll ρ is (t x)) M P1 noE) ∧ ∀ P1 : D → Mem → Prop, P1 (f x) M → dv (putAll ρ is (t x)) M P1 noE)) →
    Q ((xs.filter p).foldl (fun a x => putT a (.tup (ys x)) (k x) (f x)) acc) M → goN (.tp is) dt dk dv st ρ Q (xs.map g) acc M
  | [], acc, _, hQ => ⟨hst, hQ⟩
  | x :: xs, acc, h, hQ => by
    obtain ⟨h1, h2, h3, h4⟩ := h x List.mem_cons_self
    refine ⟨hst, t x, h1, h2, h3 _ ?_⟩
    cases e : p x with
    | true =>
      obtain ⟨a1, a2, a3⟩ := h4 e
      rw [List.filter_cons, if_pos e] at hQ
      rw [if_pos rfl]
      exact a2 _ ⟨ys x, k x, rfl, a1, a3 _ (dn_ifT g t ys k f p hst (fun y hy => h y (List.mem_cons_of_mem _ hy)) hQ)⟩
    | false =>
      rw [List.filter_cons, if_neg (by rw [e]; exact Bool.false_ne_true)] at hQ
      rw [if_neg Bool.false_ne_true]
      exact dn_ifT g t ys k f p hst (fun y hy => h y (List.mem_cons_of_mem _ hy)) hQ
end
section
variable {α β : Type} [DecidableEq α] {M : Mem}
theorem ix_tab2 {d : D} {L : Lay α} {v : β → D} {t : List (α × β)} {x : α} {b : β} {Q : D → Mem → Prop} (hd : IsDit M d (tabD L v t)) (hx : getA t x = some b) (h : Q (v b) M) : IxQ M Q d (.tup (L.l x)) := .dit hd (L.of x) (by rw [look_tab, hx]; rfl) h
end
/-! ### what a statement touches -/
abbrev Spot := Nat × Str
abbrev Tch := List (Spot × Bool)
def spL : Lay Spot where
  l x := [.int (x.1 : Nat), .str x.2]
  nk x := .tup [.num (x.1 : Nat), .text x.2]
  of _ := rfl
  inj x y h := by
    obtain ⟨a, b⟩ := x
    obtain ⟨c, d⟩ := y
    injection h with h
    injection h with h1 h2
    injection h2 with h2 _
    injection h1 with h1
    injection h2 with h2
    have : a = c := Int.ofNat.inj h1
    have h2 : b = d := h2
    rw [this, h2]
def tcD (t : Tch) : D := .dit (tabD spL .bl t)
def tchS (p : Nat) (f : Str) (rs : List Spot) : Tch := putA (putAs [] (rs.map fun r => (r, false))) (p, f) true
theorem tchS_nd (p : Nat) (f : Str) (rs : List Spot) : ((tchS p f rs).map (·.1)).Nodup := putA_nd (putAs_nd _ List.nodup_nil)
theorem tchS_len (p : Nat) (f : Str) (rs : List Spot) : (tchS p f rs).length ≤ rs.length + 1 := by
  have h1 := putA_len (putAs [] (rs.map fun r => (r, false))) (p, f) true
  have h2 := putAs_len (rs.map fun r => (r, false)) []
  rw [List.length_map] at h2
  unfold tchS
  simp at h2
  omega
section
variable {M : Mem} {K : PySem.W.Frag} {ds : List D} {Qd : D → Mem → Prop} {Ed : XD}
def spTouched : SpD := fun ds M Q _ => ∃ (p : Nat) (f : Str) (rs : List Spot), ds = [stD (.set p f rs)] ∧ rs.length ≤ 1000 ∧ Q (tcD (tchS p f rs)) M
/-- an event's name: place, kind, turn, index -/
abbrev EId := Nat × Str × Nat × Nat
def eidD (x : EId) : D := .tup [.int (x.1 : Nat), .str x.2.1, .int (x.2.2.1 : Nat), .int (x.2.2.2 : Nat)]
end
end DL
namespace DL
variable [Wd]
open PySem L2 PySem.Spec PyProof.Rows
/-! ### the events of a batch's steps -/
section
variable {M : Mem} {K : PySem.W.Frag} {ds : List D} {Qd : D → Mem → Prop} {Ed : XD}
theorem enum_map {α : Type} (f : α → D) (xs : List α) : (enumL 0 (xs.map f)).map prD = (enumN 0 xs).map fun q : Nat × α => D.tup [.int (q.1 : Nat), f q.2] := by
  have : ∀ (n : Nat) (ys : List α), (enumL (n : Int) (ys.map f)).map prD = (enumN n ys).map fun q : Nat × α => D.tup [.int (q.1 : Nat), f q.2] := by
    intro n ys
    induction ys generalizing n with
    | nil => rfl
    | cons y ys ih =>
      have := ih (n + 1)
      show D.tup [.int (n : Int), f y] :: (enumL ((n : Int) + 1) (ys.map f)).map prD = _
      rw [show (n : Int) + 1 = ((n + 1 : Nat) : Int) by omega, this]
      rfl
  exact this 0 xs
theorem Pm.more {M M' : Mem} {cP cG : Addr} {pr g : D} {fs : List Str} {rs : List Kd} {root : Option Str} {S : Tab} {ws : Ws} {k : Addr} {ig : List Str} (h : Pm M pr cP cG g fs rs root S ws k ig) (f : Fr [] M M') : Pm M' pr cP cG g fs rs root S ws k ig := h.mono f (by simp) (by simp)
abbrev Evt := EId × Tch
def evD (e : Evt) : D := .tup [eidD e.1, tcD e.2]
def ownT (c : Nat) (t : Tch) : Tch := putAs [] ((t.filter fun p => decide (p.1.1 = 0)).map fun p => ((c, p.1.2), p.2))
def kidOf (c : Nat) (k : Str) (turn : Nat) (q : Nat × Stm) : Option Evt := match q.2 with
  | .set p f rs => some ((c, k, turn, q.1), ownT c (tchS p f rs))
  | .call _ _ => none
def kidEv (ws : Ws) (c : Nat) (w : Str) (turn : Nat) (k : Str) : List Evt := (enumN 0 (bodyAt ws w k)).filterMap (kidOf c k turn)
def kidsAt (rs : List Kd) (r : Kd) (c : Nat) : List Str := (kindsOf rs (r.ch.getD (c - 1) "")).map (·.n)
def kidEvs (ws : Ws) (ks : List Str) (c : Nat) (w : Str) (turn : Nat) : List Evt := ks.flatMap (kidEv ws c w turn)
theorem nodup_map_inj {α β : Type} {f : α → β} : ∀ {xs : List α}, (xs.map f).Nodup → ∀ {a b : α}, a ∈ xs → b ∈ xs → f a = f b → a = b
  | x :: xs, h, a, b, ha, hb, e => by
    rw [List.map_cons, List.nodup_cons] at h
    rcases List.mem_cons.mp ha with ea | ha'
    · rcases List.mem_cons.mp hb with eb | hb'
      · rw [ea, eb]
      · exact absurd (List.mem_map.mpr ⟨b, hb', by rw [← e, ea]⟩) h.1
    · rcases List.mem_cons.mp hb with eb | hb'
      · exact absurd (List.mem_map.mpr ⟨a, ha', by rw [e, eb]⟩) h.1
      · exact nodup_map_inj h.2 ha' hb' e
theorem filterMap_len {α β : Type} (f : α → Option β) : ∀ xs : List α, (xs.filterMap f).length ≤ xs.length := fun xs => List.length_filterMap_le f xs
theorem kidEv_len {fs : List Str} {rs : List Kd} {ws : Ws} (W : WsV fs rs ws) (c : Nat) (w : Str) (turn : Nat) (k : Str) : (kidEv ws c w turn k).length ≤ 6 := by
  unfold kidEv
  refine Nat.le_trans (filterMap_len _ _) ?_
  rw [enumN_len]
  exact (bodyAt_ok W w k).1
def dChildEv (K : PySem.W.Frag) (cP cG : Addr) (sdC sdK sdB sdT : SpD) : DS := sSeq (sAsg (dOp rIx (dZK K (dMeth cG "children_of" sdC (dFld K (dVar 0) "grammar") (dCons (dVar 1) (dNil)))) (dOp rSub (dVar 2) (dC (.int 1)))) (gNm 5)) (sSeq (sAsg (dLst (dNil)) (gNm 6)) (sSeq (sFor (iAny (dZK K (dMeth cG "kinds_of" sdK (dFld K (dVar 0) "grammar") (dCons (dVar 5) (dNil))))) (gNm 7) (sFor (iEn 0 (dZK K (dMeth cP "body" sdB (dVar 0) (dCons (dVar 3) (dCons (dVar 7) (dNil)))))) (gTp 2 (gsCons (gNm 8) (gsCons (gNm 9) (gsNil)))) (sIf (dB (dOp rEq (dOp rIx (dVar 9) (dC (.int 0))) (dC (.str ("set" : Str))))) (sSeq (sAsg (dZK K (dCall sdT (dCons (dVar 9) (dNil)))) (gNm 10)) (sSeq (sAsg (dDn (iAny (dVar 10)) (.tp [12, 13]) (dB (dOp rEq (dVar 12) (dC (.int 0)))) (dTup (dCons (dVar 2) (dCons (dVar 13) (dNil)))) (dOp rIx (dVar 10) (dTup (dCons (dVar 12) (dCons (dVar 13) (dNil))))) [12, 13]) (gNm 11)) (sDrop (dBM "list" rApp (dVar 6) (dCons (dTup (dCons (dTup (dCons (dVar 2) (dCons (dVar 7) (dCons (dVar 4) (dCons (dVar 8) (dNil)))))) (dCons (dVar 11) (dNil)))) (dNil)))))) (sNext)))) (sRet (dZK K (dVar 6)))))
def spChildEv (cP cG : Addr) : SpD := fun ds M Q _ => ∃ pr g fs rs root S ws bk ig r, ∃ (c : Nat) (w : Str) (turn : Nat), ds = [pr, .str r.n, .int (c : Nat), .str w, .int (turn : Nat)] ∧ Pm M pr cP cG g fs rs root S ws bk ig ∧ r ∈ rs ∧ 1 ≤ c ∧ c ≤ r.ch.length ∧ (∀ f ∈ r.ch, f ∈ famsOf rs) ∧ w ∈ namesW ws ∧ Nd M ∧ Q (.lst ((kidEvs ws (kidsAt rs r c) c w turn).map evD)) M
theorem pureChildEv {cP cG cU : Addr} {y0 y1 y2 y3 y4 y5 y6 y7 y8 y9 y10 y11 y12 y13 : Str} (T2 : PgOk K cP) (h : spChildEv cP cG ds M Qd Ed) : dChildEv K cP cG (spKindQ cG cU vCh) (spKindsOf cG cU) (spBodyOf cP cG cU) spTouched (fun _ M' => Qd .non M') Qd (fun _ _ => False) (fun _ _ => False) (fun C dd _ M' => Ed C dd M') (start0 [y0, y1, y2, y3, y4, y5, y6, y7, y8, y9, y10, y11, y12, y13] ds) M := by
  obtain ⟨pr, g, fs, rs, root, S, ws, bk, ig, r, c, w, turn, rfl, H, hr, hc1, hc2, hch, hw, nd, kQ⟩ := h
  have G := H.G M
  unfold dChildEv
  walk_at "dl"
  refine ⟨_, _, _, H.at_, T2.f1, hg1, ?_⟩
  refine ⟨_, G.at_, no_meth (by decide +kernel), ?_⟩
  walk_at "dl"
  refine ⟨g, fs, rs, root, S, r.n, rfl, G, nd, fun z => absurd (List.mem_map.mpr ⟨r, hr, rfl⟩) z, fun r' hr' e d hd => ?_⟩
  have er : r' = r := by
    have := G.nd
    exact nodup_map_inj this hr' hr e
  subst er hd
  refine ⟨_, _, .refl, ?_⟩
  walk_at "dl"
  have hlt : c - 1 < r'.ch.length := by omega
  refine .seq (.tup _) (atI_nat' (j := c - 1) (x := .str r'.ch[c - 1]) (by omega) (by rw [List.getElem?_map]; simp [hlt])) ?_
  have efam : r'.ch.getD (c - 1) "" = r'.ch[c - 1] := by simp [List.getD, hlt]
  have hfam := hch _ (List.getElem_mem hlt)
  walk_at "dl"
  refine ⟨Nat.zero_le _, .inr fun q hq => ?_⟩
  have H1 := H.more (M' := (q, MO.lst []) :: M) Fr.refl.cons
  have nd1 := nd_new (m := .lst []) hq nd
  walk_at "dl"
  refine ⟨_, _, _, H1.at_, T2.f1, hg1, ?_⟩
  refine ⟨_, (H1.G _).at_, no_meth (by decide +kernel), ?_⟩
  walk_at "dl"
  refine ⟨g, fs, rs, root, S, _, rfl, H1.G _, nd1, fun z => absurd hfam z, fun _ => ?_⟩
  refine ⟨_, _, .refl, ?_⟩
  rw [show ((kindsOf rs r'.ch[c - 1]).map fun r => D.str r.n) = (kidsAt rs r' c).map .str by unfold kidsAt; rw [efam, List.map_map]; rfl]
  have hks : ∀ k ∈ kidsAt rs r' c, k ∈ namesOf rs := fun k hk => by
    obtain ⟨x, hx, rfl⟩ := List.mem_map.mp hk
    exact List.mem_map.mpr ⟨x, (List.mem_filter.mp hx).1, rfl⟩
  have hkl : (kidsAt rs r' c).length ≤ 8 := by
    unfold kidsAt
    rw [List.length_map]
    exact Nat.le_trans (List.length_filter_le _ _) G.l8
  generalize hks0 : kidsAt rs r' c = ks at hks hkl kQ
  refine ⟨_, _, .tup _, ?_⟩
  let P : Nat → Rho → Mem → Prop := fun i ρ M' => (∃ x7 x8 x9 x10 x11, ρ = [some pr, some (.str r'.n), some (.int (c : Nat)), some (.str w), some (.int (turn : Nat)), some (.str r'.ch[c - 1]), some (.ptr q), x7, x8, x9, x10, x11, none, none]) ∧ M' = (q, .lst (((ks.take i).flatMap (kidEv ws c w turn)).map evD)) :: M
  refine goF_inv P (fun _ _ _ _ => trivial) (fun i d ρ M5 hd hP go hgo => ?_) (fun ρ M5 hP => ?_) ⟨⟨_, _, _, _, _, rfl⟩, rfl⟩
  · obtain ⟨⟨x7, x8, x9, x10, x11, rfl⟩, rfl⟩ := hP
    rw [List.getElem?_map] at hd
    cases ei : ks[i]? with
    | none => rw [ei] at hd; cases hd
    | some k =>
    rw [ei] at hd
    cases hd
    have hi := (List.getElem?_eq_some_iff.mp ei).1
    have hk := hks k (List.mem_of_getElem? ei)
    have et : (ks.take (i + 1)).flatMap (kidEv ws c w turn) = (ks.take i).flatMap (kidEv ws c w turn) ++ kidEv ws c w turn k := by
      rw [List.take_succ, ei, List.flatMap_append]
      simp
    have pl : ((ks.take i).flatMap (kidEv ws c w turn)).length ≤ 48 := by
      have := flat_len (n := 6) (kidEv ws c w turn) (xs := ks.take i) fun k _ => kidEv_len H.W c w turn k
      rw [List.length_take] at this
      omega
    generalize (ks.take i).flatMap (kidEv ws c w turn) = pre at et pl
    walk_at "dl"
    have H2 := H.more (M' := (q, MO.lst (pre.map evD)) :: M) Fr.refl.cons
    have nd2 := nd_new (m := .lst (pre.map evD)) hq nd
    refine ⟨_, H2.at_, no_methP (by decide +kernel), ?_⟩
    walk_at "dl"
    refine ⟨pr, g, fs, rs, root, S, ws, bk, ig, w, k, rfl, H2, nd2, fun z => absurd hw z, fun _ z => absurd hk z, fun _ _ => ?_⟩
    refine ⟨_, _, .refl, _, _, .tup _, ?_⟩
    obtain ⟨bl, bo⟩ := bodyAt_ok H.W w k
    rw [show ((bodyOf ws w k).getD []) = bodyAt ws w k from rfl, enum_map]
    let P2 : Nat → Rho → Mem → Prop := fun j ρ M' => (∃ x8 x9 x10 x11, ρ = [some pr, some (.str r'.n), some (.int (c : Nat)), some (.str w), some (.int (turn : Nat)), some (.str r'.ch[c - 1]), some (.ptr q), some (.str k), x8, x9, x10, x11, none, none]) ∧ M' = (q, .lst ((pre ++ ((enumN 0 (bodyAt ws w k)).take j).filterMap (kidOf c k turn)).map evD)) :: M
    refine goF_inv P2 (fun _ _ _ _ => trivial) (fun j d ρ M6 hd hP go2 hgo2 => ?_) (fun ρ M6 hP => ?_) ⟨⟨_, _, _, _, rfl⟩, by simp⟩
    · obtain ⟨⟨x8, x9, x10, x11, rfl⟩, rfl⟩ := hP
      rw [List.getElem?_map] at hd
      cases ej : (enumN 0 (bodyAt ws w k))[j]? with
      | none => rw [ej] at hd; cases hd
      | some y =>
      rw [ej] at hd
      cases hd
      have hj := (List.getElem?_eq_some_iff.mp ej).1
      rw [enumN_len] at hj
      have ej2 : ((enumN 0 (bodyAt ws w k)).take (j + 1)).filterMap (kidOf c k turn) = ((enumN 0 (bodyAt ws w k)).take j).filterMap (kidOf c k turn) ++ (kidOf c k turn y).toList := by
        rw [List.take_succ, ej, List.filterMap_append]
        cases h : kidOf c k turn y <;> simp [h]
      have p2l : (((enumN 0 (bodyAt ws w k)).take j).filterMap (kidOf c k turn)).length ≤ 6 := by
        refine Nat.le_trans (filterMap_len _ _) ?_
        rw [List.length_take]
        omega
      obtain ⟨rr, _, _, so⟩ := bo y.2 (enumN_mem (List.mem_of_getElem? ej))
      generalize ((enumN 0 (bodyAt ws w k)).take j).filterMap (kidOf c k turn) = mid at ej2 p2l
      obtain ⟨yi, s⟩ := y
      walk_at "dl"
      refine ⟨_, rfl, rfl, _, _, rfl, _, _, rfl, rfl, ?_⟩
      walk_at "dl"
      cases s with
      | call c' w' =>
        refine ixt0 ?_
        walk_at "dl"
        refine g_iff' (by decide +kernel) ?_
        walk_at "dl"
        exact hgo2 _ _ ⟨⟨_, _, _, _, rfl⟩, by rw [ej2]; simp [kidOf]⟩
      | set p f rs' =>
        refine ixt0 ?_
        walk_at "dl"
        refine g_ift (by decide +kernel) ?_
        walk_at "dl"
        have h4 : rs'.length ≤ 4 := so.2.2.1
        refine ⟨p, f, rs', rfl, by omega, _, _, .refl, ?_⟩
        have tn := tchS_nd p f rs'
        have tl := tchS_len p f rs'
        refine g_dn ?_
        walk_at "dl"
        refine ⟨_, _, .dit _, ?_⟩
        rw [show (tabD spL D.bl (tchS p f rs')).map (·.1) = (tchS p f rs').map (fun p => rdD p.1) by unfold tabD; rw [List.map_map]; rfl]
        refine ⟨lt_line (by rw [List.length_map]; omega), dn_ifT (fun p : Spot × Bool => rdD p.1) (fun p => spL.l p.1) (fun p => spL.l ((c, p.1.2) : Spot)) (fun p => spL.nk ((c, p.1.2) : Spot)) (fun p => .bl p.2) (fun p => decide (p.1.1 = 0)) trivial (fun x hx => ⟨rfl, rfl, fun P h => ?_, fun _ => ⟨spL.of _, fun P1 h1 => ?_, fun P1 h1 => ?_⟩⟩) (.inl ?_)⟩
        · walk_at "dl"
          rw [ne_false, show decide (((x.1.1 : Nat) : Int) = 0) = decide (x.1.1 = 0) by by_cases z : x.1.1 = 0 <;> simp [z]]
          exact h
        · walk_at "dl"
          exact ⟨len_le_line (n := 2), h1⟩
        · walk_at "dl"
          refine ⟨len_le_line (n := 2), ?_⟩
          refine ix_tab2 (L := spL) (x := x.1) (.dit _) ((getA_mem tn).mpr hx) h1
        rw [show (((tchS p f rs').filter fun p => decide (p.1.1 = 0)).foldl (fun a x => putT a (.tup (spL.l ((c, x.1.2) : Spot))) (spL.nk ((c, x.1.2) : Spot)) (D.bl x.2)) []) = tabD spL .bl (ownT c (tchS p f rs')) from putT_foldl spL .bl (fun x : Spot × Bool => ((c, x.1.2) : Spot)) (fun x => x.2) _ []]
        walk_at "dl"
        refine ⟨.lst (.ptr List.mem_cons_self), ?_⟩
        walk_at "dl"
        refine ⟨len_le_line (n := 4), ?_⟩
        walk_at "dl"
        refine ⟨len_le_line (n := 2), ?_⟩
        walk_at "dl"
        refine .ptr .head (lt_line (by rw [List.length_map, List.length_append]; omega)) ?_
        walk_at "dl"
        refine hgo2 _ _ ⟨⟨_, _, _, _, rfl⟩, ?_⟩
        rw [ej2]
        simp [kidOf, evD, tcD, eidD]
    · obtain ⟨⟨x8, x9, x10, x11, rfl⟩, rfl⟩ := hP
      refine hgo _ _ ⟨⟨_, _, _, _, _, rfl⟩, ?_⟩
      rw [et, List.length_map, List.take_length]
      rfl
  · obtain ⟨⟨x7, x8, x9, x10, x11, rfl⟩, rfl⟩ := hP
    rw [List.length_map, List.take_length]
    walk_at "dl"
    exact ⟨_, _, .one .head rfl, kQ⟩
end
end DL
namespace DL
variable [Wd]
open PySem L2 PySem.Spec PyProof.Rows
section
variable {M : Mem} {K : PySem.W.Frag} {ds : List D} {Qd : D → Mem → Prop} {Ed : XD}
end
end DL
namespace DL
variable [Wd]
open PySem L2 PySem.Spec PyProof.Rows
/-! ### the ignored fields of a program -/
section
variable {M : Mem} {K : PySem.W.Frag} {ds : List D} {Qd : D → Mem → Prop} {Ed : XD}
theorem enumN_at {α : Type} : ∀ {xs : List α} {k i : Nat}, (enumN k xs)[i]? = (xs[i]?).map fun x => (k + i, x)
  | [], _, _ => rfl
  | x :: xs, k, 0 => rfl
  | x :: xs, k, i + 1 => by
    show (enumN (k + 1) xs)[i]? = (xs[i]?).map _
    rw [enumN_at]
    congr 1
    funext y
    rw [show k + 1 + i = k + (i + 1) by omega]
end
end DL
namespace DL
variable [Wd]
open PySem L2 PySem.Spec PyProof.Rows
/-! ### the law's own run of a batch on a node and its children -/
section
variable {M : Mem} {K : PySem.W.Frag} {ds : List D} {Qd : D → Mem → Prop} {Ed : XD}
end
end DL
namespace DL
variable [Wd]
open PySem L2 PySem.Spec PyProof.Rows
section
variable {M : Mem} {K : PySem.W.Frag} {ds : List D} {Qd : D → Mem → Prop} {Ed : XD}
end
end DL
namespace DL
variable [Wd]
open PySem L2 PySem.Spec PyProof.Rows
section
variable {M : Mem} {K : PySem.W.Frag} {ds : List D} {Qd : D → Mem → Prop} {Ed : XD}
end
end DL
namespace DL
variable [Wd]
open PySem L2 PySem.Spec PyProof.Rows
section
variable {M : Mem} {K : PySem.W.Frag} {ds : List D} {Qd : D → Mem → Prop} {Ed : XD}
end
end DL
namespace DL
variable [Wd]
open PySem L2 PySem.Spec PyProof.Rows
/-! ### which comes before which -/
section
variable {α β : Type}
end
end DL
namespace DL
variable [Wd]
open PySem L2 PySem.Spec PyProof.Rows
section
variable {M : Mem} {K : PySem.W.Frag} {ds : List D} {Qd : D → Mem → Prop} {Ed : XD}
end
end DL
namespace DL
variable [Wd]
open PySem L2 PySem.Spec PyProof.Rows
/-! ### a dict comprehension that a name gets -/
section
variable {X : Cx}
end
section
variable {X : Cx} {g : G} {W : WX} {pos : Pos} {dt : DT} {dk dv : DE}
end
end DL
namespace DL
variable [Wd]
open PySem L2 PySem.Spec PyProof.Rows
section
variable {X : Cx} {g : G} {W : WX} {pos p : Pos} {a e : Expr} {de dh : DE}
end
end DL
local macro_rules | `(tactic| walk_at "dl") => `(tactic| repeat (first | (with_reducible first | refine DL.g_seq ?_ | refine DL.g_asg ?_ | refine DL.g_sif ?_ | refine DL.g_ret ?_ | refine DL.g_retN ?_ | refine DL.g_drop ?_ | refine DL.g_next ?_ | refine DL.g_cont ?_ | refine DL.g_brk ?_ | refine DL.g_sfor ?_ | refine DL.g_op ?_ | refine DL.g_c ?_ | refine DL.g_nil ?_ | refine DL.g_cons ?_ | refine DL.g_cb ?_ | refine DL.g_call ?_ | refine DL.g_tup ?_ | refine DL.g_lst ?_ | refine DL.g_B ?_ | refine DL.g_not ?_ | refine DL.g_and ?_ | refine DL.g_or ?_ | refine DL.g_if ?_ | refine DL.g_bl ?_ | refine DL.g_in ?_ | refine DL.g_nm ?_ | refine DL.g_fld ?_ | refine DL.IntB.int ?_ | refine DL.AddR.int ?_ | refine DL.SubR.int ?_ | refine DL.EqR.int ?_ | refine DL.EqR.str ?_ | refine DL.EqR.bl ?_ | refine DL.IntC.int ?_ | refine DL.IsR.non ?_ | refine DL.g_lc ?_ | refine DL.g_lc2 ?_ | refine DL.g_dc ?_ | refine DL.g_iany ?_ | refine DL.g_iitm ?_ | refine DL.g_irg1 ?_ | refine DL.g_sl ?_ | refine DL.g_onone ?_ | refine DL.g_osome ?_ | refine DL.g_con ?_ | refine DL.g_bm ?_ | refine DL.g_andV ?_ | refine DL.g_orV ?_ | refine DL.g_notV ?_ | refine DL.g_make ?_ | refine DL.g_meth ?_ | refine DL.g_listint ?_ | refine DL.g_fldS ?_ | refine DL.g_gsub ?_ | refine DL.g_zK ?_ | refine DL.g_try ?_ | refine DL.g_prop ?_ | refine DL.g_propS ?_ | refine DL.g_star ?_ | refine DL.g_xf ?_ | refine DL.g_makeK ?_ | refine DL.g_ival ?_ | refine DL.g_ien ?_ | refine DL.g_irg2 ?_ | refine DL.g_itxt ?_ | refine DL.g_neg ?_) | (refine DL.g_var (by first | assumption | rfl) ?_)))
namespace DL
variable [Wd]
open PySem L2 PySem.Spec PyProof.Rows
end DL
namespace DL
variable [Wd]
open PySem L2 PySem.Spec PyProof.Rows
end DL
namespace DL
variable [Wd]
open PySem L2 PySem.Spec PyProof.Rows
/-! ### walks, distances, the order of what is ready -/
section
variable {α : Type} {R : α → α → Prop}
end
end DL
namespace DL
variable [Wd]
open PySem L2 PySem.Spec PyProof.Rows
section
variable {M : Mem} {K : PySem.W.Frag} {ds : List D} {Qd : D → Mem → Prop} {Ed : XD}
section
variable {β : Type} {v : β → D} {t : List (Item × β)} {a : Item} {b : β} {d : D} {Q : D → Mem → Prop}
end
end
end DL
namespace DL
variable [Wd]
open PySem L2 PySem.Spec PyProof.Rows
/-! ### the search for a way round, level by level -/
section
variable {α : Type} [DecidableEq α] {R : α → α → Prop} {s : α}
end
end DL
namespace DL
variable [Wd]
open PySem L2 PySem.Spec PyProof.Rows
section
variable {M : Mem} {K : PySem.W.Frag} {ds : List D} {Qd : D → Mem → Prop} {Ed : XD}
end
end DL
namespace DL
variable [Wd]
open PySem L2 PySem.Spec PyProof.Rows
section
variable {M : Mem} {K : PySem.W.Frag} {ds : List D} {Qd : D → Mem → Prop} {Ed : XD}
end
end DL
namespace DL
variable [Wd]
open PySem L2 PySem.Spec PyProof.Rows
section
variable {M : Mem} {K : PySem.W.Frag} {ds : List D} {Qd : D → Mem → Prop} {Ed : XD}
end
end DL
namespace DL
variable [Wd]
open PySem L2 PySem.Spec PyProof.Rows
/-! ### xs.count(x), x of any depth -/
section
variable {X : Cx} {g : G}
end
end DL
namespace DL
variable [Wd]
open PySem L2 PySem.Spec PyProof.Rows
section
variable {M : Mem} {K : PySem.W.Frag} {ds : List D} {Qd : D → Mem → Prop} {Ed : XD}
end
end DL
namespace DL
variable [Wd]
open PySem L2 PySem.Spec PyProof.Rows
section
variable {M : Mem} {K : PySem.W.Frag} {ds : List D} {Qd : D → Mem → Prop} {Ed : XD}
end
end DL
namespace DL
variable [Wd]
open PySem L2 PySem.Spec PyProof.Rows
/-! ### far -/
section
variable {R : Item → Item → Prop} {its : List Item} {ps : List (Item × Item)} {s : Item}
end
end DL
namespace DL
variable [Wd]
open PySem L2 PySem.Spec PyProof.Rows
section
variable {M : Mem} {K : PySem.W.Frag} {ds : List D} {Qd : D → Mem → Prop} {Ed : XD}
end
end DL
namespace DL
variable [Wd]
open PySem L2 PySem.Spec PyProof.Rows
/-! ### the scope of a comprehension that is returned -/
def lcSc : Expr → Scope
  | .ListComp _ _ sc _ => sc
  | _ => { kind := .function, names := [], isGenerator := false, isCoroutine := false }
end DL
namespace DL
variable [Wd]
open PySem L2 PySem.Spec PyProof.Rows
/-! ### chains -/
section
variable {R : Item → Item → Prop}
end
section
variable {M : Mem} {K : PySem.W.Frag} {ds : List D} {Qd : D → Mem → Prop} {Ed : XD}
end
end DL
namespace DL
variable [Wd]
open PySem L2 PySem.Spec PyProof.Rows
section
variable {M : Mem} {K : PySem.W.Frag} {ds : List D} {Qd : D → Mem → Prop} {Ed : XD}
end
end DL
namespace DL
variable [Wd]
open PySem L2 PySem.Spec PyProof.Rows
/-! ### list(x) of a list or a tuple, in an except clause too -/
section
variable {X : Cx} {g : G}
end
end DL
namespace DL
variable [Wd]
open PySem L2 PySem.Spec PyProof.Rows
/-! ### max(xs, default=i) of ints -/
def maxO (i : Int) : List Int → Int
  | [] => i
  | n :: ns => ns.foldl max n
def rMaxDef (K : PySem.W.Frag) : List V → List V → Hp → VK → Prop := fun vs zs H Q => ∃ (a : Addr) (ns : List Int) (i : Int), vs = [V.ref a] ∧ zs = [.int i] ∧ SqL K H a (ns.map V.int) ∧ Q (.int (maxO i ns)) H
theorem ints_reads {h : Heap} : ∀ {us : List Value} {ns : List Int}, IntsAre us ns → ∃ as, ReadsAll h us (ns.map PyData.int) as
  | _, _, .nil => ⟨_, .nil⟩
  | _, _, .cons n t r => by
    obtain ⟨as, h1⟩ := ints_reads r
    exact ⟨_, .cons (.int n t) h1⟩
theorem ints_depth : ∀ ns : List Int, PyData.depthAll (ns.map PyData.int) = 0
  | [] => rfl
  | n :: ns => by
    show max (PyData.int n).depth (PyData.depthAll (ns.map PyData.int)) = 0
    rw [ints_depth ns]
    rfl
theorem ints_alike (ns : List Int) : PySem.W.AlikeAll (ns.map PyData.int) := by
  refine ⟨fun x hx y hy => ?_, fun x hx => ?_⟩
  · obtain ⟨a, _, rfl⟩ := List.mem_map.mp hx
    obtain ⟨b, _, rfl⟩ := List.mem_map.mp hy
    rfl
  · obtain ⟨a, _, rfl⟩ := List.mem_map.mp hx
    exact fun z => nomatch z
section
variable {X : Cx} {g : G}
theorem cr_maxDef (hc : X.calm = true) (hu : X.A.units + 1 < cLine) : CallRK X (.builtin "max") [Str.ofString "default"] (rMaxDef X.K) := by
  intro pins s σ H vs zs us ws Q I r rz h
  obtain ⟨a, ns, i, rfl, rfl, hs, q⟩ := h
  obtain rfl := Vals.ref1 r
  obtain ⟨w1, rfl, e1⟩ := vals1 rz
  obtain ⟨t, rfl⟩ := e1
  obtain ⟨its, rv, hl, _⟩ := I.list hs
  have hi := rv.ints
  obtain ⟨as, hr⟩ := ints_reads (h := s.heap) hi
  refine PySem.W.max_list_default (I.ok.hd hc) hl.isList hr (ints_alike ns) (by rw [ints_depth]; exact hu) (fun e h' tk hk => ?_) fun y ys j v h' tk bs e hv hrd hk => ?_
  · have e : ns = [] := by cases ns with | nil => rfl | cons _ _ => cases e
    subst e
    exact ⟨.int _, H, I.kept hk, ⟨_, rfl⟩, q⟩
  · cases ns with
    | nil => cases e
    | cons n ns =>
      cases e
      rw [PySem.W.maxD_ints] at hrd
      cases hrd
      exact ⟨.int _, H, I.kept hk, ⟨_, rfl⟩, q⟩
inductive MaxDC (i : Int) (M : Mem) (Q : D → Mem → Prop) : List D → Prop
  | lst {d : D} {ns : List Int} {st : Mem → Prop} : IsL M d (ns.map .int) st → Q (.int (maxO i ns)) M → MaxDC i M Q [d]
/-- max(xs, default=i) -/
theorem de_maxD {W : WX} {e : Expr} {dA : DA} {i : Int} {p pos : Pos} {kws : List Keyword} (hK : g.K = X.K) (hc : X.calm = true) (hu : X.A.units + 1 < cLine) (hg : Gl X "max") (hm : X.mg "max" = none) (ha : PA X [e] (liftA g W dA)) (hk : PK X kws (tCons (tC (.int i)) tNil))
    (he : backTo pos (starEach [e] X.env) = (false, eval e X.env) :: backTo pos (starEach [] X.env) := by rfl) (hpl : (backTo pos (starEach [e] X.env)).any (·.1) = false := by rfl)
    (hall : (backToKw pos (keywordEach kws X.env)).all (·.1.isSome) = true := by rfl) (hnone : (backToKw pos (keywordEach kws X.env)).any (·.1.isNone) = false := by rfl) (hks : (backToKw pos (keywordEach kws X.env)).filterMap (·.1) = [Str.ofString "default"] := by rfl) :
    PE X (.Call (.Name "max" p) [e] kws pos) (liftE g W (dCB (fun ds M Q => MaxDC i M Q ds) dA)) := by
  refine PE.imp (pe_callBK (cr_maxDef hc hu) hg hm dboot_max ha hk (by decide) (by decide) he hpl hall hnone hks) fun σ H k ⟨ρ, M, F, Q, E, S, En, q, kQ, kE⟩ => ?_
  refine ⟨ρ, M, F, _, E, S, En, q, fun ds M1 F1 vs H1 q1 s1 S1 r1 => ?_, kE⟩
  cases q1 with
  | lst hs q1 =>
    cases r1 with
    | cons r1 rn =>
      cases rn
      obtain ⟨a, xs, rfl, ha, ra, _⟩ := hs.sq S1 r1
      rw [hK] at ha
      rw [ints_rep ra] at ha
      exact ⟨a, _, i, rfl, rfl, ha, kQ _ M1 F1 _ _ q1 s1 S1 (.int _)⟩
abbrev rMaxD (i : Int) : DC := fun ds M Q => MaxDC i M Q ds
end
end DL
namespace DL
variable [Wd]
open PySem L2 PySem.Spec PyProof.Rows
/-! ### trees: their family, size and depth -/
structure Tre where
  d : D
  f : Str
  s : Nat
  p : Nat
def treeE (k f : Str) (s p : Nat) (ch : List D) : List (Str × D) := [("kind", .str k), ("family", .str f), ("size", .int (s : Nat)), ("depth", .int (p : Nat)), ("_children", .tup ch)]
def TrOk (cT : Addr) (t : Tre) : Prop := ∃ k ch, t.d = .obj cT (treeE k t.f t.s t.p ch)
def szOf (ts : List Tre) : Nat := 1 + (ts.map (·.s)).sum
def dpOf (ts : List Tre) : Nat := 1 + (ts.map (·.p)).foldl max 0
def ErrP (E : XD) (C : Addr) (path : List D) (M : Mem) : Prop := ∀ dx, Free dx M → E C dx ((dx, .xd [("path", .tup path)]) :: M)
/-- __init__ of an error with one field that is made a tuple -/
def spErrT (C : Addr) (f : Str) : SpD := fun ds M Q _ => ∃ q xs, ds = [.ptr q, .tup xs] ∧ (q, MO.raw (exo q C none)) ∈ M ∧ Nd M ∧ ∀ dx M', Free dx M → Upd q (.raw (exo q C none)) (.raw (exo q C (some dx))) M M' → Q .non ((dx, .exd dx [(f, .tup xs)]) :: M')
def dErrT (K : PySem.W.Frag) (f : Str) : DS := sOst K f (dVar 0) (dCB rTuple (dCons (dVar 1) (dNil)))
theorem pureErrT {K : PySem.W.Frag} {C : Addr} {f : Str} {y0 y1 : Str} {ds : List D} {M : Mem} {Qd : D → Mem → Prop} {Ed : XD} (T : OexC K C) (nf : PySem.W.findIn K (.ref C) f = some none) (h : spErrT C f ds M Qd Ed) :
    dErrT K f (fun _ M' => Qd .non M') Qd (fun _ _ => False) (fun _ _ => False) (fun C dd _ M' => Ed C dd M') (start0 [y0, y1] ds) M := by
  obtain ⟨q, xs, rfl, hq, nd, kQ⟩ := h
  refine ⟨_, rfl, tup_of (.tup _) ?_⟩
  refine ⟨.ptr q, rfl, q, C, rfl, T, nf, .inl ⟨hq, fun dx hx => ?_⟩⟩
  obtain ⟨M', U⟩ := upd_ex (n := .raw (exo q C (some dx))) nd hq
  exact ⟨M', U.up, kQ dx M' hx U.up⟩
theorem g_raiseT {C : Addr} {f : Str} {dA : DA} {ρ : Rho} {M : Mem} {nx : NX} {rt : D → Mem → Prop} {bk ct : NX} {ex : Addr → Addr → Rho → Mem → Prop} (h : dA ρ M (fun ds M1 => ∃ xs, ds = [.tup xs] ∧ Nd M1 ∧ ∀ dx, Free dx M1 → ex C dx ρ ((dx, .xd [(f, .tup xs)]) :: M1)) (fun C dd M' => ex C dd ρ M'))
    (mono : ∀ Q Q' : List D → Mem → Prop, (∀ ds M, Q ds M → Q' ds M) → dA ρ M Q (fun C dd M' => ex C dd ρ M') → dA ρ M Q' (fun C dd M' => ex C dd ρ M')) : sRaise C (spErrT C f) dA nx rt bk ct ex ρ M := by
  refine mono _ _ (fun ds M1 ⟨xs, e, nd, k⟩ => ?_) h
  subst e
  refine ⟨by simp, fun q hq => ⟨q, xs, rfl, List.mem_cons_self, nd_new hq nd, fun dx M' hx u => ?_⟩⟩
  cases u with
  | tail u => exact absurd u.old (hq _)
  | head =>
    have hx1 : Free dx M1 := fun m hm => hx m (List.mem_cons_of_mem _ hm)
    exact ⟨rfl, dx, _, _, _, .tail .head, .head, hx1, k dx hx1⟩
theorem max_cast : ∀ (ns : List Nat) (n : Nat), (ns.map fun k : Nat => (k : Int)).foldl max (n : Int) = ((ns.foldl max n : Nat) : Int)
  | [], n => rfl
  | k :: ns, n => by
    rw [List.map_cons, List.foldl_cons, List.foldl_cons, show max (n : Int) (k : Int) = ((max n k : Nat) : Int) by omega]
    exact max_cast ns _
theorem maxO_cast (ns : List Nat) : maxO 0 (ns.map fun k : Nat => (k : Int)) = ((ns.foldl max 0 : Nat) : Int) := by
  cases ns with
  | nil => rfl
  | cons n ns =>
    show (ns.map fun k : Nat => (k : Int)).foldl max (n : Int) = _
    rw [max_cast, List.foldl_cons, Nat.zero_max]
theorem enum_one {α : Type} (f : α → D) (xs : List α) : (enumL 1 (xs.map f)).map prD = (enumN 1 xs).map fun q : Nat × α => D.tup [.int (q.1 : Nat), f q.2] := by
  have : ∀ (n : Nat) (ys : List α), (enumL (n : Int) (ys.map f)).map prD = (enumN n ys).map fun q : Nat × α => D.tup [.int (q.1 : Nat), f q.2] := by
    intro n ys
    induction ys generalizing n with
    | nil => rfl
    | cons y ys ih =>
      show D.tup [.int (n : Int), f y] :: (enumL ((n : Int) + 1) (ys.map f)).map prD = _
      rw [show ((n : Int) + 1) = ((n + 1 : Nat) : Int) by omega, ih]
      rfl
  exact this 1 xs
section
variable {M : Mem} {K : PySem.W.Frag} {ds : List D} {Qd : D → Mem → Prop} {Ed : XD}
structure TreeOk (K : PySem.W.Frag) (cT : Addr) : Prop where
  f1 : FldOk K cT "kind"
  f2 : FldOk K cT "family"
  f3 : FldOk K cT "size"
  f4 : FldOk K cT "depth"
  f5 : FldOk K cT "_children"
  c1 : ConI K cT "MOST_NODES" 1000
  c2 : ConI K cT "MOST_DEPTH" 50
def dTree (K : PySem.W.Frag) (cG cT cB cL : Addr) (sdC sdF sdB sdL : SpD) : DS := sSeq (sAsg (dZK K (dMeth cG "children_of" sdC (dVar 1) (dCons (dVar 2) (dNil)))) (gNm 4)) (sSeq (sIf (dB (dOp rNe (dCB rLen (dCons (dVar 3) (dNil))) (dCB rLen (dCons (dVar 4) (dNil))))) (sRaise cB sdB (dCons (dTup (dNil)) (dNil))) (sNext)) (sSeq (sFor (iEn 1 (dVar 3)) (gTp 2 (gsCons (gNm 5) (gsCons (gNm 6) (gsNil)))) (sIf (dB (dOp rNe (dFld K (dVar 6) "family") (dOp rIx (dVar 4) (dOp rSub (dVar 5) (dC (.int 1)))))) (sRaise cB sdB (dCons (dTup (dCons (dVar 5) (dNil))) (dNil))) (sNext))) (sSeq (sFldD K (dVar 0) (dZK K (dVar 2)) "kind") (sSeq (sFldD K (dVar 0) (dZK K (dMeth cG "family_of" sdF (dVar 1) (dCons (dVar 2) (dNil)))) "family") (sSeq (sFldD K (dVar 0) (dOp rAdd (dC (.int 1)) (dCB rSum (dCons (dLc (iAny (dVar 3)) (.nm 6) (dYes) (dFld K (dVar 6) "size") [6]) (dNil)))) "size") (sSeq (sFldD K (dVar 0) (dOp rAdd (dC (.int 1)) (dCB (rMaxD 0) (dCons (dLc (iAny (dVar 3)) (.nm 6) (dYes) (dCB rInt (dCons (dFld K (dVar 6) "depth") (dNil))) [6]) (dNil)))) "depth") (sSeq (sFldD K (dVar 0) (dCB rTuple (dCons (dVar 3) (dNil))) "_children") (sSeq (sIf (dB (dOp rGt (dFld K (dVar 0) "size") (dCon K (dC (.ptr cT)) "MOST_NODES"))) (sRaise cL sdL (dCons (dC (.str ("nodes" : Str))) (dNil))) (sNext)) (sIf (dB (dOp rGt (dFld K (dVar 0) "depth") (dCon K (dC (.ptr cT)) "MOST_DEPTH"))) (sRaise cL sdL (dCons (dC (.str ("depth" : Str))) (dNil))) (sNext))))))))))
def spTree (cT cG cU cB cL : Addr) : SpD := fun ds M Q E => ∃ q g xs rs root S k, ∃ ts : List Tre, ds = [.ptr q, g, .str k, .tup (ts.map (·.d))] ∧ (q, MO.obj cT []) ∈ M ∧ Nd M ∧ (∀ M', Gm M' g cG xs rs root S) ∧ (∀ t ∈ ts, TrOk cT t) ∧ ts.length ≤ 100 ∧ (k ∉ namesOf rs → Errs E cU "name" k M) ∧ ∀ r ∈ rs, r.n = k →
  (ts.length ≠ r.ch.length → ErrP E cB [] M) ∧
  (ts.length = r.ch.length →
    (∀ (i : Nat) t f, ts[i]? = some t → r.ch[i]? = some f → t.f ≠ f → (∀ (j : Nat) t' f', j < i → ts[j]? = some t' → r.ch[j]? = some f' → t'.f = f') → ErrP E cB [.int ((i : Int) + 1)] M) ∧
    ((∀ (i : Nat) t f, ts[i]? = some t → r.ch[i]? = some f → t.f = f) → ∀ M', Nd M' → Fr [q] M M' → (q, MO.obj cT (treeE k r.f (szOf ts) (dpOf ts) (ts.map (·.d)))) ∈ M' →
      (1000 < szOf ts → Errs E cL "limit" "nodes" M') ∧ (szOf ts ≤ 1000 → 50 < dpOf ts → Errs E cL "limit" "depth" M') ∧ (szOf ts ≤ 1000 → dpOf ts ≤ 50 → Q .non M')))
theorem pureTree {cT cG cU cB cL : Addr} {y0 y1 y2 y3 y4 y5 y6 : Str} (TO : TreeOk K cT) (h : spTree cT cG cU cB cL ds M Qd Ed) : dTree K cG cT cB cL (spKindQ cG cU vCh) (spKindQ cG cU vFam) (spErrT cB "path") (spErr cL "limit") (fun _ M' => Qd .non M') Qd (fun _ _ => False) (fun _ _ => False) (fun C dd _ M' => Ed C dd M') (start0 [y0, y1, y2, y3, y4, y5, y6] ds) M := by
  obtain ⟨q, g, xs, rs, root, S, k, ts, rfl, hq, nd, G, hts, hl, kU, kR⟩ := h
  unfold dTree
  walk_at "dl"
  refine ⟨_, (G _).at_, no_meth (by decide +kernel), ?_⟩
  walk_at "dl"
  refine ⟨g, xs, rs, root, S, k, rfl, G _, nd, kU, fun r hr e d hd => ?_⟩
  subst hd
  subst e
  obtain ⟨k1, k2⟩ := kR r hr rfl
  refine ⟨_, _, .refl, ?_⟩
  walk_at "dl"
  refine isS_len (.tup _) ?_
  walk_at "dl"
  refine isS_len (.tup _) ?_
  rw [List.length_map, List.length_map]
  walk_at "dl"
  by_cases el : ts.length = r.ch.length
  case neg =>
    refine g_ift (by simp; omega) ?_
    refine g_raiseT ?_ fun Q Q' hQ z => ⟨z.1, hQ _ _ z.2⟩
    walk_at "dl"
    refine ⟨Nat.zero_le _, ?_⟩
    walk_at "dl"
    exact ⟨_, rfl, nd, k1 el⟩
  obtain ⟨k3, k4⟩ := k2 el
  refine g_iff' (by simp; omega) ?_
  walk_at "dl"
  refine ⟨_, _, .tup _, ?_⟩
  rw [enum_one]
  let P : Nat → Rho → Mem → Prop := fun n ρ M' => (∃ x5 x6, ρ = [some (.ptr q), some g, some (.str r.n), some (.tup (ts.map (·.d))), some (.tup (r.ch.map .str)), x5, x6]) ∧ M' = M ∧ ∀ (j : Nat) t' f', j < n → ts[j]? = some t' → r.ch[j]? = some f' → t'.f = f'
  refine goF_inv P (fun _ _ _ _ => trivial) (fun i d ρ M5 hd hP go hgo => ?_) (fun ρ M5 hP => ?_) ⟨⟨_, _, rfl⟩, rfl, fun j _ _ h => by omega⟩
  · obtain ⟨⟨x5, x6, rfl⟩, rfl, hs⟩ := hP
    rw [List.getElem?_map, enumN_at] at hd
    cases ei : ts[i]? with
    | none => rw [ei] at hd; cases hd
    | some t =>
    rw [ei] at hd
    cases hd
    have hi := (List.getElem?_eq_some_iff.mp ei).1
    obtain ⟨kk, ch, et⟩ := hts t (List.mem_of_getElem? ei)
    have ef : r.ch[i]? = some r.ch[i] := List.getElem?_eq_getElem (by omega)
    generalize r.ch[i] = f at ef
    show gTp 2 (gsCons (gNm 5) (gsCons (gNm 6) gsNil)) (.tup [.int ((1 + i : Nat) : Int), t.d]) _ _ _
    refine ⟨_, rfl, rfl, _, _, rfl, _, _, rfl, rfl, ?_⟩
    walk_at "dl"
    refine ⟨_, _, _, by rw [et]; exact .obj _ _, TO.f2, .tail (by decide) .head, ?_⟩
    walk_at "dl"
    refine ixq_tup (atI_nat' (j := i) (by omega) (by rw [List.getElem?_map, ef]; rfl)) ?_
    walk_at "dl"
    by_cases e : t.f = f
    · refine g_iff' (by simp [e]) ?_
      walk_at "dl"
      refine hgo _ _ ⟨⟨_, _, rfl⟩, rfl, fun j t' f' hj h1 h2 => ?_⟩
      by_cases z : j = i
      · subst z
        rw [ei] at h1
        rw [ef] at h2
        cases h1
        cases h2
        exact e
      · exact hs j t' f' (by omega) h1 h2
    · refine g_ift (by simp [e]) ?_
      refine g_raiseT ?_ fun Q Q' hQ ⟨d, e, l, z⟩ => ⟨d, e, l, hQ _ _ z⟩
      walk_at "dl"
      refine ⟨len_le_line (n := 1), ?_⟩
      walk_at "dl"
      have := k3 i t f ei ef e hs
      rw [show ((i : Int) + 1) = ((1 + i : Nat) : Int) by omega] at this
      exact ⟨_, rfl, nd, this⟩
  · obtain ⟨⟨x5, x6, rfl⟩, rfl, hs⟩ := hP
    rw [List.length_map, enumN_len] at hs
    have all : ∀ (i : Nat) t f, ts[i]? = some t → r.ch[i]? = some f → t.f = f := fun i t f h1 h2 => hs i t f (List.getElem?_eq_some_iff.mp h1).1 h1 h2
    have k4 := k4 all
    walk_at "dl"
    refine ⟨_, _, .refl, ?_⟩
    walk_at "dl"
    refine fld_new nd hq TO.f1 .nil (by simp) fun M1 U1 => ?_
    walk_at "dl"
    refine ⟨_, (G _).at_, no_meth (by decide +kernel), ?_⟩
    walk_at "dl"
    refine ⟨g, xs, rs, root, S, r.n, rfl, G _, U1.nd, fun z => absurd (List.mem_map.mpr ⟨r, hr, rfl⟩) z, fun r' hr' e d hd => ?_⟩
    obtain rfl := nodup_map_inj (G M5).nd hr' hr e
    subst hd
    refine ⟨_, _, .refl, ?_⟩
    walk_at "dl"
    refine fld_new U1.nd U1.at_ TO.f2 (by walk_at "nof") (by simp) fun M2 U2 => ?_
    walk_at "dl"
    refine ⟨_, _, .tup _, lt_line (by rw [List.length_map]; omega), lc_map (·.d) (fun t : Tre => .int (t.s : Nat)) trivial (fun t ht P1 h1 => ?_) (.inl ?_)⟩
    · obtain ⟨kk, ch, et⟩ := hts t ht
      walk_at "dl"
      exact ⟨_, _, _, by rw [et]; exact .obj _ _, TO.f3, .tail (by decide) (.tail (by decide) .head), h1⟩
    walk_at "dl"
    refine .lst (ns := ts.map fun t => (t.s : Int)) (st := fun _ => True) (by rw [List.map_map]; exact .lst _) ?_
    walk_at "dl"
    have es : (1 : Int) + (ts.map fun t => (t.s : Int)).sum = ((szOf ts : Nat) : Int) := by
      have : ∀ us : List Tre, (us.map fun t => (t.s : Int)).sum = (((us.map (·.s)).sum : Nat) : Int) := fun us => by
        induction us with
        | nil => rfl
        | cons u us ih => rw [List.map_cons, List.map_cons, List.sum_cons, List.sum_cons, ih]; omega
      rw [this]
      unfold szOf
      omega
    rw [es]
    refine fld_new U2.nd U2.at_ TO.f3 (by walk_at "nof") (by simp) fun M3 U3 => ?_
    walk_at "dl"
    refine ⟨_, _, .tup _, lt_line (by rw [List.length_map]; omega), lc_map (·.d) (fun t : Tre => .int (t.p : Nat)) trivial (fun t ht P1 h1 => ?_) (.inl ?_)⟩
    · obtain ⟨kk, ch, et⟩ := hts t ht
      walk_at "dl"
      refine ⟨_, _, _, by rw [et]; exact .obj _ _, TO.f4, .tail (by decide) (.tail (by decide) (.tail (by decide) .head)), ?_⟩
      walk_at "dl"
      exact h1
    walk_at "dl"
    refine .lst (ns := (ts.map (·.p)).map fun k : Nat => (k : Int)) (st := fun _ => True) (by rw [List.map_map, List.map_map]; exact .lst _) ?_
    rw [maxO_cast]
    walk_at "dl"
    rw [show (1 : Int) + (((ts.map (·.p)).foldl max 0 : Nat) : Int) = ((dpOf ts : Nat) : Int) by unfold dpOf; omega]
    refine fld_new U3.nd U3.at_ TO.f4 (by walk_at "nof") (by simp) fun M4 U4 => ?_
    walk_at "dl"
    refine tup_of (.tup _) ?_
    walk_at "dl"
    refine fld_new U4.nd U4.at_ TO.f5 (by walk_at "nof") (by simp) fun M5 U5 => ?_
    have f5 := (((U1.fr.trans U2.fr).trans U3.fr).trans U4.fr).trans U5.fr
    obtain ⟨j1, j2, j3⟩ := k4 M5 U5.nd f5 U5.at_
    obtain ⟨mc1, u1, c1, d1⟩ := TO.c1
    obtain ⟨mc2, u2, c2, d2⟩ := TO.c2
    walk_at "dl"
    refine ⟨_, _, _, .ptr U5.at_, TO.f3, .tail (by decide) (.tail (by decide) .head), ?_⟩
    walk_at "dl"
    refine ⟨_, mc1, _, u1, rfl, c1, d1, ?_⟩
    walk_at "dl"
    by_cases h1 : 1000 < szOf ts
    · refine g_ift (by simp; omega) ?_
      refine g_raise ?_ fun Q Q' hQ z => hQ _ _ z
      walk_at "dl"
      exact ⟨_, rfl, U5.nd, j1 h1⟩
    refine g_iff' (by simp; omega) ?_
    walk_at "dl"
    refine ⟨_, _, _, .ptr U5.at_, TO.f4, .tail (by decide) (.tail (by decide) (.tail (by decide) .head)), ?_⟩
    walk_at "dl"
    refine ⟨_, mc2, _, u2, rfl, c2, d2, ?_⟩
    walk_at "dl"
    by_cases h2 : 50 < dpOf ts
    · refine g_ift (by simp; omega) ?_
      refine g_raise ?_ fun Q Q' hQ z => hQ _ _ z
      walk_at "dl"
      exact ⟨_, rfl, U5.nd, j2 (by omega) h2⟩
    refine g_iff' (by simp; omega) ?_
    walk_at "dl"
    exact j3 (by omega) (by omega)
end
end DL
namespace DL
variable [Wd]
open PySem L2 PySem.Spec PyProof.Rows
/-! ### what comes of Tree(grammar, kind, *children) -/
def TreeOut (E : XD) (cT cU cB cL : Addr) (rs : List Kd) (k : Str) (ts : List Tre) (M : Mem) (Qt : Tre → Mem → Prop) : Prop :=
  (k ∉ namesOf rs → ∀ M', Nd M' → Fr [] M M' → Errs E cU "name" k M') ∧ ∀ r ∈ rs, r.n = k →
  (ts.length ≠ r.ch.length → ∀ M', Nd M' → Fr [] M M' → ErrP E cB [] M') ∧
  (ts.length = r.ch.length →
    (∀ (i : Nat) t f, ts[i]? = some t → r.ch[i]? = some f → t.f ≠ f → (∀ (j : Nat) t' f', j < i → ts[j]? = some t' → r.ch[j]? = some f' → t'.f = f') → ∀ M', Nd M' → Fr [] M M' → ErrP E cB [.int ((i : Int) + 1)] M') ∧
    ((∀ (i : Nat) t f, ts[i]? = some t → r.ch[i]? = some f → t.f = f) → ∀ M', Nd M' → Fr [] M M' →
      (1000 < szOf ts → Errs E cL "limit" "nodes" M') ∧ (szOf ts ≤ 1000 → 50 < dpOf ts → Errs E cL "limit" "depth" M') ∧
      (szOf ts ≤ 1000 → dpOf ts ≤ 50 → Qt ⟨.obj cT (treeE k r.f (szOf ts) (dpOf ts) (ts.map (·.d))), r.f, szOf ts, dpOf ts⟩ M')))
theorem tre_ok (cT : Addr) (k f : Str) (s p : Nat) (ch : List D) : TrOk cT ⟨.obj cT (treeE k f s p ch), f, s, p⟩ := ⟨k, ch, rfl⟩
/-- the call of __init__ on the new object at x -/
theorem star_tree {E : XD} {cT cG cU cB cL x : Addr} {g : D} {xs : List Str} {rs : List Kd} {root : Option Str} {S : Tab} {k : Str} {ts : List Tre} {M : Mem} {Qt : Tre → Mem → Prop} {Q : D → Mem → Prop} (hx : Free x M) (nd : Nd M) (G : ∀ M', Gm M' g cG xs rs root S) (hts : ∀ t ∈ ts, TrOk cT t) (hl : ts.length ≤ 100) (o : TreeOut E cT cU cB cL rs k ts M Qt)
    (kQ : ∀ t M', TrOk cT t → Qt t M' → ∀ M2, Del x (.obj cT (treeE k t.f t.s t.p (ts.map (·.d)))) M2 M' → t.d = .obj cT (treeE k t.f t.s t.p (ts.map (·.d))) → Q .non M2) :
    SpD.star 3 (spTree cT cG cU cB cL) ([.ptr x, g, .str k] ++ ts.map (·.d)) ((x, .obj cT []) :: M) Q E := by
  have fr : ∀ {M'}, Fr [x] ((x, .obj cT []) :: M) M' → Fr [] M M' := fun f a m _ ha => f a m (not_mem1 (ne_free hx ha)) (List.mem_cons_of_mem _ ha)
  have nd1 : Nd ((x, MO.obj cT []) :: M) := nd_new hx nd
  obtain ⟨o1, o2⟩ := o
  refine ⟨[.ptr x, g, .str k], ts.map (·.d), rfl, rfl, by rw [List.length_map]; exact Nat.le_of_lt (lt_line (by omega)), ?_⟩
  refine ⟨x, g, xs, rs, root, S, k, ts, rfl, List.mem_cons_self, nd1, G, hts, hl, fun z => o1 z _ nd1 Fr.refl.cons, fun r hr e => ?_⟩
  obtain ⟨p1, p2⟩ := o2 r hr e
  refine ⟨fun z => p1 z _ nd1 Fr.refl.cons, fun z => ?_⟩
  obtain ⟨p3, p4⟩ := p2 z
  refine ⟨fun i t f a b c d => p3 i t f a b c d _ nd1 Fr.refl.cons, fun a M' nd' f' hm => ?_⟩
  obtain ⟨j1, j2, _⟩ := p4 a M' nd' (fr f')
  refine ⟨j1, j2, fun h1 h2 => ?_⟩
  obtain ⟨M2, U⟩ := del_ex nd' hm
  have f2 : Fr [] M M2 := fun b m _ hb => U.fr b m (not_mem1 (ne_free hx hb)) (fr f' b m (by simp) hb)
  exact kQ _ M2 (tre_ok _ _ _ _ _ _) ((p4 a M2 U.nd f2).2.2 h1 h2) M' U.up rfl
end DL
namespace DL
variable [Wd]
open PySem L2 PySem.Spec PyProof.Rows
section
variable {M : Mem}
end
def full (g : List Str) : Bool := decide (0 < g.length)
section
variable {M : Mem} {K : PySem.W.Frag} {ds : List D} {Qd : D → Mem → Prop} {Ed : XD}
end
end DL
namespace DL
variable [Wd]
open PySem L2 PySem.Spec PyProof.Rows
theorem bind_star3 {B : List PySem.Value → PySem.Sem (List (PySem.Str × PySem.Value))} {p1 p2 p3 pv : PySem.Str} (h0 : ∀ a b c, B [a, b, c] = (PySem.newTuple [] >>= fun t => pure [(p1, a), (p2, b), (p3, c), (pv, t)])) (h1 : ∀ a b c r rs, B (a :: b :: c :: r :: rs) = (PySem.newTuple (r :: rs) >>= fun t => pure [(p1, a), (p2, b), (p3, c), (pv, t)])) :
    ∀ us rest : List PySem.Value, us.length = [p1, p2, p3].length → B (us ++ rest) = (PySem.newTuple rest >>= fun t => pure ([p1, p2, p3].zip us ++ [(pv, t)]))
  | [a, b, c], [], _ => h0 a b c
  | [a, b, c], r :: rs, _ => h1 a b c r rs
section
variable {M : Mem} {K : PySem.W.Frag} {ds : List D} {Qd : D → Mem → Prop} {Ed : XD}
end
end DL
namespace DL
variable [Wd]
open PySem L2 PySem.Spec PyProof.Rows
section
variable {M : Mem} {K : PySem.W.Frag} {ds : List D} {Qd : D → Mem → Prop} {Ed : XD}
end
end DL
namespace DL
variable [Wd]
open PySem L2 PySem.Spec PyProof.Rows
end DL
namespace DL
variable [Wd]
open PySem L2 PySem.Spec PyProof.Rows
section
variable {X : Cx} {g : G}
end
end DL
namespace DL
variable [Wd]
open PySem L2 PySem.Spec PyProof.Rows
/-! ### iteration over an own object whose __iter__ gives iter of a tuple -/
/-- at it an iterator over the tuple at t, nothing taken yet -/
abbrev tiObj (t : Addr) : Obj := { cls := .type "tuple_iterator", data := .fields #[.ref t, .int 0 0] }
def TiO (t it : Addr) : HO := .ext fun h => h.get? it = some (tiObj t)
theorem tiO_ok {P : Program} {w : World} {H : Hp} {h : Heap} {t it : Addr} (e : h.get? it = some (tiObj t)) : ObjOk P w H h it (TiO t it) := ⟨e, ⟨_, e⟩, fun h1 h2 q k => k _ q⟩
def rIterT (K : PySem.W.Frag) (n : Nat) : List V → Hp → VK → Prop := fun xs H Q => ∃ (t : Addr) (zs : List V), xs = [.ref t] ∧ SqT K H t zs ∧ ∀ it, n ≤ it → H it = none → Q (.ref it) (upd H it (TiO t it))
theorem dboot_iter : bootBuiltins "iter" = some (.builtin "iter") := by decide +kernel
section
variable {X : Cx}
theorem call_iterT : CallR X (.builtin "iter") (rIterT X.K X.s_0.heap.objs.size) := by
  intro pins s σ H xs us Q I r h
  obtain ⟨t, zs, rfl, hq, q⟩ := h
  obtain rfl := Vals.ref1 r
  obtain ⟨its, _, pl, _⟩ := I.tuple hq
  apply Calls.call_function_entry (by decide +kernel) (by decide +kernel) PySem.W.kdk_entry_iter (PySem.W.kdk_args_iter (.ref t))
  unfold Builtin.«iter»
  apply wpAny_bind (m := someArgs "iter" 1 2 _)
  apply wpAny_of_eq (a := [Value.ref t]) (by first | rfl | kernel_rfl!)
  apply wpAny_bind (m := pyIter (.ref t))
  apply wpAny_pyIter_tuple (show s.heap.IsTuple t its.toArray from pl)
  refine wpAny_pure ⟨_, rfl, ?_⟩
  exact ⟨.ref s.heap.objs.size, _, I.laid (t' := s.toks) (fun b u e => Heap.get?_push_of_some _ e) (Nat.le_refl _) (tiO_ok (Heap.get?_push_size _ rfl)), rfl, q _ I.sz (I.hok.fresh (Nat.le_refl _))⟩
/-- the body of __iter__: return iter(self.fld) -/
def tIterB (K : PySem.W.Frag) (n : Nat) (fld : Str) : TS := tRet (tCB (rIterT K n) (tCons (tFld K (tVar 0) fld) tNil))
end
theorem paired_imp {α β : Type} {F G : α → β → Prop} (h : ∀ a b, F a b → G a b) {l : List α} {m : List β} (p : PySem.Paired F l m) : PySem.Paired G l m := by
  induction p with
  | nil => exact .nil
  | cons a _ ih => exact .cons (h _ _ a) ih
/-- what is forgotten of the abstract heap -/
theorem objOk_less {P : Program} {w : World} {H : Hp} {h : Heap} {it a t : Addr} {o : HO} (hn : H it = none) (x : ObjOk P w (upd H it (TiO t it)) h a o) : ObjOk P w H h a o := by
  induction o with
  | dT kvs =>
    obtain ⟨x1, x2, ys, x3, x4⟩ := x
    refine ⟨x1, x2, ys, paired_imp (fun p q ⟨z1, z2, z3⟩ => ⟨z1, ?_, z3⟩) x3, x4⟩
    by_cases e : q.2.1 = it
    · rw [e, upd_same] at z2; cases z2
    · rwa [upd_ne e] at z2
  | ins C dx fs =>
    obtain ⟨x1, x2⟩ := x
    refine ⟨?_, x2⟩
    by_cases e : dx = it
    · rw [e, upd_same] at x1; cases x1
    · rwa [upd_ne e] at x1
  | frz o u ih => exact ⟨x.1, ih x.2⟩
  | lst _ => exact x
  | tup _ => exact x
  | dK _ => exact x
  | set _ _ => exact x
  | own _ => exact x
  | xd _ => exact x
  | met _ _ => exact x
  | rng _ _ => exact x
  | tbl _ => exact x
  | ext _ => exact x
/-- a def __iter__ that has run: an iterator over the tuple is laid, all else stands -/
def IterRan (P : Program) (w : World) (outer : List PySem.Env) (H : Hp) (s : Shared) (t : Addr) (r : Result) (s' : Shared) : Prop :=
  ∃ it, r = .ok (.ret (.ref it)) ∧ s.heap.objs.size ≤ it ∧ H it = none ∧ s'.heap.get? it = some (tiObj t) ∧ s'.os = s.os ∧ AllBare s'.gens ∧ Un (frs outer) [] H H s.heap s'.heap ∧ HOk P w H s'.heap
theorem run_iter {P : Program} {w : World} {K : PySem.W.Frag} {mg : Str → Option Value} {base : Heap} {x qual fld : Str} {st : Stmt} {f : Addr} {fd : FuncData} {k : Nat} (Fu : Fun K x qual st f fd) (S : FnScope ["self"] ["self"] (defScope st))
    (hb : ∀ (cdv : Value) (A : Around) (outer : List PySem.Env) (s : Shared) (H : Hp) (E : XK), PSs (cxOf (L2.CX P w) P w K mg base ["self"] qual (defScope st) f cdv A outer s H E) (defBody st) (tIterB K s.heap.objs.size fld))
    {A : Around} {outer : List PySem.Env} {s : Shared} {H : Hp} {args : Args} {a C dx t : Addr} {fs : List (Str × V)} {zs : List V} (hr : Room (k + 1) A) (e0 : Env0 P w K mg base A outer s H) (bd : BindsTo s fd args ((["self"] : List Str).zip [.ref a]))
    (ha : H a = some (.ins C dx fs)) (cl : Cls K C) (no : NoAttr K C fld) (hl : fs.lookup fld = some (.ref t)) (ht : SqT K H t zs) : codeAny (model P w) A (.call (.ref f) args) (IterRan P w outer H s t) s := by
  obtain ⟨oc, od, kV, doc, pm, an, cdv, ct, osl, rfl, lk, hcd⟩ := Fu.ex
  have kin : K.In s.heap := e0.mod.kin.keeps fun b o e => (e0.bs b o e).1
  have nolim : s.heap.NoLimit := e0.mod.nolimit.keeps fun b o e => (e0.bs b o e).1
  apply codeAny_call_function hr.depth (kin _ _ lk) rfl S.co S.gen rfl (PySem.W.codeRec_of kin hcd)
  apply bd
  apply wpAny_newFunctionEnv_cells S.kind
  · intro y hy
    rcases S.par y.1 (List.of_mem_zip (show (y.1, y.2) ∈ _ from hy)).1 with q | q
    · exact .inl q
    · exact .inr ⟨q, PySem.W.cellsFrom_some _ _ _ (.inl q)⟩
  intro env he s1 y
  subst he
  refine ⟨nolim.keeps y.toInCall.keep, codeAny_func ?_⟩
  have I : Inv (cxOf (L2.CX P w) P w K mg base ["self"] qual (defScope st) f cdv A outer s H fun _ _ _ => False) [] (start ["self"] [.ref a]) H s1 := inv_start S hr.hd e0 rfl (.cons rfl .nil) y
  let Q : VK := fun v H' => ∃ it, v = .ref it ∧ s.heap.objs.size ≤ it ∧ H it = none ∧ H' = upd H it (TiO t it)
  have body := (hb cdv A outer s H fun _ _ _ => False).run [] s1 (start ["self"] [.ref a]) H { nx := fun _ _ => False, rt := Q } I
    ⟨.ref a, rfl, a, C, dx, fs, .ref t, rfl, ha, cl, no, hl, t, zs, rfl, ht, fun it h1 h2 => ⟨it, rfl, h1, h2, rfl⟩⟩
  refine wpAny_mono body (fun fl s' hs => ?_) fun e s' hs => ?_
  · cases fl with
    | ret u =>
      obtain ⟨v, σ', H', J, rv, it, rfl, h1, h2, rfl⟩ := hs
      obtain rfl : u = Value.ref it := rv
      have ok := J.hok
      have at_ : s'.heap.get? it = some (tiObj t) := (ok it _ upd_same).1
      refine ⟨it, rfl, h1, h2, at_, J.os, J.bare, ?_, fun b o e => objOk_less h2 (ok b o (by rw [upd_ne (ne_of_none e h2)]; exact e))⟩
      have U := J.base
      exact ⟨U.keep, U.slot, fun b o _ n _ => n, U.there, fun b xs e => e, fun b o u e => e, fun b ps e => ⟨#[], by rw [Array.append_empty]; exact e⟩⟩
    | next =>
      obtain ⟨σ', H', J, q⟩ := hs
      exact False.elim q
    | brk =>
      obtain ⟨_, _, _, q⟩ := hs
      exact False.elim q
    | cont =>
      obtain ⟨_, _, _, q⟩ := hs
      exact False.elim q
  · exact wpAny_mono hs (fun _ s'' z => (cx_no z).elim) fun _ s'' z => (cx_no z).elim
/-- a class's own __iter__ -/
structure IterC (K : PySem.W.Frag) (C fa : Addr) : Prop where
  at_ : PySem.W.findIn K (.ref C) "__iter__" = some (some (.ref fa))
  fn : PySem.W.isFn K (.ref fa) = true
def IterFn (P : Program) (w : World) (K : PySem.W.Frag) (mg : Str → Option Value) (base : Heap) (k : Nat) (f : Addr) (fld : Str) : Prop :=
  ∀ (A : Around) (outer : List PySem.Env) (s : Shared) (H : Hp) (a C dx t : Addr) (fs : List (Str × V)) (zs : List V), Room k A → Env0 P w K mg base A outer s H →
    H a = some (.ins C dx fs) → Cls K C → NoAttr K C fld → fs.lookup fld = some (.ref t) → SqT K H t zs → codeAny (model P w) A (.call (.ref f) ⟨[.ref a], []⟩) (IterRan P w outer H s t) s
theorem iterFn_of {P : Program} {w : World} {K : PySem.W.Frag} {mg : Str → Option Value} {base : Heap} {x qual fld : Str} {st : Stmt} {f : Addr} {fd : FuncData} {k : Nat} (Fu : Fun K x qual st f fd) (S : FnScope ["self"] ["self"] (defScope st)) (bi : Binds K fd ["self"] [])
    (hb : ∀ (cdv : Value) (A : Around) (outer : List PySem.Env) (s : Shared) (H : Hp) (E : XK), PSs (cxOf (L2.CX P w) P w K mg base ["self"] qual (defScope st) f cdv A outer s H E) (defBody st) (tIterB K s.heap.objs.size fld)) : IterFn P w K mg base (k + 1) f fld :=
  fun A outer s H a C dx t fs zs hr e0 ha cl no hl ht => run_iter Fu S hb hr e0 (bi s [.ref a] (e0.mod.kin.keeps fun b o e => (e0.bs b o e).1) rfl) ha cl no hl ht
def iOwn (C : Addr) (fld : Str) (de : DE) : DI := fun ρ M Q E => de ρ M (fun d M1 => ∃ es ds, IsO M1 d C es ∧ Has es fld (.tup ds) ∧ Q ds (fun _ => True) M1) E
section
variable {X : Cx} {g : G} {W : WX} {e tg : Expr} {de : DE}
theorem di_own {k : Nat} {C fa : Addr} {fld : Str} (hK : g.K = X.K) (o : IterC X.K C fa) (fo : FldOk X.K C fld) (F : IterFn X.prog X.w X.K X.mg X.base k fa fld) (hr : Room k X.A) (he : PE X e (liftE g W de)) : PI X tg e (liftI g W (iOwn C fld de)) := by
  refine ⟨fun pins s σ H R I ⟨ρ, M, F1, Q, E, S, En, q, kQ, kE⟩ => ?_⟩
  obtain ⟨K0, U⟩ := g
  simp only at hK
  subst hK
  have one := he.run pins s σ H (fun x H1 => ∃ d M' F', (∃ es ds, IsO M' d C es ∧ Has es fld (.tup ds) ∧ Q ds (fun _ => True) M') ∧ Same F1 F' ∧ Sta ⟨X.K, U⟩ F' M' H1 ∧ Rep X.K F' x d) I
    ⟨ρ, M, F1, _, E, S, En, q, fun d M' F' v H' z s S' r => ⟨d, M', F', z, s, S', r⟩, kE⟩
  refine thn one fun u s1 ⟨x, H1, I1, rx, d, M', F', ⟨es, ds, ho, hs, z⟩, sm, S', r⟩ => ?_
  obtain ⟨a, dx, kvs, rfl, ha, l, rr⟩ := ho.to S' r
  obtain ⟨v2, h1, h2⟩ := hs.rep l rr
  obtain rfl : u = Value.ref a := rx
  cases h2 with
  | @tup t xs _ hF r2 =>
  have hT : SqT X.K H1 _ xs := S'.sub.sqT hF
  obtain ⟨mA, J, _⟩ := ins_get I1.hok ha
  obtain ⟨od, J, _⟩ := J.look
  obtain ⟨m, hFr⟩ := I1.fr
  refine PySem.W.owit_iter hFr I1.ok.mod.kin J o.at_ o.fn ?_
  refine wpAny_call (codeAny_mono (F X.A X.stack s1 H1 a C dx _ kvs xs hr I1.env0 ha fo.cl fo.no h1 hT) fun r s' hq => ?_)
  obtain ⟨it, rfl, hsz, hn, at_, os, bare, un, hok⟩ := hq
  have I2 : Inv X pins σ H1 s' := I1.call' os un hok bare (fun b z => absurd z (by simp))
  unfold PySem.W.OwitIt
  refine wpAny_specialOf (T := "tuple_iterator") ⟨_, at_, rfl⟩ PySem.F.slot_tuple_iterator_next.lookup ?_
  refine ⟨it, [it], fun i h => h.IsTupleIter it _ i, Itt X.K _, H1, rfl, I2, turn_tuple _ it, ⟨_, at_, rfl, rfl⟩, fun b hb => ?_, ?_⟩
  · rw [List.mem_singleton.mp hb]
    exact I1.fpOk hsz hn
  refine kQ _ _ M' U noH F' _ H1 z (Same.r _) same_no sm S' ⟨fun _ _ e => (nomatch e), fun i d U' F2 M2 H2 _ s2 S2 _ e => ?_, fun i U' F2 M2 H2 _ s2 S2 _ e => ?_⟩
  · obtain ⟨v, hv, rv⟩ := r2.get e
    refine ⟨⟨_, v, S2.sub.sqT (sqT_mono s2 hF), hv⟩, fun x H3 ⟨eH, y⟩ => ?_⟩
    subst eH
    have y' := y _ (S2.sub.sqT (sqT_mono s2 hF))
    rw [hv] at y'
    cases y'
    exact ⟨F2, Same.r F2, S2, rv.mono s2⟩
  · exact ⟨_, S2.sub.sqT (sqT_mono s2 hF), by rw [r2.length]; exact e⟩
end
end DL
namespace DL
variable [Wd]
open PySem L2 PySem.Spec PyProof.Rows
/-! ### calls of a staticmethod by its class -/
structure SMet (K : PySem.W.Frag) (C : Addr) (m : Str) (p f : Addr) : Prop where
  at_ : PySem.W.findCls K (.ref C) (.type "type") m = some (.get (.builtin "staticmethod.__get__") (.ref p) .none (.ref C))
  rc : ∃ rest, PySem.W.recIn K p "staticmethod" = some (.ref f :: rest)
  kk : PySem.W.keepIn K (.ref f) = true
section
variable {X : Cx} {g : G} {W : WX} {e : Expr} {es : List Expr} {dA : DA} {x m : Str} {p apos pos : Pos}
theorem de_scall {k : Nat} {C q fa : Addr} {sd : SpD} {pl : Sem Bool} (r : ClX.CRead X.K C (.type "type")) (c : SMet X.K C m q fa) (F : FnD X.prog X.w X.K X.mg X.base k fa sd) (hr : Room k X.A) (hg : Gl X x) (hm : X.mg x = some (.ref C)) (hK : g.K = X.K) (tk : Takes X W) (ha : PA X (e :: es) (liftA g W dA))
    (hst : starEach (e :: es) X.env = (false, eval e X.env) :: starEach es X.env := by rfl) (hpl : (backTo pos (starEach es X.env)).any (·.1) = false := by rfl)
    (ht : eval (.Call (.Attribute (.Name x p) m apos) (e :: es) [] pos) X.env = (do
      let ov ← eval (.Name x p) X.env
      standAt apos.atName
      let (f, first) ← holding [ov] (getMethod ov m pl)
      callWith pos f first (backTo pos (starEach (e :: es) X.env)) (backToKw pos (keywordEach [] X.env))) := by rfl) (hdb : (x == ("__debug__" : Str)) = false := by decide) :
    PE X (.Call (.Attribute (.Name x p) m apos) (e :: es) [] pos) (liftE g W (dCall sd dA)) := by
  refine ⟨fun pins s σ H kk I ⟨ρ, M, F1, Q, E, S, En, z0, kQ, kE⟩ => ?_⟩
  obtain ⟨K0, U⟩ := g
  simp only at hK
  subst hK
  refine PySem.W.methodCall_KW (pl := pl) (thn ((pe_glob hg hm (v := .ref C) rfl hdb).run pins s σ H (fun y H1 => y = .ref C ∧ H1 = H) I ⟨rfl, rfl⟩) fun u s1 ⟨y, H1, I1, ry, ey, eH⟩ => ?_) ht
  subst ey eH
  obtain rfl : u = Value.ref C := ry
  obtain ⟨rest, hp⟩ := c.rc
  refine PySem.W.method_cls I1.kIn r.ga (PySem.W.cls_bind I1.kIn r.rd c.at_ (wpAny_call (PySem.W.sm_get (s := { s1 with toks := s1.toks + 1 }) I1.kIn hp (PySem.W.handed_on rfl ?_))))
  have I2 := I1.tok (s1.toks + 1)
  refine PySem.W.callWith_K (h₀ := X.base) I2.ok.mod.kin c.kk (thn (ha.run pos pins _ σ H1 (fun vs H2 => ∃ M1 F2 ds, Same F1 F2 ∧ Sta ⟨X.K, U⟩ F2 M1 H2 ∧ Reps X.K F2 vs ds ∧ sd ds M1 Q E) I2
    ⟨ρ, M, F1, _, E, S, En, z0, fun ds M1 F2 vs H1 z s S' r => ⟨M1, F2, ds, s, S', r, z⟩, kE⟩) fun us s2 ⟨vs, H2, I3, rv, M1, F2, ds, s12, S1, r1, q1⟩ => ⟨I3.kIn, ?_⟩) hst hpl
  exact run_fnD (Ex := fun cls d H' => W cls d σ H') F hr tk (fun _ _ _ h => h) I3 rv ⟨U, M1, F2, ds, Q, E, S1, r1, q1, fun d M' F' v H' z s S' r => kQ d M' F' v H' z (s12.t s) S' r, fun C dd M' F' H' z s S' => kE C dd M' F' H' z (s12.t s) S'⟩
end
end DL
namespace DL
open PySem
/-- the value of the assignment that stands at a path of statements -/
def pathE : List Nat → List Stmt → Expr
  | [], _ => .Name "" ⟨0, 0, 0, 0⟩
  | [i], b => match b[i]? with
    | some (.Assign _ e _) => e
    | _ => .Name "" ⟨0, 0, 0, 0⟩
  | i :: is, b => match b[i]? with
    | some (.For _ _ c _ _) => pathE is c
    | some (.If _ c _ _) => pathE is c
    | some (.While _ c _ _) => pathE is c
    | _ => .Name "" ⟨0, 0, 0, 0⟩
end DL
namespace DL
variable [Wd]
open PySem L2 PySem.Spec PyProof.Rows
/-! ### trees as data -/
inductive Nt where
  | mk (k : Kd) (ch : List Nt)
def Nt.kd : Nt → Kd
  | .mk k _ => k
mutual
def Nt.sz : Nt → Nat
  | .mk _ ch => 1 + szsN ch
def szsN : List Nt → Nat
  | [] => 0
  | t :: ts => t.sz + szsN ts
end
mutual
def Nt.dp : Nt → Nat
  | .mk _ ch => 1 + dpsN ch
def dpsN : List Nt → Nat
  | [] => 0
  | t :: ts => max t.dp (dpsN ts)
end
mutual
def Nt.d (cT : Addr) : Nt → D
  | .mk k ch => .obj cT (treeE k.n k.f (1 + szsN ch) (1 + dpsN ch) (dsN cT ch))
def dsN (cT : Addr) : List Nt → List D
  | [] => []
  | t :: ts => t.d cT :: dsN cT ts
end
mutual
/-- as nested lists -/
def Nt.l : Nt → D
  | .mk k ch => .lst [.str k.n, .lst (lsN ch)]
def lsN : List Nt → List D
  | [] => []
  | t :: ts => t.l :: lsN ts
end
mutual
def Nt.ok (rs : List Kd) : Nt → Prop
  | .mk k ch => k ∈ rs ∧ ch.map (fun t => t.kd.f) = k.ch ∧ oksN rs ch
def oksN (rs : List Kd) : List Nt → Prop
  | [] => True
  | t :: ts => t.ok rs ∧ oksN rs ts
end
def Nt.tre (cT : Addr) (t : Nt) : Tre := ⟨t.d cT, t.kd.f, t.sz, t.dp⟩
theorem dsN_map (cT : Addr) : ∀ ts : List Nt, dsN cT ts = ts.map (·.d cT)
  | [] => by simp [dsN]
  | t :: ts => by simp [dsN, dsN_map cT ts]
theorem lsN_map : ∀ ts : List Nt, lsN ts = ts.map (·.l)
  | [] => by simp [lsN]
  | t :: ts => by simp [lsN, lsN_map ts]
theorem szsN_sum : ∀ ts : List Nt, szsN ts = (ts.map (·.sz)).sum
  | [] => by simp [szsN]
  | t :: ts => by simp [szsN, szsN_sum ts]
theorem dpsN_fold : ∀ (ts : List Nt) (n : Nat), (ts.map (·.dp)).foldl max n = max n (dpsN ts)
  | [], n => by simp [dpsN]
  | t :: ts, n => by
    rw [List.map_cons, List.foldl_cons, dpsN_fold ts, dpsN]
    omega
theorem oksN_iff {rs : List Kd} : ∀ ts : List Nt, oksN rs ts ↔ ∀ t ∈ ts, t.ok rs
  | [] => by simp [oksN]
  | t :: ts => by simp [oksN, oksN_iff ts]
theorem tre_szOf (cT : Addr) (ts : List Nt) : szOf (ts.map (Nt.tre cT)) = 1 + szsN ts := by
  unfold szOf
  rw [List.map_map, szsN_sum]
  rfl
theorem tre_dpOf (cT : Addr) (ts : List Nt) : dpOf (ts.map (Nt.tre cT)) = 1 + dpsN ts := by
  unfold dpOf
  rw [List.map_map]
  show 1 + (ts.map (·.dp)).foldl max 0 = _
  rw [dpsN_fold]
  omega
theorem tre_ok' (cT : Addr) (t : Nt) : TrOk cT (t.tre cT) := by
  cases t with
  | mk k ch => exact ⟨k.n, dsN cT ch, by show Nt.d cT (.mk k ch) = _; rw [Nt.d]; show _ = D.obj cT (treeE k.n k.f (Nt.mk k ch).sz (Nt.mk k ch).dp _); rw [Nt.sz, Nt.dp]⟩
/-! ### the least trees of a family -/
def LF (rs : List Kd) (f : Str) (n : Nat) : Prop := Tr rs f n ∧ ∀ m, Tr rs f m → n ≤ m
def Dp (rs : List Kd) : Nat → Str → Prop
  | 0, _ => False
  | n + 1, f => ∀ r ∈ rs, r.f = f → (∃ m, LF rs f m ∧ Fewest rs r m) → ∀ c ∈ r.ch, Dp rs n c
theorem LF.one {rs : List Kd} {f : Str} {m n : Nat} (h : LF rs f m) (h2 : LF rs f n) : m = n := Nat.le_antisymm (h.2 n h2.1) (h2.2 m h.1)
theorem LF.kind {rs : List Kd} {f : Str} {m : Nat} (h : LF rs f m) : ∃ r ∈ rs, r.f = f ∧ Fewest rs r m := by
  obtain ⟨ht, hm⟩ := h
  cases ht with
  | @mk r k hr ts => exact ⟨r, hr, rfl, ⟨k, ts, rfl⟩, fun j hj => hm _ (.mk hr hj)⟩
theorem trs_least {rs : List Kd} : ∀ {ts : List (Str × Nat)} {k : Nat}, (∀ p ∈ ts, LF rs p.1 p.2) → Trs rs (ts.map (·.1)) k → (ts.map (·.2)).sum ≤ k
  | [], _, _, _ => Nat.zero_le _
  | p :: ts, _, h, .cons (a := a) (b := b) t tr => by
    have h1 := (h p List.mem_cons_self).2 a t
    have h2 := trs_least (fun q hq => h q (List.mem_cons_of_mem _ hq)) tr
    rw [List.map_cons, List.sum_cons]
    omega
theorem trs_of {rs : List Kd} : ∀ {ts : List (Str × Nat)}, (∀ p ∈ ts, LF rs p.1 p.2) → Trs rs (ts.map (·.1)) (ts.map (·.2)).sum
  | [], _ => .nil
  | p :: ts, h => .cons (h p List.mem_cons_self).1 (trs_of fun q hq => h q (List.mem_cons_of_mem _ hq))
theorem fewest_sum {rs : List Kd} {r : Kd} {m : Nat} {ts : List (Str × Nat)} (h : Fewest rs r m) (e : ts.map (·.1) = r.ch) (hl : ∀ p ∈ ts, LF rs p.1 p.2) : m = (ts.map (·.2)).sum + 1 := by
  obtain ⟨⟨k, hk, rfl⟩, hmin⟩ := h
  have h1 := trs_least hl (by rw [e]; exact hk)
  have h2 := hmin _ (by rw [← e]; exact trs_of hl)
  omega
theorem tr_nat {rs : List Kd} {f : Str} {m : Nat} (h : Tr rs f m) : ∃ n, LF rs f n := by
  obtain ⟨n, h1, h2⟩ : ∃ n, Tr rs f n ∧ ∀ k, k < n → ¬ Tr rs f k := by
    induction m using Nat.strongRecOn with
    | ind m ih =>
      by_cases z : ∃ k, k < m ∧ Tr rs f k
      · obtain ⟨k, hk, tk⟩ := z
        exact ih k hk tk
      · exact ⟨m, h, fun k hk tk => z ⟨k, hk, tk⟩⟩
  exact ⟨n, h1, fun k tk => Nat.le_of_not_lt fun z => h2 k z tk⟩
theorem trs_each {rs : List Kd} : ∀ {ch : List Str} {k : Nat}, Trs rs ch k → ∃ ts : List (Str × Nat), ts.map (·.1) = ch ∧ ∀ p ∈ ts, LF rs p.1 p.2
  | _, _, .nil => ⟨[], rfl, fun _ h => nomatch h⟩
  | _, _, .cons (f := f) t tr => by
    obtain ⟨ts, e, h⟩ := trs_each tr
    obtain ⟨n, hn⟩ := tr_nat t
    exact ⟨(f, n) :: ts, by rw [List.map_cons, e], fun p hp => by
      rcases List.mem_cons.mp hp with rfl | hp
      · exact hn
      · exact h p hp⟩
theorem lf_small {rs : List Kd} (h3 : ∀ r ∈ rs, r.ch.length ≤ 3) : ∀ {n : Nat} {f : Str} {m : Nat}, Dp rs n f → LF rs f m → m ≤ 4 ^ n
  | 0, _, _, h, _ => h.elim
  | n + 1, f, m, h, hm => by
    obtain ⟨r, hr, hf, fw⟩ := hm.kind
    obtain ⟨k, hk, _⟩ := fw.1
    obtain ⟨ts, e, hl⟩ := trs_each hk
    have em := fewest_sum fw e hl
    have hd := h r hr hf ⟨m, hm, fw⟩
    have each : ∀ p ∈ ts, p.2 ≤ 4 ^ n := fun p hp => lf_small h3 (hd p.1 (by rw [← e]; exact List.mem_map.mpr ⟨p, hp, rfl⟩)) (hl p hp)
    have len : ts.length ≤ 3 := by
      have := h3 r hr
      rw [← e, List.length_map] at this
      exact this
    have sum : ∀ l : List (Str × Nat), (∀ p ∈ l, p.2 ≤ 4 ^ n) → (l.map (·.2)).sum ≤ l.length * 4 ^ n := by
      intro l
      induction l with
      | nil => intro _; simp
      | cons p l ih =>
        intro hl
        have a := hl p List.mem_cons_self
        have b := ih fun q hq => hl q (List.mem_cons_of_mem _ hq)
        rw [List.map_cons, List.sum_cons, List.length_cons, Nat.add_mul]
        omega
    have s1 := sum ts each
    have s2 : ts.length * 4 ^ n ≤ 3 * 4 ^ n := Nat.mul_le_mul_right _ len
    have p1 : 0 < 4 ^ n := Nat.pos_of_ne_zero (by simp)
    rw [Nat.pow_succ]
    omega
end DL
namespace DL
variable [Wd]
open PySem L2 PySem.Spec PyProof.Rows
theorem count_lt {α : Type} {p q : α → Bool} : ∀ {l : List α}, (∀ x ∈ l, p x = true → q x = true) → (∃ c ∈ l, q c = true ∧ p c = false) → l.countP p < l.countP q
  | [], _, ⟨_, h, _⟩ => nomatch h
  | x :: l, h, ⟨c, hc, h1, h2⟩ => by
    have mono : ∀ l : List α, (∀ x ∈ l, p x = true → q x = true) → l.countP p ≤ l.countP q := fun l => List.countP_mono_left
    rcases List.mem_cons.mp hc with rfl | hc
    · rw [List.countP_cons_of_neg (by simp [h2]), List.countP_cons_of_pos h1]
      have := mono l fun y hy => h y (List.mem_cons_of_mem _ hy)
      omega
    · have ih := count_lt (fun y hy => h y (List.mem_cons_of_mem _ hy)) ⟨c, hc, h1, h2⟩
      by_cases e : p x = true
      · rw [List.countP_cons_of_pos e, List.countP_cons_of_pos (h x List.mem_cons_self e)]
        omega
      · rw [List.countP_cons_of_neg e, List.countP_cons]
        split <;> omega
theorem dp_more {rs : List Kd} : ∀ {n m : Nat} {f : Str}, n ≤ m → Dp rs n f → Dp rs m f
  | 0, _, _, _, h => h.elim
  | n + 1, 0, _, h, _ => by omega
  | n + 1, m + 1, f, h, hd => fun r hr e x c hc => dp_more (by omega) (hd r hr e x c hc)
open Classical in
theorem dp_fams {fs : List Str} {rs : List Kd} (ht : ∀ f ∈ fs, ∃ m, Tr rs f m) (hc : ∀ r ∈ rs, ∀ c ∈ r.ch, c ∈ fs) {f : Str} (hf : f ∈ fs) : Dp rs fs.length f := by
  let v : Str → Nat := fun f => if h : ∃ n, LF rs f n then h.choose else 0
  have hv : ∀ f ∈ fs, LF rs f (v f) := fun f hf => by
    obtain ⟨m, hm⟩ := ht f hf
    have h := tr_nat hm
    show LF rs f (if h : ∃ n, LF rs f n then h.choose else 0)
    rw [dif_pos h]
    exact h.choose_spec
  have key : ∀ (n : Nat) (f : Str), f ∈ fs → fs.countP (fun g => decide (v g < v f)) < n → Dp rs n f := by
    intro n
    induction n with
    | zero => intro f _ h; omega
    | succ n ih =>
      intro f hf hn r hr e ⟨m, hm, fw⟩ c hcm
      obtain ⟨k, hk, ek⟩ := fw.1
      obtain ⟨ts, e1, hl⟩ := trs_each hk
      have em := fewest_sum fw e1 hl
      have hcf := hc r hr c hcm
      rw [← e1] at hcm
      obtain ⟨p, hp, rfl⟩ := List.mem_map.mp hcm
      have e2 := (hl p hp).one (hv _ hcf)
      have le : p.2 ≤ (ts.map (·.2)).sum := by
        have : ∀ l : List (Str × Nat), p ∈ l → p.2 ≤ (l.map (·.2)).sum := by
          intro l
          induction l with
          | nil => intro h; cases h
          | cons y l ih =>
            intro h
            rw [List.map_cons, List.sum_cons]
            rcases List.mem_cons.mp h with rfl | h
            · omega
            · have := ih h
              omega
        exact this ts hp
      have e3 := hm.one (hv f hf)
      have lt : v p.1 < v f := by omega
      refine ih p.1 hcf ?_
      have := count_lt (p := fun g => decide (v g < v p.1)) (q := fun g => decide (v g < v f)) (l := fs) (fun x _ h => by simp at h ⊢; omega) ⟨p.1, hcf, by simpa using lt, by simp⟩
      omega
  refine key _ f hf ?_
  have := count_lt (p := fun g => decide (v g < v f)) (q := fun _ => true) (l := fs) (fun _ _ _ => rfl) ⟨f, hf, rfl, by simp⟩
  rw [List.countP_true] at this
  exact this
section
variable {M : Mem} {K : PySem.W.Frag} {ds : List D} {Qd : D → Mem → Prop} {Ed : XD}
/-- a tree that is made without an error, its data told -/
theorem made_out2 {E : XD} {cT cU cB cL : Addr} {rs : List Kd} {ts : List Tre} {Qt : Tre → Mem → Prop} {r : Kd} (nd : (rs.map (·.n)).Nodup) (hr : r ∈ rs) (hf : ts.map (·.f) = r.ch) (h1 : szOf ts ≤ 1000) (h2 : dpOf ts ≤ 50)
    (h : ∀ M', Nd M' → Fr [] M M' → Qt ⟨.obj cT (treeE r.n r.f (szOf ts) (dpOf ts) (ts.map (·.d))), r.f, szOf ts, dpOf ts⟩ M') : TreeOut E cT cU cB cL rs r.n ts M Qt := by
  refine ⟨fun z => absurd (List.mem_map.mpr ⟨r, hr, rfl⟩) z, fun r' hr' e => ?_⟩
  obtain rfl := nodup_map_inj nd hr' hr e
  have el : ts.length = r'.ch.length := by rw [← hf, List.length_map]
  have all : ∀ (i : Nat) t f, ts[i]? = some t → r'.ch[i]? = some f → t.f = f := fun i t f a b => by
    rw [← hf, List.getElem?_map, a] at b
    exact Option.some.inj b
  exact ⟨fun z => absurd el z, fun _ => ⟨fun i t f a b c _ => absurd (all i t f a b) c, fun _ M' nd' f' => ⟨fun z => by omega, fun _ z => by omega, fun _ _ => h M' nd' f'⟩⟩⟩
/-! ### Tree.least -/
def dLeastT (K : PySem.W.Frag) (cG cT : Addr) (sdL sdK sdS sdC sdI sdT : SpD) : DS := sSeq (sAsg (dZK K (dMeth cG "least_size" sdL (dVar 0) (dCons (dVar 1) (dNil)))) (gNm 2)) (sSeq (sAsg (dLc (iAny (dZK K (dMeth cG "kinds_of" sdK (dVar 0) (dCons (dVar 1) (dNil))))) (.nm 4) (dB (dOp rEq (dZK K (dMeth cG "kind_size" sdS (dVar 0) (dCons (dVar 4) (dNil)))) (dVar 2))) (dVar 4) [4]) (gNm 3)) (sSeq (sAsg (dLc (iAny (dZK K (dMeth cG "children_of" sdC (dVar 0) (dCons (dOp rIx (dVar 3) (dC (.int 0))) (dNil))))) (.nm 6) (dYes) (dZK K (dCall sdI (dCons (dVar 0) (dCons (dVar 6) (dNil))))) [6]) (gNm 5)) (sRet (dZK K (dMake cT sdT (dCons (dVar 0) (dCons (dOp rIx (dVar 3) (dC (.int 0))) (dStar (dVar 5) (dNil)))))))))
def spLeastT (cT cG cU : Addr) : Nat → SpD
  | 0 => fun ds _ _ _ => ds.length = 2 ∧ False
  | n + 1 => fun ds M Q E => ∃ g xs rs root S f, ds = [g, .str f] ∧ (∀ M', Gm M' g cG xs rs root S) ∧ n ≤ 3 ∧ (∀ r ∈ rs, r.ch.length ≤ 3) ∧ (∀ r ∈ rs, ∀ c ∈ r.ch, c ∈ famsOf rs) ∧ Nd M ∧ (f ∉ famsOf rs → Errs E cU "name" f M) ∧
    (f ∈ famsOf rs → Dp rs (n + 1) f ∧ ∀ t M', Nt.ok rs t → t.kd.f = f → LF rs f t.sz → t.dp ≤ n + 1 → Nd M' → Fr [] M M' → Q (t.d cT) M')
theorem pureLeastT {cT cG cU cB cL : Addr} {n : Nat} {y0 y1 y2 y3 y4 y5 y6 : Str} (h : spLeastT cT cG cU (n + 1) ds M Qd Ed) : dLeastT K cG cT (spLeastOf cG cU) (spKindsOf cG cU) (spKindQ cG cU vSz) (spKindQ cG cU vCh) (spLeastT cT cG cU n) (SpD.star 3 (spTree cT cG cU cB cL)) (fun _ M' => Qd .non M') Qd (fun _ _ => False) (fun _ _ => False) (fun C dd _ M' => Ed C dd M') (start0 [y0, y1, y2, y3, y4, y5, y6] ds) M := by
  obtain ⟨g, xs, rs, root, S, f, rfl, G, hn, h3, hch, nd, kU, kR⟩ := h
  unfold dLeastT
  walk_at "dl"
  refine ⟨_, (G _).at_, no_meth (by decide +kernel), ?_⟩
  walk_at "dl"
  refine ⟨g, xs, rs, root, S, f, rfl, G _, nd, kU, fun hf v ⟨r0, hr0, hf0, e0⟩ hmin => ⟨_, _, .refl, ?_⟩⟩
  obtain ⟨hd, kQ⟩ := kR hf
  have fw : ∀ r ∈ rs, ∀ m, getN S r.n = some m → Fewest rs r m := fun r hr m e => by
    obtain ⟨m', e', w⟩ := (G M).size hr
    rw [e] at e'
    cases e'
    exact w
  have lf : LF rs f v := by
    obtain ⟨⟨k, hk, ek⟩, _⟩ := fw r0 hr0 v e0
    refine ⟨by rw [ek, ← hf0]; exact .mk hr0 hk, fun m hm => ?_⟩
    cases hm with
    | @mk r k' hr ts =>
      obtain ⟨m', e', w⟩ := (G M).size hr
      exact Nat.le_trans (hmin r hr rfl m' e') (w.2 _ ts)
  walk_at "dl"
  refine ⟨_, (G _).at_, no_meth (by decide +kernel), ?_⟩
  walk_at "dl"
  refine ⟨g, xs, rs, root, S, f, rfl, G _, nd, fun z => absurd hf z, fun _ => ⟨_, _, .refl, ?_⟩⟩
  have kl : (kindsOf rs f).length ≤ 8 := Nat.le_trans (List.length_filter_le _ _) (G M).l8
  have kin : ∀ r ∈ kindsOf rs f, r ∈ rs ∧ r.f = f := fun r hr => ⟨(List.mem_filter.mp hr).1, of_decide_eq_true (List.mem_filter.mp hr).2⟩
  walk_at "dl"
  refine ⟨_, _, .tup _, lt_line (by rw [List.length_map]; omega), lc_if (fun r : Kd => D.str r.n) (fun r : Kd => D.str r.n) (fun r => decide (getN S r.n = some v)) trivial (fun r hr P h => ?_) (fun r _ _ P1 h1 => ?_) (.inl ?_)⟩
  · have hrr := (kin r hr).1
    walk_at "dl"
    refine ⟨_, (G _).at_, no_meth (by decide +kernel), ?_⟩
    walk_at "dl"
    refine ⟨g, xs, rs, root, S, r.n, rfl, G _, nd, fun z => absurd (List.mem_map.mpr ⟨r, hrr, rfl⟩) z, fun r' hr' e d ⟨m, em, ed⟩ => ⟨_, _, .refl, ?_⟩⟩
    obtain rfl := nodup_map_inj (G M).nd hr' hrr e
    subst ed
    rw [em] at h
    walk_at "dl"
    have : (decide ((m : Int) = (v : Nat)) != false) = decide (some m = some v) := by
      by_cases z : m = v
      · subst z; simp
      · have : ¬ (m : Int) = (v : Nat) := by omega
        simp [z, this]
    rw [this]
    exact h
  · walk_at "dl"
    exact h1
  cases es : (kindsOf rs f).filter fun r => decide (getN S r.n = some v) with
  | nil =>
    have : r0 ∈ (kindsOf rs f).filter fun r => decide (getN S r.n = some v) := List.mem_filter.mpr ⟨List.mem_filter.mpr ⟨hr0, by simpa using hf0⟩, by simpa using e0⟩
    rw [es] at this
    cases this
  | cons r1 rest =>
  have h1m := List.mem_filter.mp (show r1 ∈ (kindsOf rs f).filter fun r => decide (getN S r.n = some v) by rw [es]; exact List.mem_cons_self)
  obtain ⟨hr1, hf1⟩ := kin r1 h1m.1
  have e1 : getN S r1.n = some v := of_decide_eq_true h1m.2
  have fam : ∀ c ∈ r1.ch, Dp rs n c := hd r1 hr1 hf1 ⟨v, lf, fw r1 hr1 v e1⟩
  have c3 := h3 r1 hr1
  walk_at "dl"
  refine ⟨_, (G _).at_, no_meth (by decide +kernel), ?_⟩
  walk_at "dl"
  refine ixq_lst atI0 ?_
  walk_at "dl"
  refine ⟨g, xs, rs, root, S, r1.n, rfl, G _, nd, fun z => absurd (List.mem_map.mpr ⟨r1, hr1, rfl⟩) z, fun r' hr' e d hd2 => ⟨_, _, .refl, ?_⟩⟩
  obtain rfl := nodup_map_inj (G M).nd hr' hr1 e
  subst hd2
  refine ⟨_, _, .tup _, lt_line (by rw [List.length_map]; omega), lc_chg D.str (fun acc M6 => ∃ ts : List Nt, acc = ts.map (·.d cT) ∧ ts.map (fun t => t.kd.f) = r'.ch.take ts.length ∧ (∀ t ∈ ts, Nt.ok rs t ∧ LF rs t.kd.f t.sz ∧ t.dp ≤ n) ∧ Nd M6 ∧ Fr [] M M6) (fun _ _ _ => trivial) (done := []) rfl (fun i x acc M6 hx hal I P1 hP1 => ?_) (fun acc M6 hal I => .inl ?_) ⟨[], rfl, rfl, by simp, nd, Fr.refl⟩⟩
  · obtain ⟨ts, rfl, hts, hok, nd6, f6⟩ := I
    have hx : r'.ch[i]? = some x := hx
    have hxm := List.mem_of_getElem? hx
    have hdx := fam x hxm
    cases n with
    | zero => exact hdx.elim
    | succ n =>
    walk_at "dl"
    refine ⟨g, xs, rs, root, S, x, rfl, G, by omega, h3, hch, nd6, fun z => absurd (hch r' hr1 x hxm) z, fun _ => ⟨hdx, fun t M7 ok ef lft dp nd7 f7 => ⟨_, _, .refl, ?_⟩⟩⟩
    rw [List.length_map] at hal
    refine hP1 _ _ ⟨ts ++ [t], by rw [List.map_append]; rfl, ?_, fun z hz => ?_, nd7, f6.trans f7⟩
    · rw [List.map_append, hts, List.length_append, hal]
      show _ = r'.ch.take (i + 1)
      rw [List.take_add_one, hx, List.map_cons, ef]
      rfl
    · rcases List.mem_append.mp hz with h | h
      · exact hok z h
      · rw [List.mem_singleton.mp h]
        exact ⟨ok, by rw [ef]; exact lft, dp⟩
  obtain ⟨ts, rfl, hts, hok, nd6, f6⟩ := I
  have hl : ts.length = r'.ch.length := by
    rw [List.length_map] at hal
    exact hal
  rw [hl, List.take_length] at hts
  have hv : v = (ts.map (·.sz)).sum + 1 := by
    have := fewest_sum (ts := ts.map fun t => (t.kd.f, t.sz)) (fw r' hr1 v e1) (by rw [List.map_map]; exact hts) (fun p hp => by
      obtain ⟨t, ht, rfl⟩ := List.mem_map.mp hp
      exact (hok t ht).2.1)
    rw [List.map_map] at this
    exact this
  have hdp : dpsN ts ≤ n := by
    have : ∀ l : List Nt, (∀ t ∈ l, t.dp ≤ n) → dpsN l ≤ n := by
      intro l
      induction l with
      | nil => intro _; rw [dpsN]; omega
      | cons t l ih =>
        intro h
        have a := h t List.mem_cons_self
        have b := ih fun z hz => h z (List.mem_cons_of_mem _ hz)
        rw [dpsN]
        omega
    exact this ts fun t ht => (hok t ht).2.2
  have hs : v ≤ 1000 := by
    have a := lf_small h3 hd lf
    have b : 4 ^ (n + 1) ≤ 4 ^ 4 := Nat.pow_le_pow_right (by omega) (by omega)
    omega
  walk_at "dl"
  refine ixq_lst atI0 ?_
  walk_at "dl"
  refine ⟨_, .lst _, ?_⟩
  walk_at "dl"
  rw [List.append_nil]
  refine fun x hx => ?_
  have e3 : ts.map (·.d cT) = (ts.map (Nt.tre cT)).map (·.d) := by
    rw [List.map_map]
    rfl
  have e4 : D.obj cT (treeE r'.n r'.f (szOf (ts.map (Nt.tre cT))) (dpOf (ts.map (Nt.tre cT))) (ts.map (·.d cT))) = Nt.d cT (.mk r' ts) := by
    rw [Nt.d, tre_szOf, tre_dpOf, dsN_map]
  rw [e3]
  refine star_tree (Qt := fun t M' => t.d = Nt.d cT (.mk r' ts) ∧ Qd t.d M') hx nd6 G (fun t ht => ?_) (by rw [List.length_map]; omega) (made_out2 (G M).nd hr1 (by rw [List.map_map]; exact hts) (by rw [tre_szOf, szsN_sum]; omega) (by rw [tre_dpOf]; omega) fun M' nd' f' => ?_) fun t M' _ hq M2 dlx e => ⟨rfl, _, M', .one dlx rfl, e ▸ hq.2⟩
  · obtain ⟨z, _, rfl⟩ := List.mem_map.mp ht
    exact tre_ok' cT z
  · show D.obj cT (treeE r'.n r'.f (szOf (ts.map (Nt.tre cT))) (dpOf (ts.map (Nt.tre cT))) ((ts.map (Nt.tre cT)).map (·.d))) = _ ∧ Qd (D.obj cT (treeE r'.n r'.f (szOf (ts.map (Nt.tre cT))) (dpOf (ts.map (Nt.tre cT))) ((ts.map (Nt.tre cT)).map (·.d)))) M'
    rw [← e3, e4]
    have esz : (Nt.mk r' ts).sz = v := by
      rw [Nt.sz, szsN_sum]
      omega
    refine ⟨rfl, kQ _ M' ?_ hf1 (by rw [esz]; exact lf) (by rw [Nt.dp]; omega) nd' (f6.trans f')⟩
    rw [Nt.ok]
    exact ⟨hr1, hts, (oksN_iff ts).mpr fun t ht => (hok t ht).1⟩
end
end DL
namespace DL
variable [Wd]
open PySem L2 PySem.Spec PyProof.Rows
section
variable {M : Mem} {K : PySem.W.Frag} {ds : List D} {Qd : D → Mem → Prop} {Ed : XD}
theorem dp_mem {t : Nt} : ∀ {ts : List Nt}, t ∈ ts → t.dp ≤ dpsN ts
  | [], h => nomatch h
  | x :: ts, h => by
    rw [dpsN]
    rcases List.mem_cons.mp h with rfl | h
    · omega
    · have := dp_mem h
      omega
theorem dp_pos (t : Nt) : 0 < t.dp := by
  cases t
  rw [Nt.dp]
  omega
theorem sz_pos (t : Nt) : 0 < t.sz := by
  cases t
  rw [Nt.sz]
  omega
/-! ### a tree read as nested lists -/
def dReadT (K : PySem.W.Frag) (cT : Addr) (sdI : SpD) : DS := sRet (dLst (dCons (dFld K (dVar 0) "kind") (dCons (dLc (iOwn cT "_children" (dVar 0)) (.nm 1) (dYes) (dZK K (dCall sdI (dCons (dVar 1) (dNil)))) [1]) (dNil))))
def spReadT (cT : Addr) : Nat → SpD
  | 0 => fun ds _ _ _ => ds.length = 1 ∧ False
  | n + 1 => fun ds M Q _ => ∃ (rs : List Kd) (t : Nt), ds = [t.d cT] ∧ Nt.ok rs t ∧ (∀ r ∈ rs, r.ch.length ≤ 3) ∧ t.dp ≤ n + 1 ∧ Q t.l M
theorem pureReadT {cT : Addr} {n : Nat} {y0 y1 : Str} (TO : TreeOk K cT) (h : spReadT cT (n + 1) ds M Qd Ed) : dReadT K cT (spReadT cT n) (fun _ M' => Qd .non M') Qd (fun _ _ => False) (fun _ _ => False) (fun C dd _ M' => Ed C dd M') (start0 [y0, y1] ds) M := by
  obtain ⟨rs, t, rfl, ok, h3, hd, kQ⟩ := h
  cases t with
  | mk k ch =>
  rw [Nt.ok] at ok
  obtain ⟨hk, hf, oks⟩ := ok
  rw [Nt.dp] at hd
  rw [Nt.l, lsN_map] at kQ
  have hl : ch.length ≤ 3 := by
    have := h3 k hk
    rw [← hf, List.length_map] at this
    exact this
  rw [Nt.d, dsN_map]
  unfold dReadT
  walk_at "dl"
  refine ⟨_, _, _, .obj _ _, TO.f1, .head, ?_⟩
  walk_at "dl"
  refine ⟨_, _, .obj _ _, .tail (by decide) (.tail (by decide) (.tail (by decide) (.tail (by decide) .head))), ?_⟩
  refine ⟨lt_line (by rw [List.length_map]; omega), lc_map (fun t : Nt => t.d cT) Nt.l trivial (fun t ht P1 h1 => ?_) (.inl ?_)⟩
  · have := dp_mem ht
    cases n with
    | zero =>
      have := dp_pos t
      omega
    | succ n =>
    walk_at "dl"
    exact ⟨rs, t, rfl, (oksN_iff ch).mp oks t ht, h3, by omega, ⟨_, _, .refl, h1⟩⟩
  walk_at "dl"
  exact ⟨len_le_line (n := 2), .inl kQ⟩
/-! ### the nodes of nested lists -/
theorem nodup_unmap {α β : Type} {f : α → β} : ∀ {l : List α}, (l.map f).Nodup → l.Nodup
  | [], _ => List.nodup_nil
  | x :: l, h => by
    rw [List.map_cons, List.nodup_cons] at h
    exact List.nodup_cons.mpr ⟨fun z => h.1 (List.mem_map.mpr ⟨x, z, rfl⟩), nodup_unmap h.2⟩
theorem filter_only {α : Type} {p : α → Bool} {a : α} : ∀ {l : List α}, l.Nodup → a ∈ l → p a = true → (∀ b ∈ l, p b = true → b = a) → l.filter p = [a]
  | [], _, h, _, _ => nomatch h
  | x :: l, hn, ha, hp, h => by
    rw [List.nodup_cons] at hn
    by_cases e : x = a
    · subst e
      rw [List.filter_cons_of_pos hp]
      have : l.filter p = [] := List.filter_eq_nil_iff.mpr fun b hb z => hn.1 (h b (List.mem_cons_of_mem _ hb) z ▸ hb)
      rw [this]
    · have hx : ¬ p x = true := fun z => e (h x List.mem_cons_self z)
      rw [List.filter_cons_of_neg hx]
      rcases List.mem_cons.mp ha with z | ha
      · exact absurd z.symm e
      · exact filter_only hn.2 ha hp fun b hb => h b (List.mem_cons_of_mem _ hb)
def dCountT (K : PySem.W.Frag) (sdI : SpD) : DS := sSeq (sAsg (dLc (iAny (dVar 0)) (.nm 4) (dAnd (dB (dOp rEq (dOp rIx (dVar 4) (dC (.int 0))) (dOp rIx (dVar 2) (dC (.int 0))))) (dB (dOp rEq (dOp rIx (dVar 4) (dC (.int 1))) (dVar 1)))) (dVar 4) [4]) (gNm 3)) (sSeq (sIf (dOr (dB (dOp rNe (dCB rLen (dCons (dVar 3) (dNil))) (dC (.int 1)))) (dB (dOp rNe (dCB rLen (dCons (dOp rIx (dOp rIx (dVar 3) (dC (.int 0))) (dC (.int 2))) (dNil))) (dCB rLen (dCons (dOp rIx (dVar 2) (dC (.int 1))) (dNil)))))) (sRet (dC (.int 0))) (sNext)) (sSeq (sAsg (dC (.int 1)) (gNm 5)) (sSeq (sFor (iRg1 (dCons (dCB rLen (dCons (dOp rIx (dVar 2) (dC (.int 1))) (dNil))) (dNil))) (gNm 6) (sSeq (sAsg (dZK K (dCall sdI (dCons (dVar 0) (dCons (dOp rIx (dOp rIx (dOp rIx (dVar 3) (dC (.int 0))) (dC (.int 2))) (dVar 6)) (dCons (dOp rIx (dOp rIx (dVar 2) (dC (.int 1))) (dVar 6)) (dNil)))))) (gNm 7)) (sSeq (sIf (dB (dOp rEq (dVar 7) (dC (.int 0)))) (sRet (dC (.int 0))) (sNext)) (sAsg (dOp rAdd (dVar 5) (dVar 7)) (gNm 5))))) (sRet (dZK K (dVar 5))))))
def spCountT : Nat → SpD
  | 0 => fun ds _ _ _ => ds.length = 3 ∧ False
  | n + 1 => fun ds M Q _ => ∃ (rs : List Kd) (f : Str) (t : Nt), ds = [.lst (rs.map kdL), .str f, t.l] ∧ rs.length ≤ 1000 ∧ (rs.map (·.n)).Nodup ∧ Nt.ok rs t ∧ t.kd.f = f ∧ (∀ r ∈ rs, r.ch.length ≤ 3) ∧ t.dp ≤ n + 1 ∧ t.sz ≤ 1000000 ∧ Q (.int (t.sz : Nat)) M
theorem pureCountT {n : Nat} {y0 y1 y2 y3 y4 y5 y6 y7 : Str} (h : spCountT (n + 1) ds M Qd Ed) : dCountT K (spCountT n) (fun _ M' => Qd .non M') Qd (fun _ _ => False) (fun _ _ => False) (fun C dd _ M' => Ed C dd M') (start0 [y0, y1, y2, y3, y4, y5, y6, y7] ds) M := by
  obtain ⟨rs, f, t, rfl, hrl, hnd, ok, hf, h3, hd, hs, kQ⟩ := h
  cases t with
  | mk k ch =>
  rw [Nt.ok] at ok
  obtain ⟨hk, hch, oks⟩ := ok
  have hf : k.f = f := hf
  rw [Nt.dp] at hd
  rw [Nt.sz] at kQ hs
  have hl : ch.length ≤ 3 := by
    have := h3 k hk
    rw [← hch, List.length_map] at this
    exact this
  rw [Nt.l, lsN_map]
  unfold dCountT
  walk_at "dl"
  refine ⟨_, _, .lst (.lst _), lt_line (by rw [List.length_map]; omega), lc_if kdL kdL (fun r => decide (r.n = k.n) && decide (r.f = f)) trivial (fun r hr P h => ?_) (fun r _ _ P1 h1 => ?_) (.inl ?_)⟩
  · walk_at "dl"
    refine ixt0 ?_
    walk_at "dl"
    refine ixq_lst atI0 ?_
    walk_at "dl"
    by_cases e : r.n = k.n
    case neg =>
      rw [decide_eq_false e, Bool.false_and] at h
      refine g_iff' (by simp [e]) ?_
      exact h
    refine g_ift (by simp [e]) ?_
    walk_at "dl"
    refine ixt1 ?_
    walk_at "dl"
    rw [decide_eq_true e, Bool.true_and] at h
    simpa using h
  · walk_at "dl"
    exact h1
  rw [filter_only (a := k) (nodup_unmap hnd) hk (by simp [hf]) fun b hb z => by simp at z; exact nodup_map_inj hnd hb hk z.1]
  walk_at "dl"
  refine isS_len (.lst _) ?_
  walk_at "dl"
  refine g_iff' rfl ?_
  walk_at "dl"
  refine ixq_lst atI0 ?_
  walk_at "dl"
  refine ixt2 ?_
  walk_at "dl"
  refine isS_len (.lst _) ?_
  walk_at "dl"
  refine ixq_lst atI1 ?_
  walk_at "dl"
  refine isS_len (.lst _) ?_
  rw [List.length_map, List.length_map, ← hch, List.length_map]
  walk_at "dl"
  refine g_iff' (by simp) ?_
  walk_at "dl"
  refine ixq_lst atI1 ?_
  walk_at "dl"
  refine isS_len (.lst _) ?_
  rw [List.length_map]
  walk_at "dl"
  have hrng : rng 0 (ch.length : Int).toNat = (List.range ch.length).map fun (i : Nat) => D.int (i : Int) := by
    unfold rng
    rw [Int.toNat_natCast]
    exact List.map_congr_left fun i _ => by rw [Int.zero_add]
  rw [hrng]
  let P : Nat → Rho → Mem → Prop := fun i ρ M' => (∃ x6 x7, ρ = [some (.lst (rs.map kdL)), some (.str f), some (.lst [.str k.n, .lst (ch.map fun t => t.l)]), some (.lst ([k].map kdL)), none, some (.int ((1 + szsN (ch.take i) : Nat) : Int)), x6, x7]) ∧ M' = M
  refine ⟨by omega, by omega, goF_inv P (fun _ _ _ _ => trivial) (fun i d ρ M5 hd' hP go hgo => ?_) (fun ρ M5 hP => ?_) ⟨⟨none, none, by rw [List.take_zero, szsN]; rfl⟩, rfl⟩⟩
  · obtain ⟨⟨x6, x7, rfl⟩, rfl⟩ := hP
    rw [List.getElem?_map] at hd'
    cases ei : (List.range ch.length)[i]? with
    | none => rw [ei] at hd'; cases hd'
    | some i' =>
    rw [ei] at hd'
    cases hd'
    obtain ⟨hi, h2⟩ := List.getElem?_eq_some_iff.mp ei
    rw [List.getElem_range] at h2
    subst h2
    rw [List.length_range] at hi
    have hi2 : i < k.ch.length := by rw [← hch, List.length_map]; exact hi
    have ht : ch[i] ∈ ch := List.getElem_mem hi
    have hdt := dp_mem ht
    have ef : k.ch[i] = ch[i].kd.f := by
      have : (ch.map fun t => t.kd.f)[i]? = k.ch[i]? := by rw [hch]
      rw [List.getElem?_map, List.getElem?_eq_getElem hi, List.getElem?_eq_getElem hi2] at this
      exact (Option.some.inj this).symm
    have et : szsN (ch.take (i + 1)) = szsN (ch.take i) + ch[i].sz := by
      rw [szsN_sum, szsN_sum, List.take_add_one, List.getElem?_eq_getElem hi, List.map_append, List.sum_append]
      simp
    have hle : szsN (ch.take (i + 1)) ≤ szsN ch := by
      rw [szsN_sum, szsN_sum]
      conv => rhs; rw [← List.take_append_drop (i + 1) ch]
      rw [List.map_append, List.sum_append]
      omega
    have pos := sz_pos ch[i]
    walk_at "dl"
    refine ixq_lst atI0 ?_
    walk_at "dl"
    refine ixt2 ?_
    walk_at "dl"
    refine ix_map .str hi2 ?_
    walk_at "dl"
    refine ixq_lst atI1 ?_
    walk_at "dl"
    refine ix_map Nt.l hi ?_
    cases n with
    | zero =>
      have := dp_pos ch[i]
      omega
    | succ n =>
    walk_at "dl"
    refine ⟨rs, k.ch[i], ch[i], rfl, hrl, hnd, (oksN_iff ch).mp oks _ ht, ef.symm, h3, by omega, by omega, ⟨_, _, .refl, ?_⟩⟩
    walk_at "dl"
    refine g_iff' (by have : ¬ ch[i].sz = 0 := by omega
                      simp [this]) ?_
    walk_at "dl"
    refine hgo _ _ ⟨⟨some (.int (i : Nat)), some (.int (ch[i].sz : Nat)), ?_⟩, rfl⟩
    rw [et, show (((1 + (szsN (ch.take i) + ch[i].sz) : Nat)) : Int) = ((1 + szsN (ch.take i) : Nat) : Int) + (ch[i].sz : Nat) by omega]
    rfl
  · obtain ⟨⟨x6, x7, rfl⟩, rfl⟩ := hP
    rw [List.length_map, List.length_range, List.take_length]
    walk_at "dl"
    exact ⟨_, _, .refl, kQ⟩
end
end DL
namespace DL
variable [Wd]
open PySem L2 PySem.Spec PyProof.Rows
section
variable {M : Mem} {K : PySem.W.Frag} {ds : List D} {Qd : D → Mem → Prop} {Ed : XD}
/-! ### the least sizes, by depth -/
/-- a table of sizes: true ones, and the least ones of the families that k rounds settle -/
structure Sized (rs : List Kd) (fs : List Str) (k : Nat) (S : Tab) : Prop where
  len : S.length ≤ fs.length
  so : ∀ f n, getN S f = some n → Tr rs f n
  co : ∀ f ∈ fs, Dp rs k f → ∃ m, LF rs f m ∧ getN S f = some m
/-- while a round goes on: the first i families are done -/
structure Sizing (rs : List Kd) (fs : List Str) (k i : Nat) (G : Tab) : Prop where
  len : G.length ≤ i
  so : ∀ f n, getN G f = some n → Tr rs f n
  co : ∀ f ∈ fs.take i, Dp rs (k + 1) f → ∃ m, LF rs f m ∧ getN G f = some m
def knownK (S : Tab) (f : Str) (r : Kd) : Bool := decide (r.f = f) && allL S r.ch
theorem sized_least {rs : List Kd} {fs : List Str} {k : Nat} {S : Tab} (h : Sized rs fs k S) (ht : ∀ f ∈ fs, ∃ m, Tr rs f m) (hc : ∀ r ∈ rs, ∀ c ∈ r.ch, c ∈ fs) {f : Str} (hf : f ∈ fs) (hd : Dp rs (k + 1) f) :
    ∃ m, LF rs f m ∧ ∃ r ∈ rs, knownK S f r = true ∧ m = 1 + sumL S r.ch := by
  obtain ⟨m', hm'⟩ := ht f hf
  obtain ⟨m, hm⟩ := tr_nat hm'
  obtain ⟨r, hr, e, fw⟩ := hm.kind
  have dc := hd r hr e ⟨m, hm, fw⟩
  have each : ∀ c ∈ r.ch, ∃ n, LF rs c n ∧ getN S c = some n := fun c hcm => h.co c (hc r hr c hcm) (dc c hcm)
  refine ⟨m, hm, r, hr, ?_, ?_⟩
  · unfold knownK
    rw [decide_eq_true e, Bool.true_and]
    exact List.all_eq_true.mpr fun c hcm => by
      obtain ⟨n, _, en⟩ := each c hcm
      rw [en]
      rfl
  · have := fewest_sum (ts := r.ch.map fun c => (c, (getN S c).getD 0)) fw (by rw [List.map_map]; exact List.map_id _) fun p hp => by
      obtain ⟨c, hcm, rfl⟩ := List.mem_map.mp hp
      obtain ⟨n, ln, en⟩ := each c hcm
      show LF rs c ((getN S c).getD 0)
      rw [en]
      exact ln
    rw [List.map_map] at this
    unfold sumL
    rw [this]
    exact Nat.add_comm _ _
theorem known_tr {rs : List Kd} {fs : List Str} {k : Nat} {S : Tab} (h : Sized rs fs k S) {f : Str} {r : Kd} (hr : r ∈ rs) (e : knownK S f r = true) : Tr rs f (1 + sumL S r.ch) := by
  unfold knownK at e
  rw [Bool.and_eq_true, decide_eq_true_eq] at e
  rw [← e.1, Nat.add_comm]
  exact .mk hr (Trs.sum h.so e.2)
def dByDepth (K : PySem.W.Frag) : DS := sSeq (sAsg (dDic) (gNm 3)) (sSeq (sFor (iRg1 (dCons (dVar 2) (dNil))) (gNm 4) (sSeq (sAsg (dDic) (gNm 5)) (sSeq (sFor (iAny (dVar 1)) (gNm 6) (sSeq (sAsg (dLc (iAny (dVar 0)) (.nm 8) (dAnd (dB (dOp rEq (dOp rIx (dVar 8) (dC (.int 1))) (dVar 6))) (dB (dCB rAll (dCons (dLc (iAny (dOp rIx (dVar 8) (dC (.int 2)))) (.nm 9) (dYes) (dOp rIn (dVar 9) (dVar 3)) [9]) (dNil))))) (dVar 8) [8]) (gNm 7)) (sSeq (sAsg (dLc (iAny (dVar 7)) (.nm 8) (dYes) (dOp rAdd (dC (.int 1)) (dCB rInt (dCons (dCB rSum (dCons (dLc (iAny (dOp rIx (dVar 8) (dC (.int 2)))) (.nm 9) (dYes) (dOp rIx (dVar 3) (dVar 9)) [9]) (dNil))) (dNil)))) [8]) (gNm 10)) (sIf (dB (dOp rGt (dCB rLen (dCons (dVar 10) (dNil))) (dC (.int 0)))) (sAsg (dCB rMin (dCons (dLc (iAny (dVar 10)) (.nm 11) (dYes) (dCB rInt (dCons (dVar 11) (dNil))) [11]) (dNil))) (gSub (dVar 5) (dVar 6))) (sNext))))) (sAsg (dVar 5) (gNm 3))))) (sRet (dZK K (dVar 3))))
def spByDepth : SpD := fun ds M Q _ => ∃ (rs : List Kd) (fs : List Str) (n : Nat), ds = [.lst (rs.map kdL), .lst (fs.map .str), .int (n : Nat)] ∧ rs.length ≤ 1000 ∧ (∀ r ∈ rs, r.ch.length ≤ 1000) ∧ fs.length ≤ 1000 ∧ n ≤ 1000 ∧ (∀ f ∈ fs, ∃ m, Tr rs f m) ∧ (∀ r ∈ rs, ∀ c ∈ r.ch, c ∈ fs) ∧ Nd M ∧ ∀ S M', Sized rs fs n S → Nd M' → Fr [] M M' → Q (.dic (emb S)) M'
theorem pureByDepth {y0 y1 y2 y3 y4 y5 y6 y7 y8 y9 y10 y11 : Str} (h : spByDepth ds M Qd Ed) : dByDepth K (fun _ M' => Qd .non M') Qd (fun _ _ => False) (fun _ _ => False) (fun C dd _ M' => Ed C dd M') (start0 [y0, y1, y2, y3, y4, y5, y6, y7, y8, y9, y10, y11] ds) M := by
  obtain ⟨rs, fs, n, rfl, hrl, hch, hfl, hn, ht, hc, nd, kQ⟩ := h
  unfold dByDepth
  walk_at "dl"
  refine .inl (.inr fun h hh => ?_)
  walk_at "dl"
  refine ⟨by omega, by omega, ?_⟩
  let P : Nat → Rho → Mem → Prop := fun k ρ M' => ∃ q S, (∃ x4 x5 x6 x7 x10, ρ = [some (.lst (rs.map kdL)), some (.lst (fs.map .str)), some (.int (n : Nat)), some (.ptr q), x4, x5, x6, x7, none, none, x10, none]) ∧ (q, MO.dic (emb S)) ∈ M' ∧ Free q M ∧ Sized rs fs k S ∧ Nd M' ∧ Fr [] M M'
  refine goF_inv P (fun _ _ _ _ => trivial) (fun k d ρ M1 hd hP go hgo => ?_) (fun ρ M1 hP => ?_) ⟨h, [], ⟨_, _, _, _, _, rfl⟩, List.mem_cons_self, hh, ⟨Nat.zero_le _, (fun f n e => by cases e), fun f _ z => z.elim⟩, nd_new hh nd, Fr.refl.cons⟩
  · obtain ⟨q, S, ⟨x4, x5, x6, x7, x10, rfl⟩, hq, hqf, hS, nd1, f1⟩ := hP
    walk_at "dl"
    refine .inl (.inr fun w hw => ?_)
    have hqw : q ≠ w := ne_free hw hq
    have hwM : Free w M := fun m h => hw m (f1 w m (by simp) h)
    walk_at "dl"
    refine ⟨_, _, .lst (.lst _), ?_⟩
    let P2 : Nat → Rho → Mem → Prop := fun i ρ M' => ∃ G, (∃ x6 x7 x10, ρ = [some (.lst (rs.map kdL)), some (.lst (fs.map .str)), some (.int (n : Nat)), some (.ptr q), some d, some (.ptr w), x6, x7, none, none, x10, none]) ∧ (q, MO.dic (emb S)) ∈ M' ∧ (w, MO.dic (emb G)) ∈ M' ∧ Sizing rs fs k i G ∧ Nd M' ∧ Fr [] M M'
    refine goF_inv P2 (fun _ _ _ _ => trivial) (fun i d2 ρ M2 hd2 hP go2 hgo2 => ?_) (fun ρ M2 hP => ?_) ⟨[], ⟨_, _, _, rfl⟩, List.mem_cons_of_mem _ hq, List.mem_cons_self, ⟨Nat.zero_le _, (fun f n e => by cases e), fun f z => nomatch z⟩, nd_new hw nd1, f1.trans Fr.refl.cons⟩
    · obtain ⟨G, ⟨x6, x7, x10, rfl⟩, hq2, hw2, hG, nd2, f2⟩ := hP
      rw [List.getElem?_map] at hd2
      cases ej : fs[i]? with
      | none => rw [ej] at hd2; cases hd2
      | some f =>
      rw [ej] at hd2
      cases hd2
      have hf := List.mem_of_getElem? ej
      have hi := (List.getElem?_eq_some_iff.mp ej).1
      have htk : fs.take (i + 1) = fs.take i ++ [f] := by rw [List.take_add_one, ej]; rfl
      walk_at "dl"
      refine ⟨_, _, .lst (.lst _), lt_line (by rw [List.length_map]; omega), lc_if kdL kdL (knownK S f) trivial (fun r hr P h => ?_) (fun r _ _ P1 h1 => ?_) (.inl ?_)⟩
      · have := hch r hr
        walk_at "dl"
        refine ixt1 ?_
        walk_at "dl"
        unfold knownK at h
        by_cases e : r.f = f
        case neg =>
          rw [decide_eq_false e, Bool.false_and] at h
          refine g_iff' (by simp [e]) ?_
          exact h
        rw [decide_eq_true e, Bool.true_and] at h
        refine g_ift (by simp [e]) ?_
        walk_at "dl"
        refine ixt2 ?_
        refine ⟨_, _, .lst (.lst _), lt_line (by rw [List.length_map]; omega), lc_map .str (fun c => .bl (getN S c).isSome) trivial (fun c _ P1 h1 => ?_) (.inl ?_)⟩
        · walk_at "dl"
          exact in_tab hq2 h1
        walk_at "dl"
        refine .lst (bs := r.ch.map fun c => (getN S c).isSome) (by rw [List.map_map]; exact .lst _) ?_
        simp only [if_true, all_is]
        exact ⟨_, rfl, h⟩
      · walk_at "dl"
        exact h1
      have hkl : (rs.filter (knownK S f)).length ≤ 1000 := Nat.le_trans (List.length_filter_le _ _) hrl
      have hkm : ∀ r ∈ rs.filter (knownK S f), r ∈ rs ∧ knownK S f r = true := fun r hr => List.mem_filter.mp hr
      walk_at "dl"
      refine ⟨_, _, .lst (.lst _), lt_line (by rw [List.length_map]; omega), lc_map kdL (fun r => .int ((1 + sumL S r.ch : Nat) : Int)) trivial (fun r hr P1 h1 => ?_) (.inl ?_)⟩
      · have := hch r (hkm r hr).1
        have ha : allL S r.ch = true := by
          have := (hkm r hr).2
          unfold knownK at this
          rw [Bool.and_eq_true] at this
          exact this.2
        walk_at "dl"
        refine ixt2 ?_
        refine ⟨_, _, .lst (.lst _), lt_line (by rw [List.length_map]; omega), lc_map .str (fun c => .int (((getN S c).getD 0 : Nat))) trivial (fun c hcc P1 h1 => ?_) (.inl ?_)⟩
        · walk_at "dl"
          have hcs : (getN S c).isSome = true := List.all_eq_true.mp ha c hcc
          cases e : getN S c with
          | none => rw [e] at hcs; cases hcs
          | some n =>
            rw [e] at h1
            exact ix_tab hq2 e h1
        walk_at "dl"
        refine .lst (ns := r.ch.map fun c => (((getN S c).getD 0 : Nat) : Int)) (by rw [List.map_map]; exact .lst _) ?_
        rw [sum_cast]
        walk_at "dl"
        rw [show (1 : Int) + ((sumL S r.ch : Nat) : Int) = ((1 + sumL S r.ch : Nat) : Int) by omega]
        exact h1
      walk_at "dl"
      refine isS_len (.lst _) ?_
      rw [List.length_map]
      walk_at "dl"
      by_cases hz : 0 < (rs.filter (knownK S f)).length
      case neg =>
        refine g_iff' (decide_eq_false (by omega)) ?_
        refine hgo2 _ _ ⟨G, ⟨_, _, _, rfl⟩, hq2, hw2, ⟨Nat.le_succ_of_le hG.len, hG.so, fun g hg hd => ?_⟩, nd2, f2⟩
        rw [htk] at hg
        rcases List.mem_append.mp hg with hg | hg
        · exact hG.co g hg hd
        · rw [List.mem_singleton.mp hg] at hd
          obtain ⟨m, _, r, hr, e, _⟩ := sized_least hS ht hc hf hd
          exact absurd (List.length_pos_of_mem (List.mem_filter.mpr ⟨hr, e⟩)) hz
      refine g_ift (decide_eq_true (by omega)) ?_
      walk_at "dl"
      refine ⟨_, _, .lst (.lst _), lt_line (by rw [List.length_map]; omega), lc_map (fun r : Kd => .int ((1 + sumL S r.ch : Nat) : Int)) (fun r : Kd => .int ((1 + sumL S r.ch : Nat) : Int)) trivial (fun r hr P1 h1 => ?_) (.inl ?_)⟩
      · walk_at "dl"
        exact h1
      walk_at "dl"
      refine .lst (ns := (rs.filter (knownK S f)).map fun r => ((1 + sumL S r.ch : Nat) : Int)) (by rw [List.map_map]; exact .lst _) (by rw [List.length_map]; exact hz) fun m hm hmin => ?_
      obtain ⟨r, hr, rfl⟩ := List.mem_map.mp hm
      have tz := known_tr hS (hkm r hr).1 (hkm r hr).2
      obtain ⟨M3, U3⟩ := upd_ex (n := .dic (putD (emb G) (.inr f) (.int ((1 + sumL S r.ch : Nat) : Int)))) nd2 hw2
      walk_at "dl"
      refine SetQ.dic (k := .inr f) U3.up (lt_line (by unfold emb; rw [List.length_map]; have := hG.len; omega)) ?_
      have at3 := U3.at_
      rw [put_emb] at at3
      refine hgo2 _ _ ⟨putN G f (1 + sumL S r.ch), ⟨_, _, _, rfl⟩, U3.fr _ _ (not_mem1 hqw) hq2, at3, ⟨?_, fun g n e => ?_, fun g hg hd => ?_⟩, U3.nd, fun a m _ ha => U3.fr a m (not_mem1 (ne_free hwM ha)) (f2 a m (by simp) ha)⟩
      · have := hG.len
        rw [put_len]
        split <;> omega
      · rw [get_put] at e
        by_cases z : g = f
        · rw [if_pos z] at e
          cases e
          rw [z]
          exact tz
        · rw [if_neg z] at e
          exact hG.so g n e
      · rw [get_put]
        by_cases z : g = f
        · subst z
          rw [if_pos rfl]
          obtain ⟨m, lm, r', hr', e', em⟩ := sized_least hS ht hc hf hd
          have h1 := hmin ((1 + sumL S r'.ch : Nat) : Int) (List.mem_map.mpr ⟨r', List.mem_filter.mpr ⟨hr', e'⟩, rfl⟩)
          have h2 := lm.2 _ tz
          exact ⟨m, lm, by congr 1; omega⟩
        · rw [if_neg z]
          rw [htk] at hg
          rcases List.mem_append.mp hg with hg | hg
          · exact hG.co g hg hd
          · exact absurd (List.mem_singleton.mp hg) z
    · obtain ⟨G, ⟨x6, x7, x10, rfl⟩, hq2, hw2, hG, nd2, f2⟩ := hP
      rw [List.length_map] at hG
      walk_at "dl"
      refine hgo _ _ ⟨w, G, ⟨_, _, _, _, _, rfl⟩, hw2, hwM, ⟨hG.len, hG.so, fun f hf hd => hG.co f (by rw [List.take_length]; exact hf) hd⟩, nd2, f2⟩
  · obtain ⟨q, S, ⟨x4, x5, x6, x7, x10, rfl⟩, hq, hqf, hS, nd1, f1⟩ := hP
    rw [rng_len, Int.toNat_natCast] at hS
    obtain ⟨M2, U2⟩ := del_ex nd1 hq
    walk_at "dl"
    exact ⟨_, M2, .one U2.up rfl, kQ S M2 hS U2.nd fun a m _ ha => U2.fr a m (not_mem1 (ne_free hqf ha)) (f1 a m (by simp) ha)⟩
end
end DL
namespace Q
open PySem PySem.Spec PyProof.Rows L2 DL
variable [Wd]
def top (i : Nat) : Stmt := PySem.Challenge.pw_fusewalks_k03_least_sizes.main.body.getD i (.Pass ⟨0, 0, 0, 0⟩)
/-- where things stand -/
structure Ad where
  c_LimitExceeded : Addr
  c_UnknownName : Addr
  c_BadGrammar : Addr
  c_BadTree : Addr
  c_Tree : Addr
  c_Grammar : Addr
  f__in_order : Addr
  f__least_sizes : Addr
  f__law_source : Addr
  f__law_draw : Addr
  f__law_by_depth : Addr
  f__law_whole : Addr
  m_LimitExceeded___init__ : Addr
  m_UnknownName___init__ : Addr
  m_BadGrammar___init__ : Addr
  m_BadTree___init__ : Addr
  m_Tree___iter__ : Addr
  f__law_read_r4 : Addr
  f__law_count_r4 : Addr
  m_Tree_least_r4 : Addr
  f__law_names : Addr
  f__law_count_r3 : Addr
  f__check_fields : Addr
  f__check_kinds : Addr
  f__law_kinds : Addr
  m_Grammar_kinds_of : Addr
  m_Grammar__check_kind : Addr
  f__law_read_r3 : Addr
  f__law_count_r2 : Addr
  m_Grammar___init__ : Addr
  m_Grammar_family_of : Addr
  m_Grammar_children_of : Addr
  m_Grammar_kind_size : Addr
  m_Grammar_least_size : Addr
  f__law_read_r2 : Addr
  f__law_count_r1 : Addr
  f__law_count : Addr
  m_Tree___init__ : Addr
  f__law_read_r1 : Addr
  f__law_read : Addr
  m_Tree_least_r3 : Addr
  m_Tree_least_r2 : Addr
  m_Tree_least_r1 : Addr
  m_Tree_least : Addr
  f__law_sized : Addr
  f__law_stranger : Addr
  f_law : Addr
  q_Tree_least_r4 : Addr
  q_Tree_least_r3 : Addr
  q_Tree_least_r2 : Addr
  q_Tree_least_r1 : Addr
  q_Tree_least : Addr
abbrev s__in_order : Stmt := top 9
abbrev N__in_order : List Str := ["names", "name"]
theorem sc__in_order : FnScope N__in_order ["names"] (defScope s__in_order) := ⟨rfl, rfl, rfl, by decide +kernel, rfl, by decide +kernel, by decide +kernel⟩
abbrev s__least_sizes : Stmt := top 12
abbrev N__least_sizes : List Str := ["rows", "sizes", "least", "changed", "name", "family", "children", "child", "size"]
theorem sc__least_sizes : FnScope N__least_sizes ["rows"] (defScope s__least_sizes) := ⟨rfl, rfl, rfl, by decide +kernel, rfl, by decide +kernel, by decide +kernel⟩
abbrev s__law_source : Stmt := top 16
abbrev N__law_source : List Str := ["_law_script", "_law_cells", "_law_cell"]
theorem sc__law_source : FnScope N__law_source ["_law_script"] (defScope s__law_source) := ⟨rfl, rfl, rfl, by decide +kernel, rfl, by decide +kernel, by decide +kernel⟩
abbrev s__law_draw : Stmt := top 17
abbrev N__law_draw : List Str := ["_law_source_here", "_law_many", "_law_cells", "_law_at", "_law_number", "_law_mixed"]
theorem sc__law_draw : FnScope N__law_draw ["_law_source_here", "_law_many"] (defScope s__law_draw) := ⟨rfl, rfl, rfl, by decide +kernel, rfl, by decide +kernel, by decide +kernel⟩
abbrev s__law_by_depth : Stmt := top 21
abbrev N__law_by_depth : List Str := ["_law_kinds_here", "_law_families", "_law_depth", "_law_sizes", "_law_n", "_law_grown", "_law_family", "_law_known", "_law_kind", "_law_name", "_law_counts", "_law_count_here"]
theorem sc__law_by_depth : FnScope N__law_by_depth ["_law_kinds_here", "_law_families", "_law_depth"] (defScope s__law_by_depth) := ⟨rfl, rfl, rfl, by decide +kernel, rfl, by decide +kernel, by decide +kernel⟩
abbrev s__law_whole : Stmt := top 23
abbrev N__law_whole : List Str := ["_law_actual", "_law_due"]
theorem sc__law_whole : FnScope N__law_whole ["_law_actual", "_law_due"] (defScope s__law_whole) := ⟨rfl, rfl, rfl, by decide +kernel, rfl, by decide +kernel, by decide +kernel⟩
abbrev s_LimitExceeded___init__ : Stmt := inClass (top 3) 0
abbrev N_LimitExceeded___init__ : List Str := ["self", "limit"]
theorem sc_LimitExceeded___init__ : FnScope N_LimitExceeded___init__ ["self", "limit"] (defScope s_LimitExceeded___init__) := ⟨rfl, rfl, rfl, by decide +kernel, rfl, by decide +kernel, by decide +kernel⟩
abbrev s_UnknownName___init__ : Stmt := inClass (top 4) 0
abbrev N_UnknownName___init__ : List Str := ["self", "name"]
theorem sc_UnknownName___init__ : FnScope N_UnknownName___init__ ["self", "name"] (defScope s_UnknownName___init__) := ⟨rfl, rfl, rfl, by decide +kernel, rfl, by decide +kernel, by decide +kernel⟩
abbrev s_BadGrammar___init__ : Stmt := inClass (top 5) 0
abbrev N_BadGrammar___init__ : List Str := ["self", "part"]
theorem sc_BadGrammar___init__ : FnScope N_BadGrammar___init__ ["self", "part"] (defScope s_BadGrammar___init__) := ⟨rfl, rfl, rfl, by decide +kernel, rfl, by decide +kernel, by decide +kernel⟩
abbrev s_BadTree___init__ : Stmt := inClass (top 6) 0
abbrev N_BadTree___init__ : List Str := ["self", "path"]
theorem sc_BadTree___init__ : FnScope N_BadTree___init__ ["self", "path"] (defScope s_BadTree___init__) := ⟨rfl, rfl, rfl, by decide +kernel, rfl, by decide +kernel, by decide +kernel⟩
abbrev s_Tree___iter__ : Stmt := inClass (top 14) 3
abbrev N_Tree___iter__ : List Str := ["self"]
theorem sc_Tree___iter__ : FnScope N_Tree___iter__ ["self"] (defScope s_Tree___iter__) := ⟨rfl, rfl, rfl, by decide +kernel, rfl, by decide +kernel, by decide +kernel⟩
abbrev s__law_read_r4 : Stmt := top 20
abbrev N__law_read_r4 : List Str := ["_law_tree", "_law_child"]
theorem sc__law_read_r4 : FnScope N__law_read_r4 ["_law_tree"] (defScope s__law_read_r4) := ⟨rfl, rfl, rfl, by decide +kernel, rfl, by decide +kernel, by decide +kernel⟩
abbrev s__law_count_r4 : Stmt := top 22
abbrev N__law_count_r4 : List Str := ["_law_kinds_here", "_law_family", "_law_node", "_law_rows", "_law_kind", "_law_total", "_law_k", "_law_size"]
theorem sc__law_count_r4 : FnScope N__law_count_r4 ["_law_kinds_here", "_law_family", "_law_node"] (defScope s__law_count_r4) := ⟨rfl, rfl, rfl, by decide +kernel, rfl, by decide +kernel, by decide +kernel⟩
abbrev s_Tree_least_r4 : Stmt := inClass (top 14) 8
abbrev N_Tree_least_r4 : List Str := ["grammar", "family", "size", "smallest", "kind", "children", "child"]
theorem sc_Tree_least_r4 : FnScope N_Tree_least_r4 ["grammar", "family"] (defScope s_Tree_least_r4) := ⟨rfl, rfl, rfl, by decide +kernel, rfl, by decide +kernel, by decide +kernel⟩
abbrev s__law_names : Stmt := top 18
abbrev N__law_names : List Str := ["_law_source_here", "_law_count_here", "_law_letters", "_law_ahead", "_law_behind", "_law_uneven", "_law_first", "_law_fill", "_law_k"]
theorem sc__law_names : FnScope N__law_names ["_law_source_here", "_law_count_here"] (defScope s__law_names) := ⟨rfl, rfl, rfl, by decide +kernel, rfl, by decide +kernel, by decide +kernel⟩
abbrev s__law_count_r3 : Stmt := top 22
abbrev N__law_count_r3 : List Str := ["_law_kinds_here", "_law_family", "_law_node", "_law_rows", "_law_kind", "_law_total", "_law_k", "_law_size"]
theorem sc__law_count_r3 : FnScope N__law_count_r3 ["_law_kinds_here", "_law_family", "_law_node"] (defScope s__law_count_r3) := ⟨rfl, rfl, rfl, by decide +kernel, rfl, by decide +kernel, by decide +kernel⟩
abbrev s__check_fields : Stmt := top 10
abbrev N__check_fields : List Str := ["fields"]
theorem sc__check_fields : FnScope N__check_fields ["fields"] (defScope s__check_fields) := ⟨rfl, rfl, rfl, by decide +kernel, rfl, by decide +kernel, by decide +kernel⟩
abbrev s__check_kinds : Stmt := top 11
abbrev N__check_kinds : List Str := ["rows", "families", "row", "child"]
theorem sc__check_kinds : FnScope N__check_kinds ["rows", "families"] (defScope s__check_kinds) := ⟨rfl, rfl, rfl, by decide +kernel, rfl, by decide +kernel, by decide +kernel⟩
abbrev s__law_kinds : Stmt := top 19
abbrev N__law_kinds : List Str := ["_law_source_here", "_law_families", "_law_extra", "_law_width", "_law_count_here", "_law_names_here", "_law_kinds_here", "_law_k", "_law_family", "_law_known", "_law_children", "_law_n", "_law_cut"]
theorem sc__law_kinds : FnScope N__law_kinds ["_law_source_here", "_law_families", "_law_extra", "_law_width"] (defScope s__law_kinds) := ⟨rfl, rfl, rfl, by decide +kernel, rfl, by decide +kernel, by decide +kernel⟩
abbrev s_Grammar_kinds_of : Stmt := inClass (top 8) 8
abbrev N_Grammar_kinds_of : List Str := ["self", "family", "kind"]
theorem sc_Grammar_kinds_of : FnScope N_Grammar_kinds_of ["self", "family"] (defScope s_Grammar_kinds_of) := ⟨rfl, rfl, rfl, by decide +kernel, rfl, by decide +kernel, by decide +kernel⟩
abbrev s_Grammar__check_kind : Stmt := inClass (top 8) 10
abbrev N_Grammar__check_kind : List Str := ["self", "kind"]
theorem sc_Grammar__check_kind : FnScope N_Grammar__check_kind ["self", "kind"] (defScope s_Grammar__check_kind) := ⟨rfl, rfl, rfl, by decide +kernel, rfl, by decide +kernel, by decide +kernel⟩
abbrev s__law_read_r3 : Stmt := top 20
abbrev N__law_read_r3 : List Str := ["_law_tree", "_law_child"]
theorem sc__law_read_r3 : FnScope N__law_read_r3 ["_law_tree"] (defScope s__law_read_r3) := ⟨rfl, rfl, rfl, by decide +kernel, rfl, by decide +kernel, by decide +kernel⟩
abbrev s__law_count_r2 : Stmt := top 22
abbrev N__law_count_r2 : List Str := ["_law_kinds_here", "_law_family", "_law_node", "_law_rows", "_law_kind", "_law_total", "_law_k", "_law_size"]
theorem sc__law_count_r2 : FnScope N__law_count_r2 ["_law_kinds_here", "_law_family", "_law_node"] (defScope s__law_count_r2) := ⟨rfl, rfl, rfl, by decide +kernel, rfl, by decide +kernel, by decide +kernel⟩
abbrev s_Grammar___init__ : Stmt := inClass (top 8) 4
abbrev N_Grammar___init__ : List Str := ["self", "fields", "kinds", "root", "rows", "name", "family", "children", "families", "row", "sizes"]
theorem sc_Grammar___init__ : FnScope N_Grammar___init__ ["self", "fields", "kinds", "root"] (defScope s_Grammar___init__) := ⟨rfl, rfl, rfl, by decide +kernel, rfl, by decide +kernel, by decide +kernel⟩
abbrev s_Grammar_family_of : Stmt := inClass (top 8) 5
abbrev N_Grammar_family_of : List Str := ["self", "kind"]
theorem sc_Grammar_family_of : FnScope N_Grammar_family_of ["self", "kind"] (defScope s_Grammar_family_of) := ⟨rfl, rfl, rfl, by decide +kernel, rfl, by decide +kernel, by decide +kernel⟩
abbrev s_Grammar_children_of : Stmt := inClass (top 8) 6
abbrev N_Grammar_children_of : List Str := ["self", "kind"]
theorem sc_Grammar_children_of : FnScope N_Grammar_children_of ["self", "kind"] (defScope s_Grammar_children_of) := ⟨rfl, rfl, rfl, by decide +kernel, rfl, by decide +kernel, by decide +kernel⟩
abbrev s_Grammar_kind_size : Stmt := inClass (top 8) 7
abbrev N_Grammar_kind_size : List Str := ["self", "kind"]
theorem sc_Grammar_kind_size : FnScope N_Grammar_kind_size ["self", "kind"] (defScope s_Grammar_kind_size) := ⟨rfl, rfl, rfl, by decide +kernel, rfl, by decide +kernel, by decide +kernel⟩
abbrev s_Grammar_least_size : Stmt := inClass (top 8) 9
abbrev N_Grammar_least_size : List Str := ["self", "family", "kind"]
theorem sc_Grammar_least_size : FnScope N_Grammar_least_size ["self", "family"] (defScope s_Grammar_least_size) := ⟨rfl, rfl, rfl, by decide +kernel, rfl, by decide +kernel, by decide +kernel⟩
abbrev s__law_read_r2 : Stmt := top 20
abbrev N__law_read_r2 : List Str := ["_law_tree", "_law_child"]
theorem sc__law_read_r2 : FnScope N__law_read_r2 ["_law_tree"] (defScope s__law_read_r2) := ⟨rfl, rfl, rfl, by decide +kernel, rfl, by decide +kernel, by decide +kernel⟩
abbrev s__law_count_r1 : Stmt := top 22
abbrev N__law_count_r1 : List Str := ["_law_kinds_here", "_law_family", "_law_node", "_law_rows", "_law_kind", "_law_total", "_law_k", "_law_size"]
theorem sc__law_count_r1 : FnScope N__law_count_r1 ["_law_kinds_here", "_law_family", "_law_node"] (defScope s__law_count_r1) := ⟨rfl, rfl, rfl, by decide +kernel, rfl, by decide +kernel, by decide +kernel⟩
abbrev s__law_count : Stmt := top 22
abbrev N__law_count : List Str := ["_law_kinds_here", "_law_family", "_law_node", "_law_rows", "_law_kind", "_law_total", "_law_k", "_law_size"]
theorem sc__law_count : FnScope N__law_count ["_law_kinds_here", "_law_family", "_law_node"] (defScope s__law_count) := ⟨rfl, rfl, rfl, by decide +kernel, rfl, by decide +kernel, by decide +kernel⟩
abbrev s_Tree___init__ : Stmt := inClass (top 14) 2
abbrev N_Tree___init__ : List Str := ["self", "grammar", "kind", "children", "families", "number", "child"]
theorem sc_Tree___init__ : FnScope N_Tree___init__ ["self", "grammar", "kind", "children"] (defScope s_Tree___init__) := ⟨rfl, rfl, rfl, by decide +kernel, rfl, by decide +kernel, by decide +kernel⟩
abbrev s__law_read_r1 : Stmt := top 20
abbrev N__law_read_r1 : List Str := ["_law_tree", "_law_child"]
theorem sc__law_read_r1 : FnScope N__law_read_r1 ["_law_tree"] (defScope s__law_read_r1) := ⟨rfl, rfl, rfl, by decide +kernel, rfl, by decide +kernel, by decide +kernel⟩
abbrev s__law_read : Stmt := top 20
abbrev N__law_read : List Str := ["_law_tree", "_law_child"]
theorem sc__law_read : FnScope N__law_read ["_law_tree"] (defScope s__law_read) := ⟨rfl, rfl, rfl, by decide +kernel, rfl, by decide +kernel, by decide +kernel⟩
abbrev s_Tree_least_r3 : Stmt := inClass (top 14) 8
abbrev N_Tree_least_r3 : List Str := ["grammar", "family", "size", "smallest", "kind", "children", "child"]
theorem sc_Tree_least_r3 : FnScope N_Tree_least_r3 ["grammar", "family"] (defScope s_Tree_least_r3) := ⟨rfl, rfl, rfl, by decide +kernel, rfl, by decide +kernel, by decide +kernel⟩
abbrev s_Tree_least_r2 : Stmt := inClass (top 14) 8
abbrev N_Tree_least_r2 : List Str := ["grammar", "family", "size", "smallest", "kind", "children", "child"]
theorem sc_Tree_least_r2 : FnScope N_Tree_least_r2 ["grammar", "family"] (defScope s_Tree_least_r2) := ⟨rfl, rfl, rfl, by decide +kernel, rfl, by decide +kernel, by decide +kernel⟩
abbrev s_Tree_least_r1 : Stmt := inClass (top 14) 8
abbrev N_Tree_least_r1 : List Str := ["grammar", "family", "size", "smallest", "kind", "children", "child"]
theorem sc_Tree_least_r1 : FnScope N_Tree_least_r1 ["grammar", "family"] (defScope s_Tree_least_r1) := ⟨rfl, rfl, rfl, by decide +kernel, rfl, by decide +kernel, by decide +kernel⟩
abbrev s_Tree_least : Stmt := inClass (top 14) 8
abbrev N_Tree_least : List Str := ["grammar", "family", "size", "smallest", "kind", "children", "child"]
theorem sc_Tree_least : FnScope N_Tree_least ["grammar", "family"] (defScope s_Tree_least) := ⟨rfl, rfl, rfl, by decide +kernel, rfl, by decide +kernel, by decide +kernel⟩
abbrev s__law_sized : Stmt := top 24
abbrev N__law_sized : List Str := ["_law_grammar", "_law_kinds_here", "_law_families", "_law_sizes", "_law_kind", "_law_name", "_law_family", "_law_tree"]
theorem sc__law_sized : FnScope N__law_sized ["_law_grammar", "_law_kinds_here", "_law_families", "_law_sizes"] (defScope s__law_sized) := ⟨rfl, rfl, rfl, by decide +kernel, rfl, by decide +kernel, by decide +kernel⟩
abbrev s__law_stranger : Stmt := top 25
abbrev N__law_stranger : List Str := ["_law_grammar", "e"]
theorem sc__law_stranger : FnScope N__law_stranger ["_law_grammar"] (defScope s__law_stranger) := ⟨rfl, rfl, rfl, by decide +kernel, rfl, by decide +kernel, by decide +kernel⟩
abbrev s_law : Stmt := top 26
abbrev N_law : List Str := ["_law_script", "_law_source_here", "_law_families", "_law_kinds_here", "_law_grammar", "_law_kind", "_law_sizes"]
theorem sc_law : FnScope N_law ["_law_script"] (defScope s_law) := ⟨rfl, rfl, rfl, by decide +kernel, rfl, by decide +kernel, by decide +kernel⟩
/-! ### the promises -/
def sd__in_order (K : PySem.W.Frag) (A : Ad) : SpD := spOrder
def sd__least_sizes (K : PySem.W.Frag) (A : Ad) : SpD := spLeast
def sd__law_source (K : PySem.W.Frag) (A : Ad) : SpD := spSource
def sd__law_draw (K : PySem.W.Frag) (A : Ad) : SpD := spDraw
def sd__law_by_depth (K : PySem.W.Frag) (A : Ad) : SpD := spByDepth
def sd_LimitExceeded___init__ (K : PySem.W.Frag) (A : Ad) : SpD := spErr A.c_LimitExceeded "limit"
def sd_UnknownName___init__ (K : PySem.W.Frag) (A : Ad) : SpD := spErr A.c_UnknownName "name"
def sd_BadGrammar___init__ (K : PySem.W.Frag) (A : Ad) : SpD := spErr A.c_BadGrammar "part"
def sd_BadTree___init__ (K : PySem.W.Frag) (A : Ad) : SpD := spErrT A.c_BadTree "path"

def sd__law_read_r4 (K : PySem.W.Frag) (A : Ad) : SpD := spReadT A.c_Tree 0
def sd__law_count_r4 (K : PySem.W.Frag) (A : Ad) : SpD := spCountT 0
def sd_Tree_least_r4 (K : PySem.W.Frag) (A : Ad) : SpD := spLeastT A.c_Tree A.c_Grammar A.c_UnknownName 0
def sd__law_names (K : PySem.W.Frag) (A : Ad) : SpD := spNames
def sd__law_count_r3 (K : PySem.W.Frag) (A : Ad) : SpD := spCountT 1
def sd__check_fields (K : PySem.W.Frag) (A : Ad) : SpD := spChkF A.c_LimitExceeded A.c_BadGrammar
def sd__check_kinds (K : PySem.W.Frag) (A : Ad) : SpD := spChkK A.c_LimitExceeded A.c_BadGrammar
def sd__law_kinds (K : PySem.W.Frag) (A : Ad) : SpD := spKinds
def sd_Grammar_kinds_of (K : PySem.W.Frag) (A : Ad) : SpD := spKindsOf A.c_Grammar A.c_UnknownName
def sd_Grammar__check_kind (K : PySem.W.Frag) (A : Ad) : SpD := spChk1 A.c_Grammar A.c_UnknownName
def sd__law_read_r3 (K : PySem.W.Frag) (A : Ad) : SpD := spReadT A.c_Tree 1
def sd__law_count_r2 (K : PySem.W.Frag) (A : Ad) : SpD := spCountT 2
def sdf_Grammar___init__ (K : PySem.W.Frag) (A : Ad) : SpD := spGram A.c_Grammar A.c_LimitExceeded A.c_BadGrammar
def sd_Grammar___init__ (K : PySem.W.Frag) (A : Ad) : SpD := SpD.dflt (sdf_Grammar___init__ K A) [.non]
def sd_Grammar_family_of (K : PySem.W.Frag) (A : Ad) : SpD := spKindQ A.c_Grammar A.c_UnknownName vFam
def sd_Grammar_children_of (K : PySem.W.Frag) (A : Ad) : SpD := spKindQ A.c_Grammar A.c_UnknownName vCh
def sd_Grammar_kind_size (K : PySem.W.Frag) (A : Ad) : SpD := spKindQ A.c_Grammar A.c_UnknownName vSz
def sd_Grammar_least_size (K : PySem.W.Frag) (A : Ad) : SpD := spLeastOf A.c_Grammar A.c_UnknownName
def sd__law_read_r2 (K : PySem.W.Frag) (A : Ad) : SpD := spReadT A.c_Tree 2
def sd__law_count_r1 (K : PySem.W.Frag) (A : Ad) : SpD := spCountT 3
def sd__law_count (K : PySem.W.Frag) (A : Ad) : SpD := spCountT 4
def sdx_Tree___init__ (K : PySem.W.Frag) (A : Ad) : SpD := spTree A.c_Tree A.c_Grammar A.c_UnknownName A.c_BadTree A.c_LimitExceeded
def sd_Tree___init__ (K : PySem.W.Frag) (A : Ad) : SpD := SpD.star 3 (sdx_Tree___init__ K A)
def sd__law_read_r1 (K : PySem.W.Frag) (A : Ad) : SpD := spReadT A.c_Tree 3
def sd__law_read (K : PySem.W.Frag) (A : Ad) : SpD := spReadT A.c_Tree 4
def sd_Tree_least_r3 (K : PySem.W.Frag) (A : Ad) : SpD := spLeastT A.c_Tree A.c_Grammar A.c_UnknownName 1
def sd_Tree_least_r2 (K : PySem.W.Frag) (A : Ad) : SpD := spLeastT A.c_Tree A.c_Grammar A.c_UnknownName 2
def sd_Tree_least_r1 (K : PySem.W.Frag) (A : Ad) : SpD := spLeastT A.c_Tree A.c_Grammar A.c_UnknownName 3
def sd_Tree_least (K : PySem.W.Frag) (A : Ad) : SpD := spLeastT A.c_Tree A.c_Grammar A.c_UnknownName 4
def sd__law_whole (K : PySem.W.Frag) (A : Ad) : SpD := fun ds M Q _ => ∃ i j : Int, ds = [.int i, .int j] ∧ Q (.bl (decide (i = j))) M
def sd__law_sized (K : PySem.W.Frag) (A : Ad) : SpD := fun ds M Q _ => ∃ (g : D) (xs : List Str) (rs : List Kd) (fs : List Str) (root : Option Str) (S U : Tab), ds = [g, .lst (rs.map kdL), .lst (fs.map .str), .dic (emb U)] ∧ (∀ M', Gm M' g A.c_Grammar xs rs root S) ∧ KOk fs rs 5 3 ∧ fs.length ≤ 3 ∧ (∀ f ∈ fs, PyData.strOk f = true) ∧ (∀ f ∈ fs, ∃ m, LF rs f m ∧ getN U f = some m) ∧ Nd M ∧ ∀ M', Nd M' → Fr [] M M' → Q (.bl true) M'
def sd__law_stranger (K : PySem.W.Frag) (A : Ad) : SpD := fun ds M Q _ => ∃ (g : D) (xs : List Str) (rs : List Kd) (fs : List Str) (root : Option Str) (S : Tab), ds = [g] ∧ (∀ M', Gm M' g A.c_Grammar xs rs root S) ∧ KOk fs rs 5 3 ∧ ("unknownname" : Str) ∉ famsOf rs ∧ Nd M ∧ ∀ M', Nd M' → Fr [] M M' → Q (.bl true) M'
def lawSp : SpD := fun ds M Q _ => ∃ ns : List Int, ds = [.rol (ns.map .int)] ∧ ns.length ≤ 63 ∧ Nd M ∧ ∀ M', Q (.bl true) M'
def sd_law (K : PySem.W.Frag) (A : Ad) : SpD := lawSp
/-- what the top has left -/
structure Txt (K : PySem.W.Frag) (mg : Str → Option Value) (A : Ad) : Prop where
  g__in_order : mg "_in_order" = some (.ref A.f__in_order)
  k__in_order : PySem.W.keepIn K (.ref A.f__in_order) = true
  g__least_sizes : mg "_least_sizes" = some (.ref A.f__least_sizes)
  k__least_sizes : PySem.W.keepIn K (.ref A.f__least_sizes) = true
  g__law_source : mg "_law_source" = some (.ref A.f__law_source)
  k__law_source : PySem.W.keepIn K (.ref A.f__law_source) = true
  g__law_draw : mg "_law_draw" = some (.ref A.f__law_draw)
  k__law_draw : PySem.W.keepIn K (.ref A.f__law_draw) = true
  g__law_by_depth : mg "_law_by_depth" = some (.ref A.f__law_by_depth)
  k__law_by_depth : PySem.W.keepIn K (.ref A.f__law_by_depth) = true
  g__law_whole : mg "_law_whole" = some (.ref A.f__law_whole)
  k__law_whole : PySem.W.keepIn K (.ref A.f__law_whole) = true
  g__law_read_r4 : mg "_law_read" = some (.ref A.f__law_read_r4)
  k__law_read_r4 : PySem.W.keepIn K (.ref A.f__law_read_r4) = true
  g__law_count_r4 : mg "_law_count" = some (.ref A.f__law_count_r4)
  k__law_count_r4 : PySem.W.keepIn K (.ref A.f__law_count_r4) = true
  g__law_names : mg "_law_names" = some (.ref A.f__law_names)
  k__law_names : PySem.W.keepIn K (.ref A.f__law_names) = true
  g__law_count_r3 : mg "_law_count" = some (.ref A.f__law_count_r3)
  k__law_count_r3 : PySem.W.keepIn K (.ref A.f__law_count_r3) = true
  g__check_fields : mg "_check_fields" = some (.ref A.f__check_fields)
  k__check_fields : PySem.W.keepIn K (.ref A.f__check_fields) = true
  g__check_kinds : mg "_check_kinds" = some (.ref A.f__check_kinds)
  k__check_kinds : PySem.W.keepIn K (.ref A.f__check_kinds) = true
  g__law_kinds : mg "_law_kinds" = some (.ref A.f__law_kinds)
  k__law_kinds : PySem.W.keepIn K (.ref A.f__law_kinds) = true
  g__law_read_r3 : mg "_law_read" = some (.ref A.f__law_read_r3)
  k__law_read_r3 : PySem.W.keepIn K (.ref A.f__law_read_r3) = true
  g__law_count_r2 : mg "_law_count" = some (.ref A.f__law_count_r2)
  k__law_count_r2 : PySem.W.keepIn K (.ref A.f__law_count_r2) = true
  g__law_read_r2 : mg "_law_read" = some (.ref A.f__law_read_r2)
  k__law_read_r2 : PySem.W.keepIn K (.ref A.f__law_read_r2) = true
  g__law_count_r1 : mg "_law_count" = some (.ref A.f__law_count_r1)
  k__law_count_r1 : PySem.W.keepIn K (.ref A.f__law_count_r1) = true
  g__law_count : mg "_law_count" = some (.ref A.f__law_count)
  k__law_count : PySem.W.keepIn K (.ref A.f__law_count) = true
  g__law_read_r1 : mg "_law_read" = some (.ref A.f__law_read_r1)
  k__law_read_r1 : PySem.W.keepIn K (.ref A.f__law_read_r1) = true
  g__law_read : mg "_law_read" = some (.ref A.f__law_read)
  k__law_read : PySem.W.keepIn K (.ref A.f__law_read) = true
  g__law_sized : mg "_law_sized" = some (.ref A.f__law_sized)
  k__law_sized : PySem.W.keepIn K (.ref A.f__law_sized) = true
  g__law_stranger : mg "_law_stranger" = some (.ref A.f__law_stranger)
  k__law_stranger : PySem.W.keepIn K (.ref A.f__law_stranger) = true
  g_law : mg "law" = some (.ref A.f_law)
  k_law : PySem.W.keepIn K (.ref A.f_law) = true
  g_LimitExceeded : mg "LimitExceeded" = some (.ref A.c_LimitExceeded)
  ox_LimitExceeded : OexC K A.c_LimitExceeded
  ini_LimitExceeded : PySem.W.findIn K (.ref A.c_LimitExceeded) "__init__" = some (some (.ref A.m_LimitExceeded___init__))
  ti_LimitExceeded : PySem.W.typeIn K (.ref A.m_LimitExceeded___init__) = some (.type "function")
  g_UnknownName : mg "UnknownName" = some (.ref A.c_UnknownName)
  ox_UnknownName : OexC K A.c_UnknownName
  ini_UnknownName : PySem.W.findIn K (.ref A.c_UnknownName) "__init__" = some (some (.ref A.m_UnknownName___init__))
  ti_UnknownName : PySem.W.typeIn K (.ref A.m_UnknownName___init__) = some (.type "function")
  g_BadGrammar : mg "BadGrammar" = some (.ref A.c_BadGrammar)
  ox_BadGrammar : OexC K A.c_BadGrammar
  ini_BadGrammar : PySem.W.findIn K (.ref A.c_BadGrammar) "__init__" = some (some (.ref A.m_BadGrammar___init__))
  ti_BadGrammar : PySem.W.typeIn K (.ref A.m_BadGrammar___init__) = some (.type "function")
  g_BadTree : mg "BadTree" = some (.ref A.c_BadTree)
  ox_BadTree : OexC K A.c_BadTree
  ini_BadTree : PySem.W.findIn K (.ref A.c_BadTree) "__init__" = some (some (.ref A.m_BadTree___init__))
  ti_BadTree : PySem.W.typeIn K (.ref A.m_BadTree___init__) = some (.type "function")
  g_Tree : mg "Tree" = some (.ref A.c_Tree)
  cl_Tree : Cls K A.c_Tree
  mk_Tree : Mk K A.c_Tree A.m_Tree___init__
  rc_Tree : ClX.CRead K A.c_Tree (.type "type")
  it_Tree___iter__ : IterC K A.c_Tree A.m_Tree___iter__
  me_Tree___iter__ : Meth K A.c_Tree "__iter__" A.m_Tree___iter__
  ow_Tree___iter__ : OwnOp K A.c_Tree A.m_Tree___iter__ "__iter__"
  st_Tree_least_r4 : SMet K A.c_Tree "least" A.q_Tree_least_r4 A.m_Tree_least_r4
  st_Tree_least_r3 : SMet K A.c_Tree "least" A.q_Tree_least_r3 A.m_Tree_least_r3
  st_Tree_least_r2 : SMet K A.c_Tree "least" A.q_Tree_least_r2 A.m_Tree_least_r2
  st_Tree_least_r1 : SMet K A.c_Tree "least" A.q_Tree_least_r1 A.m_Tree_least_r1
  st_Tree_least : SMet K A.c_Tree "least" A.q_Tree_least A.m_Tree_least
  g_Grammar : mg "Grammar" = some (.ref A.c_Grammar)
  cl_Grammar : Cls K A.c_Grammar
  mk_Grammar : Mk K A.c_Grammar A.m_Grammar___init__
  me_Grammar_kinds_of : Meth K A.c_Grammar "kinds_of" A.m_Grammar_kinds_of
  me_Grammar__check_kind : Meth K A.c_Grammar "_check_kind" A.m_Grammar__check_kind
  me_Grammar_family_of : Meth K A.c_Grammar "family_of" A.m_Grammar_family_of
  me_Grammar_children_of : Meth K A.c_Grammar "children_of" A.m_Grammar_children_of
  me_Grammar_kind_size : Meth K A.c_Grammar "kind_size" A.m_Grammar_kind_size
  me_Grammar_least_size : Meth K A.c_Grammar "least_size" A.m_Grammar_least_size
  co_Tree_MOST_NODES : ∃ mc u, ClX.CRead K A.c_Tree mc ∧ ClX.CVal K A.c_Tree mc "MOST_NODES" (.int 1000) u
  co_Tree_MOST_DEPTH : ∃ mc u, ClX.CRead K A.c_Tree mc ∧ ClX.CVal K A.c_Tree mc "MOST_DEPTH" (.int 50) u
  fo_Tree__children : FldOk K A.c_Tree "_children"
  fo_Tree_depth : FldOk K A.c_Tree "depth"
  fo_Tree_family : FldOk K A.c_Tree "family"
  fo_Tree_kind : FldOk K A.c_Tree "kind"
  fo_Tree_size : FldOk K A.c_Tree "size"
  co_Grammar_MOST_FIELDS : ∃ mc u, ClX.CRead K A.c_Grammar mc ∧ ClX.CVal K A.c_Grammar mc "MOST_FIELDS" (.int 6) u
  co_Grammar_MOST_KINDS : ∃ mc u, ClX.CRead K A.c_Grammar mc ∧ ClX.CVal K A.c_Grammar mc "MOST_KINDS" (.int 8) u
  co_Grammar_MOST_CHILDREN : ∃ mc u, ClX.CRead K A.c_Grammar mc ∧ ClX.CVal K A.c_Grammar mc "MOST_CHILDREN" (.int 3) u
  co_Grammar_MOST_FAMILIES : ∃ mc u, ClX.CRead K A.c_Grammar mc ∧ ClX.CVal K A.c_Grammar mc "MOST_FAMILIES" (.int 3) u
  fo_Grammar__children : FldOk K A.c_Grammar "_children"
  fo_Grammar__families : FldOk K A.c_Grammar "_families"
  fo_Grammar__sizes : FldOk K A.c_Grammar "_sizes"
  fo_Grammar_families : FldOk K A.c_Grammar "families"
  fo_Grammar_fields : FldOk K A.c_Grammar "fields"
  fo_Grammar_kinds : FldOk K A.c_Grammar "kinds"
  fo_Grammar_root : FldOk K A.c_Grammar "root"
  nf_LimitExceeded_limit : PySem.W.findIn K (.ref A.c_LimitExceeded) "limit" = some none
  xf_LimitExceeded : XfC K A.c_LimitExceeded
  ec_LimitExceeded : ExcC K A.c_LimitExceeded
  em_LimitExceeded_UnknownName : PySem.W.exmOne K (.ref A.c_LimitExceeded) (.ref A.c_UnknownName) = some false
  nf_UnknownName_name : PySem.W.findIn K (.ref A.c_UnknownName) "name" = some none
  xf_UnknownName : XfC K A.c_UnknownName
  ec_UnknownName : ExcC K A.c_UnknownName
  em_UnknownName_UnknownName : PySem.W.exmOne K (.ref A.c_UnknownName) (.ref A.c_UnknownName) = some true
  nf_BadGrammar_part : PySem.W.findIn K (.ref A.c_BadGrammar) "part" = some none
  xf_BadGrammar : XfC K A.c_BadGrammar
  ec_BadGrammar : ExcC K A.c_BadGrammar
  em_BadGrammar_UnknownName : PySem.W.exmOne K (.ref A.c_BadGrammar) (.ref A.c_UnknownName) = some false
  nf_BadTree_path : PySem.W.findIn K (.ref A.c_BadTree) "path" = some none
  xf_BadTree : XfC K A.c_BadTree
  ec_BadTree : ExcC K A.c_BadTree
  em_BadTree_UnknownName : PySem.W.exmOne K (.ref A.c_BadTree) (.ref A.c_UnknownName) = some false
  z_all : mg "all" = none
  z_any : mg "any" = none
  z_bool : mg "bool" = none
  z_enumerate : mg "enumerate" = none
  z_int : mg "int" = none
  z_isinstance : mg "isinstance" = none
  z_iter : mg "iter" = none
  z_len : mg "len" = none
  z_list : mg "list" = none
  z_max : mg "max" = none
  z_min : mg "min" = none
  z_range : mg "range" = none
  z_sum : mg "sum" = none
  z_tuple : mg "tuple" = none
def d__in_order (K : PySem.W.Frag) (A : Ad) : DS := sRet (dCB rList (dCons (dDe (iAny (dVar 0)) (.nm 1) (dYes) (dVar 1) (dC (.bl true)) [1]) (dNil)))
def d__least_sizes (K : PySem.W.Frag) (A : Ad) : DS := sSeq (sAsg (dDic) (gNm 1)) (sSeq (sAsg (dDic) (gNm 2)) (sSeq (sAsg (dC (.bl true)) (gNm 3)) (sSeq (sWhile (dB (dVar 3)) (sSeq (sAsg (dC (.bl false)) (gNm 3)) (sFor (iAny (dVar 0)) (gTp 3 (gsCons (gNm 4) (gsCons (gNm 5) (gsCons (gNm 6) (gsNil))))) (sSeq (sIf (dB (dCB rAny (dCons (dLc (iAny (dVar 6)) (.nm 7) (dYes) (dOp rNin (dVar 7) (dVar 2)) [7]) (dNil)))) (sCont) (sNext)) (sSeq (sAsg (dOp rAdd (dC (.int 1)) (dCB rSum (dCons (dLc (iAny (dVar 6)) (.nm 7) (dYes) (dOp rIx (dVar 2) (dVar 7)) [7]) (dNil)))) (gNm 8)) (sSeq (sIf (dOr (dB (dOp rNin (dVar 4) (dVar 1))) (dB (dOp rLt (dVar 8) (dOp rIx (dVar 1) (dVar 4))))) (sSeq (sAsg (dVar 8) (gSub (dVar 1) (dVar 4))) (sAsg (dC (.bl true)) (gNm 3))) (sNext)) (sIf (dOr (dB (dOp rNin (dVar 5) (dVar 2))) (dB (dOp rLt (dVar 8) (dOp rIx (dVar 2) (dVar 5))))) (sAsg (dVar 8) (gSub (dVar 2) (dVar 5))) (sNext)))))))) (sRet (dVar 1)))))
def d__law_source (K : PySem.W.Frag) (A : Ad) : DS := sSeq (sAsg (dLc (iAny (dSl (dVar 0) (oNone) (oSome (dC (.int 63))))) (.nm 2) (dYes) (dCB rInt (dCons (dVar 2) (dNil))) [2]) (gNm 1)) (sRet (dLst (dCons (dVar 1) (dCons (dLc (iAny (dVar 1)) (.nm 2) (dYes) (dOp rGe (dVar 2) (dOp rPow (dC (.int 10)) (dC (.int 18)))) [2]) (dCons (dC (.int 0)) (dCons (dC (.int 0)) (dCons (dOp rMod (dCB rInt (dCons (dCB rSum (dCons (dVar 1) (dNil))) (dNil))) (dC (.int 1000003))) (dNil))))))))
def d__law_draw (K : PySem.W.Frag) (A : Ad) : DS := sSeq (sAsg (dOp rIx (dVar 0) (dC (.int 0))) (gNm 2)) (sSeq (sAsg (dOp rIx (dVar 0) (dC (.int 2))) (gNm 3)) (sSeq (sIf (dB (dOp rLt (dVar 3) (dCB rLen (dCons (dVar 2) (dNil))))) (sSeq (sAsg (dOp rIx (dVar 2) (dVar 3)) (gNm 4)) (sSeq (sAsg (dOp rDiv (dVar 4) (dVar 1)) (gSub (dVar 2) (dVar 3))) (sSeq (sIf (dOr (dNot (dB (dOp rIx (dOp rIx (dVar 0) (dC (.int 1))) (dVar 3)))) (dB (dOp rEq (dOp rIx (dVar 2) (dVar 3)) (dC (.int 0))))) (sAsg (dOp rAdd (dVar 3) (dC (.int 1))) (gSub (dVar 0) (dC (.int 2)))) (sNext)) (sRet (dOp rMod (dCB rInt (dCons (dVar 4) (dNil))) (dVar 1)))))) (sNext)) (sSeq (sIf (dB (dOp rEq (dOp rIx (dVar 0) (dC (.int 4))) (dC (.int 0)))) (sRet (dC (.int 0))) (sNext)) (sSeq (sAsg (dOp rAdd (dOp rIx (dVar 0) (dC (.int 3))) (dC (.int 1))) (gSub (dVar 0) (dC (.int 3)))) (sSeq (sAsg (dOp rMod (dCB rInt (dCons (dOp rMul (dOp rAdd (dOp rIx (dVar 0) (dC (.int 4))) (dOp rMul (dOp rIx (dVar 0) (dC (.int 3))) (dC (.int 7919)))) (dC (.int 48271))) (dNil))) (dC (.int 2147483647))) (gNm 5)) (sRet (dOp rMod (dOp rDiv (dOp rMod (dCB rInt (dCons (dOp rMul (dVar 5) (dVar 5)) (dNil))) (dC (.int 998244353))) (dC (.int 7))) (dVar 1))))))))
def d__law_by_depth (K : PySem.W.Frag) (A : Ad) : DS := sSeq (sAsg (dDic) (gNm 3)) (sSeq (sFor (iRg1 (dCons (dVar 2) (dNil))) (gNm 4) (sSeq (sAsg (dDic) (gNm 5)) (sSeq (sFor (iAny (dVar 1)) (gNm 6) (sSeq (sAsg (dLc (iAny (dVar 0)) (.nm 8) (dAnd (dB (dOp rEq (dOp rIx (dVar 8) (dC (.int 1))) (dVar 6))) (dB (dCB rAll (dCons (dLc (iAny (dOp rIx (dVar 8) (dC (.int 2)))) (.nm 9) (dYes) (dOp rIn (dVar 9) (dVar 3)) [9]) (dNil))))) (dVar 8) [8]) (gNm 7)) (sSeq (sAsg (dLc (iAny (dVar 7)) (.nm 8) (dYes) (dOp rAdd (dC (.int 1)) (dCB rInt (dCons (dCB rSum (dCons (dLc (iAny (dOp rIx (dVar 8) (dC (.int 2)))) (.nm 9) (dYes) (dOp rIx (dVar 3) (dVar 9)) [9]) (dNil))) (dNil)))) [8]) (gNm 10)) (sIf (dB (dOp rGt (dCB rLen (dCons (dVar 10) (dNil))) (dC (.int 0)))) (sAsg (dCB rMin (dCons (dLc (iAny (dVar 10)) (.nm 11) (dYes) (dCB rInt (dCons (dVar 11) (dNil))) [11]) (dNil))) (gSub (dVar 5) (dVar 6))) (sNext))))) (sAsg (dVar 5) (gNm 3))))) (sRet (dZK K (dVar 3))))
def d__law_whole (K : PySem.W.Frag) (A : Ad) : DS := sRet (dAndV (dCB (rIsi K) (dCons (dVar 0) (dCons (dC (.ty "int")) (dNil)))) (dAndV (dNotV (dCB (rIsi K) (dCons (dVar 0) (dCons (dC (.ty "bool")) (dNil))))) (dOp rEq (dVar 0) (dVar 1))))
def d_LimitExceeded___init__ (K : PySem.W.Frag) (A : Ad) : DS := sOst K "limit" (dVar 0) (dVar 1)
def d_UnknownName___init__ (K : PySem.W.Frag) (A : Ad) : DS := sOst K "name" (dVar 0) (dVar 1)
def d_BadGrammar___init__ (K : PySem.W.Frag) (A : Ad) : DS := sOst K "part" (dVar 0) (dVar 1)
def d_BadTree___init__ (K : PySem.W.Frag) (A : Ad) : DS := sOst K "path" (dVar 0) (dCB rTuple (dCons (dVar 1) (dNil)))
def d__law_read_r4 (K : PySem.W.Frag) (A : Ad) : DS := sNever
def d__law_count_r4 (K : PySem.W.Frag) (A : Ad) : DS := sNever
def d_Tree_least_r4 (K : PySem.W.Frag) (A : Ad) : DS := sNever
def d__law_names (K : PySem.W.Frag) (A : Ad) : DS := sSeq (sAsg (dC (.str ("abcdefghijklmnopqrstuvwxyz" : Str))) (gNm 2)) (sSeq (sAsg (dCall (sd__law_draw K A) (dCons (dVar 0) (dCons (dC (.int 4)) (dNil)))) (gNm 3)) (sSeq (sAsg (dCall (sd__law_draw K A) (dCons (dVar 0) (dCons (dC (.int 4)) (dNil)))) (gNm 4)) (sSeq (sAsg (dCall (sd__law_draw K A) (dCons (dVar 0) (dCons (dC (.int 2)) (dNil)))) (gNm 5)) (sSeq (sAsg (dCall (sd__law_draw K A) (dCons (dVar 0) (dCons (dC (.int 26)) (dNil)))) (gNm 6)) (sSeq (sAsg (dOp rIx (dVar 2) (dCall (sd__law_draw K A) (dCons (dVar 0) (dCons (dC (.int 26)) (dNil))))) (gNm 7)) (sRet (dLc (iRg1 (dCons (dVar 1) (dNil))) (.nm 8) (dYes) (dOp rAdd (dOp rAdd (dOp rMul (dVar 7) (dVar 3)) (dOp rIx (dVar 2) (dOp rMod (dCB rInt (dCons (dOp rAdd (dVar 6) (dVar 8)) (dNil))) (dC (.int 26))))) (dOp rMul (dVar 7) (dOp rAdd (dVar 4) (dOp rMul (dVar 5) (dOp rMod (dCB rInt (dCons (dVar 8) (dNil))) (dC (.int 3))))))) [8])))))))
def d__law_count_r3 (K : PySem.W.Frag) (A : Ad) : DS := sSeq (sAsg (dLc (iAny (dVar 0)) (.nm 4) (dAnd (dB (dOp rEq (dOp rIx (dVar 4) (dC (.int 0))) (dOp rIx (dVar 2) (dC (.int 0))))) (dB (dOp rEq (dOp rIx (dVar 4) (dC (.int 1))) (dVar 1)))) (dVar 4) [4]) (gNm 3)) (sSeq (sIf (dOr (dB (dOp rNe (dCB rLen (dCons (dVar 3) (dNil))) (dC (.int 1)))) (dB (dOp rNe (dCB rLen (dCons (dOp rIx (dOp rIx (dVar 3) (dC (.int 0))) (dC (.int 2))) (dNil))) (dCB rLen (dCons (dOp rIx (dVar 2) (dC (.int 1))) (dNil)))))) (sRet (dC (.int 0))) (sNext)) (sSeq (sAsg (dC (.int 1)) (gNm 5)) (sSeq (sFor (iRg1 (dCons (dCB rLen (dCons (dOp rIx (dVar 2) (dC (.int 1))) (dNil))) (dNil))) (gNm 6) (sSeq (sAsg (dZK K (dCall (sd__law_count_r4 K A) (dCons (dVar 0) (dCons (dOp rIx (dOp rIx (dOp rIx (dVar 3) (dC (.int 0))) (dC (.int 2))) (dVar 6)) (dCons (dOp rIx (dOp rIx (dVar 2) (dC (.int 1))) (dVar 6)) (dNil)))))) (gNm 7)) (sSeq (sIf (dB (dOp rEq (dVar 7) (dC (.int 0)))) (sRet (dC (.int 0))) (sNext)) (sAsg (dOp rAdd (dVar 5) (dVar 7)) (gNm 5))))) (sRet (dZK K (dVar 5))))))
def d__check_fields (K : PySem.W.Frag) (A : Ad) : DS := sSeq (sIf (dB (dOp rGt (dCB rLen (dCons (dVar 0) (dNil))) (dCon K (dC (.ptr A.c_Grammar)) "MOST_FIELDS"))) (sRaise A.c_LimitExceeded (sd_LimitExceeded___init__ K A) (dCons (dC (.str ("fields" : Str))) (dNil))) (sNext)) (sIf (dB (dOp rLt (dCB rLen (dCons (dCall (sd__in_order K A) (dCons (dVar 0) (dNil))) (dNil))) (dCB rLen (dCons (dVar 0) (dNil))))) (sRaise A.c_BadGrammar (sd_BadGrammar___init__ K A) (dCons (dC (.str ("fields" : Str))) (dNil))) (sNext))
def d__check_kinds (K : PySem.W.Frag) (A : Ad) : DS := sSeq (sIf (dOr (dB (dOp rEq (dCB rLen (dCons (dVar 0) (dNil))) (dC (.int 0)))) (dB (dOp rLt (dCB rLen (dCons (dCall (sd__in_order K A) (dCons (dLc (iAny (dVar 0)) (.nm 2) (dYes) (dOp rIx (dVar 2) (dC (.int 0))) [2]) (dNil))) (dNil))) (dCB rLen (dCons (dVar 0) (dNil)))))) (sRaise A.c_BadGrammar (sd_BadGrammar___init__ K A) (dCons (dC (.str ("kinds" : Str))) (dNil))) (sNext)) (sSeq (sIf (dB (dOp rGt (dCB rLen (dCons (dVar 0) (dNil))) (dCon K (dC (.ptr A.c_Grammar)) "MOST_KINDS"))) (sRaise A.c_LimitExceeded (sd_LimitExceeded___init__ K A) (dCons (dC (.str ("kinds" : Str))) (dNil))) (sNext)) (sSeq (sIf (dB (dCB rAny (dCons (dLc (iAny (dVar 0)) (.nm 2) (dYes) (dOp rGt (dCB rLen (dCons (dOp rIx (dVar 2) (dC (.int 2))) (dNil))) (dCon K (dC (.ptr A.c_Grammar)) "MOST_CHILDREN")) [2]) (dNil)))) (sRaise A.c_LimitExceeded (sd_LimitExceeded___init__ K A) (dCons (dC (.str ("children" : Str))) (dNil))) (sNext)) (sSeq (sIf (dB (dOp rGt (dCB rLen (dCons (dVar 1) (dNil))) (dCon K (dC (.ptr A.c_Grammar)) "MOST_FAMILIES"))) (sRaise A.c_LimitExceeded (sd_LimitExceeded___init__ K A) (dCons (dC (.str ("families" : Str))) (dNil))) (sNext)) (sIf (dB (dCB rAny (dCons (dLc2 (iAny (dVar 0)) (.nm 2) (dYes) (iAny (dOp rIx (dVar 2) (dC (.int 2)))) (.nm 3) (dYes) (dOp rNin (dVar 3) (dVar 1)) [2, 3] [3]) (dNil)))) (sRaise A.c_BadGrammar (sd_BadGrammar___init__ K A) (dCons (dC (.str ("children" : Str))) (dNil))) (sNext)))))
def d__law_kinds (K : PySem.W.Frag) (A : Ad) : DS := sSeq (sAsg (dOp rAdd (dCB rLen (dCons (dVar 1) (dNil))) (dCall (sd__law_draw K A) (dCons (dVar 0) (dCons (dOp rAdd (dVar 2) (dC (.int 1))) (dNil))))) (gNm 4)) (sSeq (sAsg (dZK K (dCall (sd__law_names K A) (dCons (dVar 0) (dCons (dVar 4) (dNil))))) (gNm 5)) (sSeq (sAsg (dLst (dNil)) (gNm 6)) (sSeq (sFor (iRg1 (dCons (dVar 4) (dNil))) (gNm 7) (sSeq (sAsg (dIf (dB (dOp rLt (dVar 7) (dCB rLen (dCons (dVar 1) (dNil))))) (dOp rIx (dVar 1) (dVar 7)) (dOp rIx (dVar 1) (dCall (sd__law_draw K A) (dCons (dVar 0) (dCons (dCB rLen (dCons (dVar 1) (dNil))) (dNil)))))) (gNm 8)) (sSeq (sAsg (dCB rMin (dCons (dVar 7) (dCons (dCB rInt (dCons (dCB rLen (dCons (dVar 1) (dNil))) (dNil))) (dNil)))) (gNm 9)) (sSeq (sAsg (dLst (dNil)) (gNm 10)) (sSeq (sIf (dB (dOp rGt (dVar 9) (dC (.int 0)))) (sAsg (dLc (iRg1 (dCons (dCall (sd__law_draw K A) (dCons (dVar 0) (dCons (dOp rAdd (dVar 3) (dC (.int 1))) (dNil)))) (dNil))) (.nm 11) (dYes) (dOp rIx (dVar 1) (dCall (sd__law_draw K A) (dCons (dVar 0) (dCons (dVar 9) (dNil))))) [11]) (gNm 10)) (sNext)) (sDrop (dBM "list" rApp (dVar 6) (dCons (dTup (dCons (dOp rIx (dVar 5) (dVar 7)) (dCons (dVar 8) (dCons (dVar 10) (dNil))))) (dNil))))))))) (sSeq (sAsg (dCall (sd__law_draw K A) (dCons (dVar 0) (dCons (dVar 4) (dNil)))) (gNm 12)) (sRet (dOp rAdd (dSl (dVar 6) (oSome (dVar 12)) (oNone)) (dSl (dVar 6) (oNone) (oSome (dVar 12)))))))))
def d_Grammar_kinds_of (K : PySem.W.Frag) (A : Ad) : DS := sSeq (sIf (dB (dOp rNin (dVar 1) (dFld K (dVar 0) "families"))) (sRaise A.c_UnknownName (sd_UnknownName___init__ K A) (dCons (dVar 1) (dNil))) (sNext)) (sRet (dCB rTuple (dCons (dLc (iAny (dFld K (dVar 0) "kinds")) (.nm 2) (dB (dOp rEq (dOp rIx (dFld K (dVar 0) "_families") (dVar 2)) (dVar 1))) (dVar 2) [2]) (dNil))))
def d_Grammar__check_kind (K : PySem.W.Frag) (A : Ad) : DS := sIf (dB (dOp rNin (dVar 1) (dFld K (dVar 0) "kinds"))) (sRaise A.c_UnknownName (sd_UnknownName___init__ K A) (dCons (dVar 1) (dNil))) (sNext)
def d__law_read_r3 (K : PySem.W.Frag) (A : Ad) : DS := sRet (dLst (dCons (dFld K (dVar 0) "kind") (dCons (dLc (iOwn A.c_Tree "_children" (dVar 0)) (.nm 1) (dYes) (dZK K (dCall (sd__law_read_r4 K A) (dCons (dVar 1) (dNil)))) [1]) (dNil))))
def d__law_count_r2 (K : PySem.W.Frag) (A : Ad) : DS := sSeq (sAsg (dLc (iAny (dVar 0)) (.nm 4) (dAnd (dB (dOp rEq (dOp rIx (dVar 4) (dC (.int 0))) (dOp rIx (dVar 2) (dC (.int 0))))) (dB (dOp rEq (dOp rIx (dVar 4) (dC (.int 1))) (dVar 1)))) (dVar 4) [4]) (gNm 3)) (sSeq (sIf (dOr (dB (dOp rNe (dCB rLen (dCons (dVar 3) (dNil))) (dC (.int 1)))) (dB (dOp rNe (dCB rLen (dCons (dOp rIx (dOp rIx (dVar 3) (dC (.int 0))) (dC (.int 2))) (dNil))) (dCB rLen (dCons (dOp rIx (dVar 2) (dC (.int 1))) (dNil)))))) (sRet (dC (.int 0))) (sNext)) (sSeq (sAsg (dC (.int 1)) (gNm 5)) (sSeq (sFor (iRg1 (dCons (dCB rLen (dCons (dOp rIx (dVar 2) (dC (.int 1))) (dNil))) (dNil))) (gNm 6) (sSeq (sAsg (dZK K (dCall (sd__law_count_r3 K A) (dCons (dVar 0) (dCons (dOp rIx (dOp rIx (dOp rIx (dVar 3) (dC (.int 0))) (dC (.int 2))) (dVar 6)) (dCons (dOp rIx (dOp rIx (dVar 2) (dC (.int 1))) (dVar 6)) (dNil)))))) (gNm 7)) (sSeq (sIf (dB (dOp rEq (dVar 7) (dC (.int 0)))) (sRet (dC (.int 0))) (sNext)) (sAsg (dOp rAdd (dVar 5) (dVar 7)) (gNm 5))))) (sRet (dZK K (dVar 5))))))
def d_Grammar___init__ (K : PySem.W.Frag) (A : Ad) : DS := sSeq (sAsg (dLc (iAny (dVar 2)) (.tp [5, 6, 7]) (dYes) (dTup (dCons (dVar 5) (dCons (dVar 6) (dCons (dCB rTuple (dCons (dVar 7) (dNil))) (dNil))))) [5, 6, 7]) (gNm 4)) (sSeq (sAsg (dCall (sd__in_order K A) (dCons (dLc (iAny (dVar 4)) (.nm 9) (dYes) (dOp rIx (dVar 9) (dC (.int 1))) [9]) (dNil))) (gNm 8)) (sSeq (sDrop (dCall (sd__check_fields K A) (dCons (dVar 1) (dNil)))) (sSeq (sDrop (dCall (sd__check_kinds K A) (dCons (dVar 4) (dCons (dVar 8) (dNil))))) (sSeq (sIf (dAnd (dB (dOp rIsn (dVar 3) (dC .non))) (dB (dOp rNin (dVar 3) (dVar 8)))) (sRaise A.c_BadGrammar (sd_BadGrammar___init__ K A) (dCons (dC (.str ("root" : Str))) (dNil))) (sNext)) (sSeq (sAsg (dZK K (dCall (sd__least_sizes K A) (dCons (dVar 4) (dNil)))) (gNm 10)) (sSeq (sIf (dB (dOp rLt (dCB rLen (dCons (dVar 10) (dNil))) (dCB rLen (dCons (dVar 4) (dNil))))) (sRaise A.c_BadGrammar (sd_BadGrammar___init__ K A) (dCons (dC (.str ("finite" : Str))) (dNil))) (sNext)) (sSeq (sFldD K (dVar 0) (dCB rTuple (dCons (dVar 1) (dNil))) "fields") (sSeq (sFldD K (dVar 0) (dCB rTuple (dCons (dLc (iAny (dVar 4)) (.nm 9) (dYes) (dOp rIx (dVar 9) (dC (.int 0))) [9]) (dNil))) "kinds") (sSeq (sFldD K (dVar 0) (dCB rTuple (dCons (dVar 8) (dNil))) "families") (sSeq (sFldD K (dVar 0) (dIf (dB (dOp rIs (dVar 3) (dC .non))) (dOp rIx (dVar 8) (dC (.int 0))) (dVar 3)) "root") (sSeq (sFldD K (dVar 0) (dDe (iAny (dVar 4)) (.nm 9) (dYes) (dOp rIx (dVar 9) (dC (.int 0))) (dOp rIx (dVar 9) (dC (.int 1))) [9]) "_families") (sSeq (sFldD K (dVar 0) (dDe (iAny (dVar 4)) (.nm 9) (dYes) (dOp rIx (dVar 9) (dC (.int 0))) (dOp rIx (dVar 9) (dC (.int 2))) [9]) "_children") (sFldD K (dVar 0) (dZK K (dVar 10)) "_sizes")))))))))))))
def d_Grammar_family_of (K : PySem.W.Frag) (A : Ad) : DS := sSeq (sDrop (dMeth A.c_Grammar "_check_kind" (sd_Grammar__check_kind K A) (dVar 0) (dCons (dVar 1) (dNil)))) (sRet (dOp rIx (dFld K (dVar 0) "_families") (dVar 1)))
def d_Grammar_children_of (K : PySem.W.Frag) (A : Ad) : DS := sSeq (sDrop (dMeth A.c_Grammar "_check_kind" (sd_Grammar__check_kind K A) (dVar 0) (dCons (dVar 1) (dNil)))) (sRet (dOp rIx (dFld K (dVar 0) "_children") (dVar 1)))
def d_Grammar_kind_size (K : PySem.W.Frag) (A : Ad) : DS := sSeq (sDrop (dMeth A.c_Grammar "_check_kind" (sd_Grammar__check_kind K A) (dVar 0) (dCons (dVar 1) (dNil)))) (sRet (dOp rIx (dFld K (dVar 0) "_sizes") (dVar 1)))
def d_Grammar_least_size (K : PySem.W.Frag) (A : Ad) : DS := sRet (dCB rMin (dCons (dLc (iAny (dZK K (dMeth A.c_Grammar "kinds_of" (sd_Grammar_kinds_of K A) (dVar 0) (dCons (dVar 1) (dNil))))) (.nm 2) (dYes) (dCB rInt (dCons (dOp rIx (dFld K (dVar 0) "_sizes") (dVar 2)) (dNil))) [2]) (dNil)))
def d__law_read_r2 (K : PySem.W.Frag) (A : Ad) : DS := sRet (dLst (dCons (dFld K (dVar 0) "kind") (dCons (dLc (iOwn A.c_Tree "_children" (dVar 0)) (.nm 1) (dYes) (dZK K (dCall (sd__law_read_r3 K A) (dCons (dVar 1) (dNil)))) [1]) (dNil))))
def d__law_count_r1 (K : PySem.W.Frag) (A : Ad) : DS := sSeq (sAsg (dLc (iAny (dVar 0)) (.nm 4) (dAnd (dB (dOp rEq (dOp rIx (dVar 4) (dC (.int 0))) (dOp rIx (dVar 2) (dC (.int 0))))) (dB (dOp rEq (dOp rIx (dVar 4) (dC (.int 1))) (dVar 1)))) (dVar 4) [4]) (gNm 3)) (sSeq (sIf (dOr (dB (dOp rNe (dCB rLen (dCons (dVar 3) (dNil))) (dC (.int 1)))) (dB (dOp rNe (dCB rLen (dCons (dOp rIx (dOp rIx (dVar 3) (dC (.int 0))) (dC (.int 2))) (dNil))) (dCB rLen (dCons (dOp rIx (dVar 2) (dC (.int 1))) (dNil)))))) (sRet (dC (.int 0))) (sNext)) (sSeq (sAsg (dC (.int 1)) (gNm 5)) (sSeq (sFor (iRg1 (dCons (dCB rLen (dCons (dOp rIx (dVar 2) (dC (.int 1))) (dNil))) (dNil))) (gNm 6) (sSeq (sAsg (dZK K (dCall (sd__law_count_r2 K A) (dCons (dVar 0) (dCons (dOp rIx (dOp rIx (dOp rIx (dVar 3) (dC (.int 0))) (dC (.int 2))) (dVar 6)) (dCons (dOp rIx (dOp rIx (dVar 2) (dC (.int 1))) (dVar 6)) (dNil)))))) (gNm 7)) (sSeq (sIf (dB (dOp rEq (dVar 7) (dC (.int 0)))) (sRet (dC (.int 0))) (sNext)) (sAsg (dOp rAdd (dVar 5) (dVar 7)) (gNm 5))))) (sRet (dZK K (dVar 5))))))
def d__law_count (K : PySem.W.Frag) (A : Ad) : DS := sSeq (sAsg (dLc (iAny (dVar 0)) (.nm 4) (dAnd (dB (dOp rEq (dOp rIx (dVar 4) (dC (.int 0))) (dOp rIx (dVar 2) (dC (.int 0))))) (dB (dOp rEq (dOp rIx (dVar 4) (dC (.int 1))) (dVar 1)))) (dVar 4) [4]) (gNm 3)) (sSeq (sIf (dOr (dB (dOp rNe (dCB rLen (dCons (dVar 3) (dNil))) (dC (.int 1)))) (dB (dOp rNe (dCB rLen (dCons (dOp rIx (dOp rIx (dVar 3) (dC (.int 0))) (dC (.int 2))) (dNil))) (dCB rLen (dCons (dOp rIx (dVar 2) (dC (.int 1))) (dNil)))))) (sRet (dC (.int 0))) (sNext)) (sSeq (sAsg (dC (.int 1)) (gNm 5)) (sSeq (sFor (iRg1 (dCons (dCB rLen (dCons (dOp rIx (dVar 2) (dC (.int 1))) (dNil))) (dNil))) (gNm 6) (sSeq (sAsg (dZK K (dCall (sd__law_count_r1 K A) (dCons (dVar 0) (dCons (dOp rIx (dOp rIx (dOp rIx (dVar 3) (dC (.int 0))) (dC (.int 2))) (dVar 6)) (dCons (dOp rIx (dOp rIx (dVar 2) (dC (.int 1))) (dVar 6)) (dNil)))))) (gNm 7)) (sSeq (sIf (dB (dOp rEq (dVar 7) (dC (.int 0)))) (sRet (dC (.int 0))) (sNext)) (sAsg (dOp rAdd (dVar 5) (dVar 7)) (gNm 5))))) (sRet (dZK K (dVar 5))))))
def d_Tree___init__ (K : PySem.W.Frag) (A : Ad) : DS := sSeq (sAsg (dZK K (dMeth A.c_Grammar "children_of" (sd_Grammar_children_of K A) (dVar 1) (dCons (dVar 2) (dNil)))) (gNm 4)) (sSeq (sIf (dB (dOp rNe (dCB rLen (dCons (dVar 3) (dNil))) (dCB rLen (dCons (dVar 4) (dNil))))) (sRaise A.c_BadTree (sd_BadTree___init__ K A) (dCons (dTup (dNil)) (dNil))) (sNext)) (sSeq (sFor (iEn 1 (dVar 3)) (gTp 2 (gsCons (gNm 5) (gsCons (gNm 6) (gsNil)))) (sIf (dB (dOp rNe (dFld K (dVar 6) "family") (dOp rIx (dVar 4) (dOp rSub (dVar 5) (dC (.int 1)))))) (sRaise A.c_BadTree (sd_BadTree___init__ K A) (dCons (dTup (dCons (dVar 5) (dNil))) (dNil))) (sNext))) (sSeq (sFldD K (dVar 0) (dZK K (dVar 2)) "kind") (sSeq (sFldD K (dVar 0) (dZK K (dMeth A.c_Grammar "family_of" (sd_Grammar_family_of K A) (dVar 1) (dCons (dVar 2) (dNil)))) "family") (sSeq (sFldD K (dVar 0) (dOp rAdd (dC (.int 1)) (dCB rSum (dCons (dLc (iAny (dVar 3)) (.nm 6) (dYes) (dFld K (dVar 6) "size") [6]) (dNil)))) "size") (sSeq (sFldD K (dVar 0) (dOp rAdd (dC (.int 1)) (dCB (rMaxD 0) (dCons (dLc (iAny (dVar 3)) (.nm 6) (dYes) (dCB rInt (dCons (dFld K (dVar 6) "depth") (dNil))) [6]) (dNil)))) "depth") (sSeq (sFldD K (dVar 0) (dCB rTuple (dCons (dVar 3) (dNil))) "_children") (sSeq (sIf (dB (dOp rGt (dFld K (dVar 0) "size") (dCon K (dC (.ptr A.c_Tree)) "MOST_NODES"))) (sRaise A.c_LimitExceeded (sd_LimitExceeded___init__ K A) (dCons (dC (.str ("nodes" : Str))) (dNil))) (sNext)) (sIf (dB (dOp rGt (dFld K (dVar 0) "depth") (dCon K (dC (.ptr A.c_Tree)) "MOST_DEPTH"))) (sRaise A.c_LimitExceeded (sd_LimitExceeded___init__ K A) (dCons (dC (.str ("depth" : Str))) (dNil))) (sNext))))))))))
def d__law_read_r1 (K : PySem.W.Frag) (A : Ad) : DS := sRet (dLst (dCons (dFld K (dVar 0) "kind") (dCons (dLc (iOwn A.c_Tree "_children" (dVar 0)) (.nm 1) (dYes) (dZK K (dCall (sd__law_read_r2 K A) (dCons (dVar 1) (dNil)))) [1]) (dNil))))
def d__law_read (K : PySem.W.Frag) (A : Ad) : DS := sRet (dLst (dCons (dFld K (dVar 0) "kind") (dCons (dLc (iOwn A.c_Tree "_children" (dVar 0)) (.nm 1) (dYes) (dZK K (dCall (sd__law_read_r1 K A) (dCons (dVar 1) (dNil)))) [1]) (dNil))))
def d_Tree_least_r3 (K : PySem.W.Frag) (A : Ad) : DS := sSeq (sAsg (dZK K (dMeth A.c_Grammar "least_size" (sd_Grammar_least_size K A) (dVar 0) (dCons (dVar 1) (dNil)))) (gNm 2)) (sSeq (sAsg (dLc (iAny (dZK K (dMeth A.c_Grammar "kinds_of" (sd_Grammar_kinds_of K A) (dVar 0) (dCons (dVar 1) (dNil))))) (.nm 4) (dB (dOp rEq (dZK K (dMeth A.c_Grammar "kind_size" (sd_Grammar_kind_size K A) (dVar 0) (dCons (dVar 4) (dNil)))) (dVar 2))) (dVar 4) [4]) (gNm 3)) (sSeq (sAsg (dLc (iAny (dZK K (dMeth A.c_Grammar "children_of" (sd_Grammar_children_of K A) (dVar 0) (dCons (dOp rIx (dVar 3) (dC (.int 0))) (dNil))))) (.nm 6) (dYes) (dZK K (dCall (sd_Tree_least_r4 K A) (dCons (dVar 0) (dCons (dVar 6) (dNil))))) [6]) (gNm 5)) (sRet (dZK K (dMake A.c_Tree (sd_Tree___init__ K A) (dCons (dVar 0) (dCons (dOp rIx (dVar 3) (dC (.int 0))) (dStar (dVar 5) (dNil)))))))))
def d_Tree_least_r2 (K : PySem.W.Frag) (A : Ad) : DS := sSeq (sAsg (dZK K (dMeth A.c_Grammar "least_size" (sd_Grammar_least_size K A) (dVar 0) (dCons (dVar 1) (dNil)))) (gNm 2)) (sSeq (sAsg (dLc (iAny (dZK K (dMeth A.c_Grammar "kinds_of" (sd_Grammar_kinds_of K A) (dVar 0) (dCons (dVar 1) (dNil))))) (.nm 4) (dB (dOp rEq (dZK K (dMeth A.c_Grammar "kind_size" (sd_Grammar_kind_size K A) (dVar 0) (dCons (dVar 4) (dNil)))) (dVar 2))) (dVar 4) [4]) (gNm 3)) (sSeq (sAsg (dLc (iAny (dZK K (dMeth A.c_Grammar "children_of" (sd_Grammar_children_of K A) (dVar 0) (dCons (dOp rIx (dVar 3) (dC (.int 0))) (dNil))))) (.nm 6) (dYes) (dZK K (dCall (sd_Tree_least_r3 K A) (dCons (dVar 0) (dCons (dVar 6) (dNil))))) [6]) (gNm 5)) (sRet (dZK K (dMake A.c_Tree (sd_Tree___init__ K A) (dCons (dVar 0) (dCons (dOp rIx (dVar 3) (dC (.int 0))) (dStar (dVar 5) (dNil)))))))))
def d_Tree_least_r1 (K : PySem.W.Frag) (A : Ad) : DS := sSeq (sAsg (dZK K (dMeth A.c_Grammar "least_size" (sd_Grammar_least_size K A) (dVar 0) (dCons (dVar 1) (dNil)))) (gNm 2)) (sSeq (sAsg (dLc (iAny (dZK K (dMeth A.c_Grammar "kinds_of" (sd_Grammar_kinds_of K A) (dVar 0) (dCons (dVar 1) (dNil))))) (.nm 4) (dB (dOp rEq (dZK K (dMeth A.c_Grammar "kind_size" (sd_Grammar_kind_size K A) (dVar 0) (dCons (dVar 4) (dNil)))) (dVar 2))) (dVar 4) [4]) (gNm 3)) (sSeq (sAsg (dLc (iAny (dZK K (dMeth A.c_Grammar "children_of" (sd_Grammar_children_of K A) (dVar 0) (dCons (dOp rIx (dVar 3) (dC (.int 0))) (dNil))))) (.nm 6) (dYes) (dZK K (dCall (sd_Tree_least_r2 K A) (dCons (dVar 0) (dCons (dVar 6) (dNil))))) [6]) (gNm 5)) (sRet (dZK K (dMake A.c_Tree (sd_Tree___init__ K A) (dCons (dVar 0) (dCons (dOp rIx (dVar 3) (dC (.int 0))) (dStar (dVar 5) (dNil)))))))))
def d_Tree_least (K : PySem.W.Frag) (A : Ad) : DS := sSeq (sAsg (dZK K (dMeth A.c_Grammar "least_size" (sd_Grammar_least_size K A) (dVar 0) (dCons (dVar 1) (dNil)))) (gNm 2)) (sSeq (sAsg (dLc (iAny (dZK K (dMeth A.c_Grammar "kinds_of" (sd_Grammar_kinds_of K A) (dVar 0) (dCons (dVar 1) (dNil))))) (.nm 4) (dB (dOp rEq (dZK K (dMeth A.c_Grammar "kind_size" (sd_Grammar_kind_size K A) (dVar 0) (dCons (dVar 4) (dNil)))) (dVar 2))) (dVar 4) [4]) (gNm 3)) (sSeq (sAsg (dLc (iAny (dZK K (dMeth A.c_Grammar "children_of" (sd_Grammar_children_of K A) (dVar 0) (dCons (dOp rIx (dVar 3) (dC (.int 0))) (dNil))))) (.nm 6) (dYes) (dZK K (dCall (sd_Tree_least_r1 K A) (dCons (dVar 0) (dCons (dVar 6) (dNil))))) [6]) (gNm 5)) (sRet (dZK K (dMake A.c_Tree (sd_Tree___init__ K A) (dCons (dVar 0) (dCons (dOp rIx (dVar 3) (dC (.int 0))) (dStar (dVar 5) (dNil)))))))))
def d__law_sized (K : PySem.W.Frag) (A : Ad) : DS := sSeq (sFor (iAny (dVar 1)) (gNm 4) (sIf (dNot (dB (dZK K (dCall (sd__law_whole K A) (dCons (dZK K (dMeth A.c_Grammar "kind_size" (sd_Grammar_kind_size K A) (dVar 0) (dCons (dOp rIx (dVar 4) (dC (.int 0))) (dNil)))) (dCons (dOp rAdd (dC (.int 1)) (dCB rSum (dCons (dLc (iAny (dOp rIx (dVar 4) (dC (.int 2)))) (.nm 5) (dYes) (dOp rIx (dVar 3) (dVar 5)) [5]) (dNil)))) (dNil))))))) (sRet (dC (.bl false))) (sNext))) (sSeq (sFor (iAny (dVar 2)) (gNm 6) (sSeq (sAsg (dZK K (dCall (sd_Tree_least K A) (dCons (dVar 0) (dCons (dVar 6) (dNil))))) (gNm 7)) (sSeq (sIf (dOr (dNot (dB (dZK K (dCall (sd__law_whole K A) (dCons (dZK K (dMeth A.c_Grammar "least_size" (sd_Grammar_least_size K A) (dVar 0) (dCons (dVar 6) (dNil)))) (dCons (dOp rIx (dVar 3) (dVar 6)) (dNil))))))) (dNot (dB (dZK K (dCall (sd__law_whole K A) (dCons (dFld K (dVar 7) "size") (dCons (dOp rIx (dVar 3) (dVar 6)) (dNil)))))))) (sRet (dC (.bl false))) (sNext)) (sIf (dOr (dB (dOp rNe (dFld K (dVar 7) "family") (dVar 6))) (dB (dOp rNe (dZK K (dCall (sd__law_count K A) (dCons (dVar 1) (dCons (dVar 6) (dCons (dZK K (dCall (sd__law_read K A) (dCons (dVar 7) (dNil)))) (dNil)))))) (dOp rIx (dVar 3) (dVar 6))))) (sRet (dC (.bl false))) (sNext))))) (sRet (dC (.bl true))))
def d__law_stranger (K : PySem.W.Frag) (A : Ad) : DS := sSeq (sTry K (sDrop (dCall (sd_Tree_least K A) (dCons (dVar 0) (dCons (dC (.str ("unknownname" : Str))) (dNil))))) [(.ref A.c_UnknownName, some 1, fun a C dd => sRet (dOp rEq (dXf K a C dd "name" (dVar 1)) (dC (.str ("unknownname" : Str)))))]) (sRet (dC (.bl false)))
def d_law (K : PySem.W.Frag) (A : Ad) : DS := sSeq (sAsg (dCall (sd__law_source K A) (dCons (dVar 0) (dNil))) (gNm 1)) (sSeq (sAsg (dZK K (dCall (sd__law_names K A) (dCons (dVar 1) (dCons (dOp rAdd (dC (.int 1)) (dCall (sd__law_draw K A) (dCons (dVar 1) (dCons (dC (.int 3)) (dNil))))) (dNil))))) (gNm 2)) (sSeq (sAsg (dZK K (dCall (sd__law_kinds K A) (dCons (dVar 1) (dCons (dVar 2) (dCons (dC (.int 5)) (dCons (dC (.int 3)) (dNil))))))) (gNm 3)) (sSeq (sAsg (dZK K (dMake A.c_Grammar (sd_Grammar___init__ K A) (dCons (dLst (dCons (dC (.str ("one" : Str))) (dNil))) (dCons (dLc (iAny (dVar 3)) (.nm 5) (dYes) (dTup (dCons (dOp rIx (dVar 5) (dC (.int 0))) (dCons (dOp rIx (dVar 5) (dC (.int 1))) (dCons (dCB rList (dCons (dOp rIx (dVar 5) (dC (.int 2))) (dNil))) (dNil))))) [5]) (dNil))))) (gNm 4)) (sSeq (sAsg (dZK K (dCall (sd__law_by_depth K A) (dCons (dVar 3) (dCons (dVar 2) (dCons (dOp rAdd (dCB rLen (dCons (dVar 2) (dNil))) (dC (.int 1))) (dNil)))))) (gNm 6)) (sSeq (sIf (dOr (dNot (dB (dZK K (dCall (sd__law_sized K A) (dCons (dVar 4) (dCons (dVar 3) (dCons (dVar 2) (dCons (dVar 6) (dNil))))))))) (dNot (dB (dZK K (dCall (sd__law_stranger K A) (dCons (dVar 4) (dNil))))))) (sRet (dC (.bl false))) (sNext)) (sRet (dZK K (dCall (sd__law_sized K A) (dCons (dVar 4) (dCons (dVar 3) (dCons (dVar 2) (dCons (dVar 6) (dNil)))))))))))))
section
variable {P : Program} {K : PySem.W.Frag} {mg : Str → Option Value} {base : Heap} {A : Ad}
theorem h__in_order (T : Txt K mg A) {f : Addr} {cdv : Value} {A0 : Around} {outer : List PySem.Env} {s : Shared} {H U : Hp} {E : XK} (hr : Room 0 (A0.deeper (envOfC "_in_order" (defScope s__in_order) s.heap.objs.size f cdv))) :
    PSs (cxOf (L2.CX P Wd.w) P Wd.w K mg base N__in_order "_in_order" (defScope s__in_order) f cdv A0 outer s H E) (defBody s__in_order) (liftS ⟨K, U⟩ (fun cls d _ H => E cls d H) (d__in_order K A)) :=
  (dss_one (ds_ret (de_callTy (cd_list rfl rfl rfl) (by rfl) T.z_list dboot_list (da_cons (de_de (own := [("name", 1)]) (ct := .nm 1) (dt := dYes) (dk := dVar 1) (dv := dC (.bl true)) rfl (hu64 hr) rfl rfl sc__in_order.nd (di_any rfl (de_var 0)) (blkOk_by (N := N__in_order) (sc := defScope s__in_order) (by decide +kernel)) (by decide) (fun _ _ _ _ _ => (pg_name (i := 1) sc__in_order.nd rfl (by first | exact Or.inl rfl | exact Or.inr rfl))) (fun _ _ _ _ _ _ => dts_nil) (fun _ _ _ _ _ _ => (de_var 1)) (fun _ _ _ _ _ _ => de_bl)) da_nil))))
theorem h__least_sizes (T : Txt K mg A) {f : Addr} {cdv : Value} {A0 : Around} {outer : List PySem.Env} {s : Shared} {H U : Hp} {E : XK} (hr : Room 0 (A0.deeper (envOfC "_least_sizes" (defScope s__least_sizes) s.heap.objs.size f cdv))) :
    PSs (cxOf (L2.CX P Wd.w) P Wd.w K mg base N__least_sizes "_least_sizes" (defScope s__least_sizes) f cdv A0 outer s H E) (defBody s__least_sizes) (liftS ⟨K, U⟩ (fun cls d _ H => E cls d H) (d__least_sizes K A)) :=
  (dss_cons (ds_set (i := 1) sc__least_sizes.nd rfl (by first | exact Or.inl rfl | exact Or.inr rfl) de_dic) (dss_cons (ds_set (i := 2) sc__least_sizes.nd rfl (by first | exact Or.inl rfl | exact Or.inr rfl) de_dic) (dss_cons (ds_set (i := 3) sc__least_sizes.nd rfl (by first | exact Or.inl rfl | exact Or.inr rfl) de_bl) (dss_cons (ds_while (passes_of rfl) (dt_val (de_var 3)) (dss_cons (ds_set (i := 3) sc__least_sizes.nd rfl (by first | exact Or.inl rfl | exact Or.inr rfl) de_bl) (dss_one (ds_for (passes_of rfl) rfl (di_any rfl (de_var 0)) (fun _ => (dg_tup rfl rfl (dgs_cons (dg_name (i := 4) sc__least_sizes.nd rfl (by first | exact Or.inl rfl | exact Or.inr rfl)) (dgs_cons (dg_name (i := 5) sc__least_sizes.nd rfl (by first | exact Or.inl rfl | exact Or.inr rfl)) (dgs_cons (dg_name (i := 6) sc__least_sizes.nd rfl (by first | exact Or.inl rfl | exact Or.inr rfl)) dgs_nil))))) (fun _ => (dss_cons (ds_if (dt_val (de_callB (cd_any rfl rfl) (by rfl) T.z_any dboot_any (da_cons (de_lc (own := [("child", 7)]) (ct := .nm 7) (dt := dYes) (de := dOp rNin (dVar 7) (dVar 2)) rfl rfl sc__least_sizes.nd (di_any rfl (de_var 6)) (blkOk_by (N := N__least_sizes) (sc := defScope s__least_sizes) (by decide +kernel)) (by decide) (fun _ _ _ _ _ => (pg_name (i := 7) sc__least_sizes.nd rfl (by first | exact Or.inl rfl | exact Or.inr rfl))) (fun _ _ _ _ _ _ => dts_nil) (fun _ _ _ _ _ _ => (de_cmp (od_notIn rfl rfl (hu65 hr)) (de_var 7) (de_var 2) (by with_unfolding_all rfl)))) da_nil))) (dss_one ds_cont) dss_nil) (dss_cons (ds_set (i := 8) sc__least_sizes.nd rfl (by first | exact Or.inl rfl | exact Or.inr rfl) (de_op (od_add rfl) de_int (de_callB (cd_sum rfl rfl) (by rfl) T.z_sum dboot_sum (da_cons (de_lc (own := [("child", 7)]) (ct := .nm 7) (dt := dYes) (de := dOp rIx (dVar 2) (dVar 7)) rfl rfl sc__least_sizes.nd (di_any rfl (de_var 6)) (blkOk_by (N := N__least_sizes) (sc := defScope s__least_sizes) (by decide +kernel)) (by decide) (fun _ _ _ _ _ => (pg_name (i := 7) sc__least_sizes.nd rfl (by first | exact Or.inl rfl | exact Or.inr rfl))) (fun _ _ _ _ _ _ => dts_nil) (fun _ _ _ _ _ _ => (de_ix (od_ix rfl rfl (hu64 hr)) (de_var 2) (de_var 7)))) da_nil)))) (dss_cons (ds_if (dt_w (dw_or (dt_cmp (od_notIn rfl rfl (hu65 hr)) (de_var 4) (de_var 1) (by with_unfolding_all rfl)) (dw_or1 (dt_cmp od_lt (de_var 8) (de_ix (od_ix rfl rfl (hu64 hr)) (de_var 1) (de_var 4)) (nomark _))))) (dss_cons (ds_asg (de_var 8) (dg_sub rfl (hu64 hr) (de_var 1) (de_var 4))) (dss_one (ds_set (i := 3) sc__least_sizes.nd rfl (by first | exact Or.inl rfl | exact Or.inr rfl) de_bl))) dss_nil) (dss_one (ds_if (dt_w (dw_or (dt_cmp (od_notIn rfl rfl (hu65 hr)) (de_var 5) (de_var 2) (by with_unfolding_all rfl)) (dw_or1 (dt_cmp od_lt (de_var 8) (de_ix (od_ix rfl rfl (hu64 hr)) (de_var 2) (de_var 5)) (nomark _))))) (dss_one (ds_asg (de_var 8) (dg_sub rfl (hu64 hr) (de_var 2) (de_var 5)))) dss_nil)))))))))) (dss_one (ds_ret (de_var 1)))))))
theorem h__law_source (T : Txt K mg A) {f : Addr} {cdv : Value} {A0 : Around} {outer : List PySem.Env} {s : Shared} {H U : Hp} {E : XK} (hr : Room 0 (A0.deeper (envOfC "_law_source" (defScope s__law_source) s.heap.objs.size f cdv))) :
    PSs (cxOf (L2.CX P Wd.w) P Wd.w K mg base N__law_source "_law_source" (defScope s__law_source) f cdv A0 outer s H E) (defBody s__law_source) (liftS ⟨K, U⟩ (fun cls d _ H => E cls d H) (d__law_source K A)) :=
  (dss_cons (ds_setLc (i := 1) (own := [("_law_cell", 2)]) (ct := .nm 2) (dt := dYes) (de := dCB rInt (dCons (dVar 2) (dNil))) rfl rfl sc__law_source.nd rfl rfl (sw_true rfl rfl rfl (by decide +kernel)) (di_any rfl (de_slice rfl (de_var 0) do_none (do_some de_int))) (blkOk_by (N := N__law_source) (sc := defScope s__law_source) (by decide +kernel)) (by decide) (fun _ _ _ _ _ => (pg_name (i := 2) sc__law_source.nd rfl (by first | exact Or.inl rfl | exact Or.inr rfl))) (fun _ _ _ _ _ _ => dts_nil) (fun _ _ _ _ _ _ => (de_callTy cd_int (by rfl) T.z_int dboot_int (da_cons (de_var 2) da_nil)))) (dss_one (ds_ret (de_lst (da_cons (de_var 1) (da_cons (de_lc (own := [("_law_cell", 2)]) (ct := .nm 2) (dt := dYes) (de := dOp rGe (dVar 2) (dOp rPow (dC (.int 10)) (dC (.int 18)))) rfl rfl sc__law_source.nd (di_any rfl (de_var 1)) (blkOk_by (N := N__law_source) (sc := defScope s__law_source) (by decide +kernel)) (by decide) (fun _ _ _ _ _ => (pg_name (i := 2) sc__law_source.nd rfl (by first | exact Or.inl rfl | exact Or.inr rfl))) (fun _ _ _ _ _ _ => dts_nil) (fun _ _ _ _ _ _ => (de_cmp od_ge (de_var 2) (de_op od_pow de_int de_int) (nomark _)))) (da_cons de_int (da_cons de_int (da_cons (de_op od_mod (de_callTy cd_int (by rfl) T.z_int dboot_int (da_cons (de_callB (cd_sum rfl rfl) (by rfl) T.z_sum dboot_sum (da_cons (de_var 1) da_nil)) da_nil)) de_int) da_nil)))))))))
theorem h__law_draw (T : Txt K mg A) {f : Addr} {cdv : Value} {A0 : Around} {outer : List PySem.Env} {s : Shared} {H U : Hp} {E : XK} (hr : Room 0 (A0.deeper (envOfC "_law_draw" (defScope s__law_draw) s.heap.objs.size f cdv))) :
    PSs (cxOf (L2.CX P Wd.w) P Wd.w K mg base N__law_draw "_law_draw" (defScope s__law_draw) f cdv A0 outer s H E) (defBody s__law_draw) (liftS ⟨K, U⟩ (fun cls d _ H => E cls d H) (d__law_draw K A)) :=
  (dss_cons (ds_set (i := 2) sc__law_draw.nd rfl (by first | exact Or.inl rfl | exact Or.inr rfl) (de_ix (od_ix rfl rfl (hu64 hr)) (de_var 0) de_int)) (dss_cons (ds_set (i := 3) sc__law_draw.nd rfl (by first | exact Or.inl rfl | exact Or.inr rfl) (de_ix (od_ix rfl rfl (hu64 hr)) (de_var 0) de_int)) (dss_cons (ds_if (dt_cmp od_lt (de_var 3) (de_callB (cd_len rfl rfl) (by rfl) T.z_len PySem.boot_len (da_cons (de_var 2) da_nil)) (nomark _)) (dss_cons (ds_set (i := 4) sc__law_draw.nd rfl (by first | exact Or.inl rfl | exact Or.inr rfl) (de_ix (od_ix rfl rfl (hu64 hr)) (de_var 2) (de_var 3))) (dss_cons (ds_asg (de_op od_div (de_var 4) (de_var 1)) (dg_sub rfl (hu64 hr) (de_var 2) (de_var 3))) (dss_cons (ds_if (dt_w (dw_or (dt_not (dt_val (de_ix (od_ix rfl rfl (hu64 hr)) (de_ix (od_ix rfl rfl (hu64 hr)) (de_var 0) de_int) (de_var 3)))) (dw_or1 (dt_cmp (od_eq rfl (hu64 hr)) (de_ix (od_ix rfl rfl (hu64 hr)) (de_var 2) (de_var 3)) de_int (nomark _))))) (dss_one (ds_asg (de_op (od_add rfl) (de_var 3) de_int) (dg_sub rfl (hu64 hr) (de_var 0) de_int))) dss_nil) (dss_one (ds_ret (de_op od_mod (de_callTy cd_int (by rfl) T.z_int dboot_int (da_cons (de_var 4) da_nil)) (de_var 1))))))) dss_nil) (dss_cons (ds_if (dt_cmp (od_eq rfl (hu64 hr)) (de_ix (od_ix rfl rfl (hu64 hr)) (de_var 0) de_int) de_int (nomark _)) (dss_one (ds_ret de_int)) dss_nil) (dss_cons (ds_asg (de_op (od_add rfl) (de_ix (od_ix rfl rfl (hu64 hr)) (de_var 0) de_int) de_int) (dg_sub rfl (hu64 hr) (de_var 0) de_int)) (dss_cons (ds_set (i := 5) sc__law_draw.nd rfl (by first | exact Or.inl rfl | exact Or.inr rfl) (de_op od_mod (de_callTy cd_int (by rfl) T.z_int dboot_int (da_cons (de_op od_mul (de_op (od_add rfl) (de_ix (od_ix rfl rfl (hu64 hr)) (de_var 0) de_int) (de_op od_mul (de_ix (od_ix rfl rfl (hu64 hr)) (de_var 0) de_int) de_int)) de_int) da_nil)) de_int)) (dss_one (ds_ret (de_op od_mod (de_op od_div (de_op od_mod (de_callTy cd_int (by rfl) T.z_int dboot_int (da_cons (de_op od_mul (de_var 5) (de_var 5)) da_nil)) de_int) de_int) (de_var 1))))))))))
theorem h__law_by_depth (T : Txt K mg A) {f : Addr} {cdv : Value} {A0 : Around} {outer : List PySem.Env} {s : Shared} {H U : Hp} {E : XK} (hr : Room 0 (A0.deeper (envOfC "_law_by_depth" (defScope s__law_by_depth) s.heap.objs.size f cdv))) :
    PSs (cxOf (L2.CX P Wd.w) P Wd.w K mg base N__law_by_depth "_law_by_depth" (defScope s__law_by_depth) f cdv A0 outer s H E) (defBody s__law_by_depth) (liftS ⟨K, U⟩ (fun cls d _ H => E cls d H) (d__law_by_depth K A)) :=
  (dss_cons (ds_set (i := 3) sc__law_by_depth.nd rfl (by first | exact Or.inl rfl | exact Or.inr rfl) de_dic) (dss_cons (ds_for (passes_of rfl) rfl (di_range1 (by rfl) T.z_range (da_cons (de_var 2) da_nil)) (fun _ => (dg_name (i := 4) sc__law_by_depth.nd rfl (by first | exact Or.inl rfl | exact Or.inr rfl))) (fun _ => (dss_cons (ds_set (i := 5) sc__law_by_depth.nd rfl (by first | exact Or.inl rfl | exact Or.inr rfl) de_dic) (dss_cons (ds_for (passes_of rfl) rfl (di_any rfl (de_var 1)) (fun _ => (dg_name (i := 6) sc__law_by_depth.nd rfl (by first | exact Or.inl rfl | exact Or.inr rfl))) (fun _ => (dss_cons (ds_setLc (i := 7) (own := [("_law_kind", 8)]) (ct := .nm 8) (dt := dAnd (dB (dOp rEq (dOp rIx (dVar 8) (dC (.int 1))) (dVar 6))) (dB (dCB rAll (dCons (dLc (iAny (dOp rIx (dVar 8) (dC (.int 2)))) (.nm 9) (dYes) (dOp rIn (dVar 9) (dVar 3)) [9]) (dNil))))) (de := dVar 8) rfl rfl sc__law_by_depth.nd rfl rfl (sw_true rfl rfl rfl (by decide +kernel)) (di_any rfl (de_var 0)) (blkOk_by (N := N__law_by_depth) (sc := defScope s__law_by_depth) (by decide +kernel)) (by decide) (fun _ _ _ _ _ => (pg_name (i := 8) sc__law_by_depth.nd rfl (by first | exact Or.inl rfl | exact Or.inr rfl))) (fun _ _ _ _ _ _ => (dts_one (dt_w (dw_and (dt_cmp (od_eq rfl (hu64 hr)) (de_ix (od_ix rfl rfl (hu64 hr)) (de_var 8) de_int) (de_var 6) (nomark _)) (dw_and1 (dt_val (de_callB (cd_all rfl rfl) (by rfl) T.z_all dboot_all (da_cons (de_lc (own := [("_law_name", 9)]) (ct := .nm 9) (dt := dYes) (de := dOp rIn (dVar 9) (dVar 3)) rfl rfl sc__law_by_depth.nd (di_any rfl (de_ix (od_ix rfl rfl (hu64 hr)) (de_var 8) de_int)) (blkOk_by (N := N__law_by_depth) (sc := relS (lcSc (pathE [1, 1, 0] (defBody s__law_by_depth))) (defScope s__law_by_depth)) (by decide +kernel)) (by decide) (fun _ _ _ _ _ => (pg_name (i := 9) sc__law_by_depth.nd rfl (by first | exact Or.inl rfl | exact Or.inr rfl))) (fun _ _ _ _ _ _ => dts_nil) (fun _ _ _ _ _ _ => (de_cmp (od_in rfl rfl (hu65 hr)) (de_var 9) (de_var 3) (by with_unfolding_all rfl)))) da_nil)))))))) (fun _ _ _ _ _ _ => (de_var 8))) (dss_cons (ds_setLc (i := 10) (own := [("_law_kind", 8)]) (ct := .nm 8) (dt := dYes) (de := dOp rAdd (dC (.int 1)) (dCB rInt (dCons (dCB rSum (dCons (dLc (iAny (dOp rIx (dVar 8) (dC (.int 2)))) (.nm 9) (dYes) (dOp rIx (dVar 3) (dVar 9)) [9]) (dNil))) (dNil)))) rfl rfl sc__law_by_depth.nd rfl rfl (sw_true rfl rfl rfl (by decide +kernel)) (di_any rfl (de_var 7)) (blkOk_by (N := N__law_by_depth) (sc := defScope s__law_by_depth) (by decide +kernel)) (by decide) (fun _ _ _ _ _ => (pg_name (i := 8) sc__law_by_depth.nd rfl (by first | exact Or.inl rfl | exact Or.inr rfl))) (fun _ _ _ _ _ _ => dts_nil) (fun _ _ _ _ _ _ => (de_op (od_add rfl) de_int (de_callTy cd_int (by rfl) T.z_int dboot_int (da_cons (de_callB (cd_sum rfl rfl) (by rfl) T.z_sum dboot_sum (da_cons (de_lc (own := [("_law_name", 9)]) (ct := .nm 9) (dt := dYes) (de := dOp rIx (dVar 3) (dVar 9)) rfl rfl sc__law_by_depth.nd (di_any rfl (de_ix (od_ix rfl rfl (hu64 hr)) (de_var 8) de_int)) (blkOk_by (N := N__law_by_depth) (sc := relS (lcSc (pathE [1, 1, 1] (defBody s__law_by_depth))) (defScope s__law_by_depth)) (by decide +kernel)) (by decide) (fun _ _ _ _ _ => (pg_name (i := 9) sc__law_by_depth.nd rfl (by first | exact Or.inl rfl | exact Or.inr rfl))) (fun _ _ _ _ _ _ => dts_nil) (fun _ _ _ _ _ _ => (de_ix (od_ix rfl rfl (hu64 hr)) (de_var 3) (de_var 9)))) da_nil)) da_nil))))) (dss_one (ds_if (dt_cmp od_gt (de_callB (cd_len rfl rfl) (by rfl) T.z_len PySem.boot_len (da_cons (de_var 10) da_nil)) de_int (nomark _)) (dss_one (ds_asg (de_callB (cd_min rfl rfl) (by rfl) T.z_min dboot_min (da_cons (de_lc (own := [("_law_count_here", 11)]) (ct := .nm 11) (dt := dYes) (de := dCB rInt (dCons (dVar 11) (dNil))) rfl rfl sc__law_by_depth.nd (di_any rfl (de_var 10)) (blkOk_by (N := N__law_by_depth) (sc := defScope s__law_by_depth) (by decide +kernel)) (by decide) (fun _ _ _ _ _ => (pg_name (i := 11) sc__law_by_depth.nd rfl (by first | exact Or.inl rfl | exact Or.inr rfl))) (fun _ _ _ _ _ _ => dts_nil) (fun _ _ _ _ _ _ => (de_callTy cd_int (by rfl) T.z_int dboot_int (da_cons (de_var 11) da_nil)))) da_nil)) (dg_sub rfl (hu64 hr) (de_var 5) (de_var 6)))) dss_nil)))))) (dss_one (ds_set (i := 3) sc__law_by_depth.nd rfl (by first | exact Or.inl rfl | exact Or.inr rfl) (de_var 5))))))) (dss_one (ds_ret (by exact de_zK rfl (de_var 3))))))
theorem h__law_whole (T : Txt K mg A) {f : Addr} {cdv : Value} {A0 : Around} {outer : List PySem.Env} {s : Shared} {H U : Hp} {E : XK} (hr : Room 0 (A0.deeper (envOfC "_law_whole" (defScope s__law_whole) s.heap.objs.size f cdv))) :
    PSs (cxOf (L2.CX P Wd.w) P Wd.w K mg base N__law_whole "_law_whole" (defScope s__law_whole) f cdv A0 outer s H E) (defBody s__law_whole) (liftS ⟨K, U⟩ (fun cls d _ H => E cls d H) (d__law_whole K A)) :=
  (dss_one (ds_ret (de_and (de_callB (cd_isi rfl) (by rfl) T.z_isinstance dboot_isinstance (da_cons (de_var 0) (da_cons (de_type (by rfl) T.z_int dboot_int) da_nil))) (de_and (de_not (de_callB (cd_isi rfl) (by rfl) T.z_isinstance dboot_isinstance (da_cons (de_var 0) (da_cons (de_type (by rfl) T.z_bool dboot_bool) da_nil)))) (de_one (de_cmp (od_eq rfl (hu64 hr)) (de_var 0) (de_var 1) (nomark _)))))))
theorem h_LimitExceeded___init__ (T : Txt K mg A) {f : Addr} {cdv : Value} {A0 : Around} {outer : List PySem.Env} {s : Shared} {H U : Hp} {E : XK} (hr : Room 0 (A0.deeper (envOfC "LimitExceeded.__init__" (defScope s_LimitExceeded___init__) s.heap.objs.size f cdv))) :
    PSs (cxOf (L2.CX P Wd.w) P Wd.w K mg base N_LimitExceeded___init__ "LimitExceeded.__init__" (defScope s_LimitExceeded___init__) f cdv A0 outer s H E) (defBody s_LimitExceeded___init__) (liftS ⟨K, U⟩ (fun cls d _ H => E cls d H) (d_LimitExceeded___init__ K A)) :=
  (dss_one (ds_ost rfl (de_var 0) (de_var 1)))
theorem h_UnknownName___init__ (T : Txt K mg A) {f : Addr} {cdv : Value} {A0 : Around} {outer : List PySem.Env} {s : Shared} {H U : Hp} {E : XK} (hr : Room 0 (A0.deeper (envOfC "UnknownName.__init__" (defScope s_UnknownName___init__) s.heap.objs.size f cdv))) :
    PSs (cxOf (L2.CX P Wd.w) P Wd.w K mg base N_UnknownName___init__ "UnknownName.__init__" (defScope s_UnknownName___init__) f cdv A0 outer s H E) (defBody s_UnknownName___init__) (liftS ⟨K, U⟩ (fun cls d _ H => E cls d H) (d_UnknownName___init__ K A)) :=
  (dss_one (ds_ost rfl (de_var 0) (de_var 1)))
theorem h_BadGrammar___init__ (T : Txt K mg A) {f : Addr} {cdv : Value} {A0 : Around} {outer : List PySem.Env} {s : Shared} {H U : Hp} {E : XK} (hr : Room 0 (A0.deeper (envOfC "BadGrammar.__init__" (defScope s_BadGrammar___init__) s.heap.objs.size f cdv))) :
    PSs (cxOf (L2.CX P Wd.w) P Wd.w K mg base N_BadGrammar___init__ "BadGrammar.__init__" (defScope s_BadGrammar___init__) f cdv A0 outer s H E) (defBody s_BadGrammar___init__) (liftS ⟨K, U⟩ (fun cls d _ H => E cls d H) (d_BadGrammar___init__ K A)) :=
  (dss_one (ds_ost rfl (de_var 0) (de_var 1)))
theorem h_BadTree___init__ (T : Txt K mg A) {f : Addr} {cdv : Value} {A0 : Around} {outer : List PySem.Env} {s : Shared} {H U : Hp} {E : XK} (hr : Room 0 (A0.deeper (envOfC "BadTree.__init__" (defScope s_BadTree___init__) s.heap.objs.size f cdv))) :
    PSs (cxOf (L2.CX P Wd.w) P Wd.w K mg base N_BadTree___init__ "BadTree.__init__" (defScope s_BadTree___init__) f cdv A0 outer s H E) (defBody s_BadTree___init__) (liftS ⟨K, U⟩ (fun cls d _ H => E cls d H) (d_BadTree___init__ K A)) :=
  (dss_one (ds_ost rfl (de_var 0) (de_callTy (cd_tuple rfl rfl) (by rfl) T.z_tuple dboot_tuple (da_cons (de_var 1) da_nil))))
theorem h_Tree___iter__ (T : Txt K mg A) {f : Addr} {cdv : Value} {A0 : Around} {outer : List PySem.Env} {s : Shared} {H : Hp} {E : XK} :
    PSs (cxOf (L2.CX P Wd.w) P Wd.w K mg base N_Tree___iter__ "Tree.__iter__" (defScope s_Tree___iter__) f cdv A0 outer s H E) (defBody s_Tree___iter__) (tIterB K s.heap.objs.size "_children") :=
  (pss_one (ps_ret (pe_callB call_iterT (by rfl) T.z_iter dboot_iter (pa_cons (pe_fld (pe_var (i := 0) rfl (by first | exact Or.inl rfl | exact Or.inr (Or.inl rfl) | exact Or.inr (Or.inr rfl))) rfl) pa_nil))))
theorem h__law_read_r4 (T : Txt K mg A) {f : Addr} {cdv : Value} {A0 : Around} {outer : List PySem.Env} {s : Shared} {H U : Hp} {E : XK} (hr : Room 0 (A0.deeper (envOfC "_law_read" (defScope s__law_read_r4) s.heap.objs.size f cdv))) :
    PSs (cxOf (L2.CX P Wd.w) P Wd.w K mg base N__law_read_r4 "_law_read" (defScope s__law_read_r4) f cdv A0 outer s H E) (defBody s__law_read_r4) (liftS ⟨K, U⟩ (fun cls d _ H => E cls d H) (d__law_read_r4 K A)) :=
  dss_never
theorem h__law_count_r4 (T : Txt K mg A) {f : Addr} {cdv : Value} {A0 : Around} {outer : List PySem.Env} {s : Shared} {H U : Hp} {E : XK} (hr : Room 0 (A0.deeper (envOfC "_law_count" (defScope s__law_count_r4) s.heap.objs.size f cdv))) :
    PSs (cxOf (L2.CX P Wd.w) P Wd.w K mg base N__law_count_r4 "_law_count" (defScope s__law_count_r4) f cdv A0 outer s H E) (defBody s__law_count_r4) (liftS ⟨K, U⟩ (fun cls d _ H => E cls d H) (d__law_count_r4 K A)) :=
  dss_never
theorem h_Tree_least_r4 (T : Txt K mg A) {f : Addr} {cdv : Value} {A0 : Around} {outer : List PySem.Env} {s : Shared} {H U : Hp} {E : XK} (hr : Room 0 (A0.deeper (envOfC "Tree.least" (defScope s_Tree_least_r4) s.heap.objs.size f cdv))) :
    PSs (cxOf (L2.CX P Wd.w) P Wd.w K mg base N_Tree_least_r4 "Tree.least" (defScope s_Tree_least_r4) f cdv A0 outer s H E) (defBody s_Tree_least_r4) (liftS ⟨K, U⟩ (fun cls d _ H => E cls d H) (d_Tree_least_r4 K A)) :=
  dss_never
theorem h__law_names (T : Txt K mg A) (G__law_draw : FnD P Wd.w K mg base 1 A.f__law_draw (sd__law_draw K A)) {f : Addr} {cdv : Value} {A0 : Around} {outer : List PySem.Env} {s : Shared} {H U : Hp} {E : XK} (hr : Room 1 (A0.deeper (envOfC "_law_names" (defScope s__law_names) s.heap.objs.size f cdv))) :
    PSs (cxOf (L2.CX P Wd.w) P Wd.w K mg base N__law_names "_law_names" (defScope s__law_names) f cdv A0 outer s H E) (defBody s__law_names) (liftS ⟨K, U⟩ (fun cls d _ H => E cls d H) (d__law_names K A)) :=
  (dss_cons (ds_set (i := 2) sc__law_names.nd rfl (by first | exact Or.inl rfl | exact Or.inr rfl) de_str) (dss_cons (ds_set (i := 3) sc__law_names.nd rfl (by first | exact Or.inl rfl | exact Or.inr rfl) (de_call G__law_draw (hr.mono (by decide)) (by rfl) T.g__law_draw T.k__law_draw rfl (takes_of rfl rfl rfl rfl) (da_cons (de_var 0) (da_cons de_int da_nil)))) (dss_cons (ds_set (i := 4) sc__law_names.nd rfl (by first | exact Or.inl rfl | exact Or.inr rfl) (de_call G__law_draw (hr.mono (by decide)) (by rfl) T.g__law_draw T.k__law_draw rfl (takes_of rfl rfl rfl rfl) (da_cons (de_var 0) (da_cons de_int da_nil)))) (dss_cons (ds_set (i := 5) sc__law_names.nd rfl (by first | exact Or.inl rfl | exact Or.inr rfl) (de_call G__law_draw (hr.mono (by decide)) (by rfl) T.g__law_draw T.k__law_draw rfl (takes_of rfl rfl rfl rfl) (da_cons (de_var 0) (da_cons de_int da_nil)))) (dss_cons (ds_set (i := 6) sc__law_names.nd rfl (by first | exact Or.inl rfl | exact Or.inr rfl) (de_call G__law_draw (hr.mono (by decide)) (by rfl) T.g__law_draw T.k__law_draw rfl (takes_of rfl rfl rfl rfl) (da_cons (de_var 0) (da_cons de_int da_nil)))) (dss_cons (ds_set (i := 7) sc__law_names.nd rfl (by first | exact Or.inl rfl | exact Or.inr rfl) (de_ix (od_ix rfl rfl (hu64 hr)) (de_var 2) (de_call G__law_draw (hr.mono (by decide)) (by rfl) T.g__law_draw T.k__law_draw rfl (takes_of rfl rfl rfl rfl) (da_cons (de_var 0) (da_cons de_int da_nil))))) (dss_one (ds_ret (de_lc (own := [("_law_k", 8)]) (ct := .nm 8) (dt := dYes) (de := dOp rAdd (dOp rAdd (dOp rMul (dVar 7) (dVar 3)) (dOp rIx (dVar 2) (dOp rMod (dCB rInt (dCons (dOp rAdd (dVar 6) (dVar 8)) (dNil))) (dC (.int 26))))) (dOp rMul (dVar 7) (dOp rAdd (dVar 4) (dOp rMul (dVar 5) (dOp rMod (dCB rInt (dCons (dVar 8) (dNil))) (dC (.int 3))))))) rfl rfl sc__law_names.nd (di_range1 (by rfl) T.z_range (da_cons (de_var 1) da_nil)) (blkOk_by (N := N__law_names) (sc := defScope s__law_names) (by decide +kernel)) (by decide) (fun _ _ _ _ _ => (pg_name (i := 8) sc__law_names.nd rfl (by first | exact Or.inl rfl | exact Or.inr rfl))) (fun _ _ _ _ _ _ => dts_nil) (fun _ _ _ _ _ _ => (de_op (od_add rfl) (de_op (od_add rfl) (de_op od_mul (de_var 7) (de_var 3)) (de_ix (od_ix rfl rfl (hu64 hr)) (de_var 2) (de_op od_mod (de_callTy cd_int (by rfl) T.z_int dboot_int (da_cons (de_op (od_add rfl) (de_var 6) (de_var 8)) da_nil)) de_int))) (de_op od_mul (de_var 7) (de_op (od_add rfl) (de_var 4) (de_op od_mul (de_var 5) (de_op od_mod (de_callTy cd_int (by rfl) T.z_int dboot_int (da_cons (de_var 8) da_nil)) de_int)))))))))))))))
theorem h__law_count_r3 (T : Txt K mg A) (G__law_count_r4 : FnD P Wd.w K mg base 1 A.f__law_count_r4 (sd__law_count_r4 K A)) {f : Addr} {cdv : Value} {A0 : Around} {outer : List PySem.Env} {s : Shared} {H U : Hp} {E : XK} (hr : Room 1 (A0.deeper (envOfC "_law_count" (defScope s__law_count_r3) s.heap.objs.size f cdv))) :
    PSs (cxOf (L2.CX P Wd.w) P Wd.w K mg base N__law_count_r3 "_law_count" (defScope s__law_count_r3) f cdv A0 outer s H E) (defBody s__law_count_r3) (liftS ⟨K, U⟩ (fun cls d _ H => E cls d H) (d__law_count_r3 K A)) :=
  (dss_cons (ds_setLc (i := 3) (own := [("_law_kind", 4)]) (ct := .nm 4) (dt := dAnd (dB (dOp rEq (dOp rIx (dVar 4) (dC (.int 0))) (dOp rIx (dVar 2) (dC (.int 0))))) (dB (dOp rEq (dOp rIx (dVar 4) (dC (.int 1))) (dVar 1)))) (de := dVar 4) rfl rfl sc__law_count_r3.nd rfl rfl (sw_true rfl rfl rfl (by decide +kernel)) (di_any rfl (de_var 0)) (blkOk_by (N := N__law_count_r3) (sc := defScope s__law_count_r3) (by decide +kernel)) (by decide) (fun _ _ _ _ _ => (pg_name (i := 4) sc__law_count_r3.nd rfl (by first | exact Or.inl rfl | exact Or.inr rfl))) (fun _ _ _ _ _ _ => (dts_one (dt_w (dw_and (dt_cmp (od_eq rfl (hu64 hr)) (de_ix (od_ix rfl rfl (hu64 hr)) (de_var 4) de_int) (de_ix (od_ix rfl rfl (hu64 hr)) (de_var 2) de_int) (nomark _)) (dw_and1 (dt_cmp (od_eq rfl (hu64 hr)) (de_ix (od_ix rfl rfl (hu64 hr)) (de_var 4) de_int) (de_var 1) (nomark _))))))) (fun _ _ _ _ _ _ => (de_var 4))) (dss_cons (ds_if (dt_w (dw_or (dt_cmp (od_ne rfl (hu64 hr)) (de_callB (cd_len rfl rfl) (by rfl) T.z_len PySem.boot_len (da_cons (de_var 3) da_nil)) de_int (nomark _)) (dw_or1 (dt_cmp (od_ne rfl (hu64 hr)) (de_callB (cd_len rfl rfl) (by rfl) T.z_len PySem.boot_len (da_cons (de_ix (od_ix rfl rfl (hu64 hr)) (de_ix (od_ix rfl rfl (hu64 hr)) (de_var 3) de_int) de_int) da_nil)) (de_callB (cd_len rfl rfl) (by rfl) T.z_len PySem.boot_len (da_cons (de_ix (od_ix rfl rfl (hu64 hr)) (de_var 2) de_int) da_nil)) (nomark _))))) (dss_one (ds_ret de_int)) dss_nil) (dss_cons (ds_set (i := 5) sc__law_count_r3.nd rfl (by first | exact Or.inl rfl | exact Or.inr rfl) de_int) (dss_cons (ds_for (passes_of rfl) rfl (di_range1 (by rfl) T.z_range (da_cons (de_callB (cd_len rfl rfl) (by rfl) T.z_len PySem.boot_len (da_cons (de_ix (od_ix rfl rfl (hu64 hr)) (de_var 2) de_int) da_nil)) da_nil)) (fun _ => (dg_name (i := 6) sc__law_count_r3.nd rfl (by first | exact Or.inl rfl | exact Or.inr rfl))) (fun _ => (dss_cons (ds_set (i := 7) sc__law_count_r3.nd rfl (by first | exact Or.inl rfl | exact Or.inr rfl) (by exact de_zK rfl (de_call G__law_count_r4 (hr.mono (by decide)) (by rfl) T.g__law_count_r4 T.k__law_count_r4 rfl (takes_of rfl rfl rfl rfl) (da_cons (de_var 0) (da_cons (de_ix (od_ix rfl rfl (hu64 hr)) (de_ix (od_ix rfl rfl (hu64 hr)) (de_ix (od_ix rfl rfl (hu64 hr)) (de_var 3) de_int) de_int) (de_var 6)) (da_cons (de_ix (od_ix rfl rfl (hu64 hr)) (de_ix (od_ix rfl rfl (hu64 hr)) (de_var 2) de_int) (de_var 6)) da_nil)))))) (dss_cons (ds_if (dt_cmp (od_eq rfl (hu64 hr)) (de_var 7) de_int (nomark _)) (dss_one (ds_ret de_int)) dss_nil) (dss_one (ds_set (i := 5) sc__law_count_r3.nd rfl (by first | exact Or.inl rfl | exact Or.inr rfl) (de_op (od_add rfl) (de_var 5) (de_var 7)))))))) (dss_one (ds_ret (by exact de_zK rfl (de_var 5))))))))
theorem h__check_fields (T : Txt K mg A) (G__in_order : FnD P Wd.w K mg base 1 A.f__in_order (sd__in_order K A)) {fd_LimitExceeded___init__ : FuncData} (F_LimitExceeded___init__ : FnOk P Wd.w K mg base (L2.CX P Wd.w) 1 A.m_LimitExceeded___init__ fd_LimitExceeded___init__ ["self", "limit"] (spOf K (sd_LimitExceeded___init__ K A)) ∧ Binds K fd_LimitExceeded___init__ ["self", "limit"] []) {fd_BadGrammar___init__ : FuncData} (F_BadGrammar___init__ : FnOk P Wd.w K mg base (L2.CX P Wd.w) 1 A.m_BadGrammar___init__ fd_BadGrammar___init__ ["self", "part"] (spOf K (sd_BadGrammar___init__ K A)) ∧ Binds K fd_BadGrammar___init__ ["self", "part"] []) {f : Addr} {cdv : Value} {A0 : Around} {outer : List PySem.Env} {s : Shared} {H U : Hp} {E : XK} (hr : Room 2 (A0.deeper (envOfC "_check_fields" (defScope s__check_fields) s.heap.objs.size f cdv))) :
    PSs (cxOf (L2.CX P Wd.w) P Wd.w K mg base N__check_fields "_check_fields" (defScope s__check_fields) f cdv A0 outer s H E) (defBody s__check_fields) (liftS ⟨K, U⟩ (fun cls d _ H => E cls d H) (d__check_fields K A)) :=
  (dss_cons (ds_if (dt_cmp od_gt (de_callB (cd_len rfl rfl) (by rfl) T.z_len PySem.boot_len (da_cons (de_var 0) da_nil)) (de_con (de_globC (by rfl) T.g_Grammar)) (nomark _)) (dss_one (ds_raise rfl rfl (takes_of rfl rfl rfl rfl) T.ox_LimitExceeded T.ini_LimitExceeded T.ti_LimitExceeded F_LimitExceeded___init__.1 F_LimitExceeded___init__.2 (hr.mono (by decide)) (by rfl) T.g_LimitExceeded (da_cons de_str da_nil))) dss_nil) (dss_one (ds_if (dt_cmp od_lt (de_callB (cd_len rfl rfl) (by rfl) T.z_len PySem.boot_len (da_cons (de_call G__in_order (hr.mono (by decide)) (by rfl) T.g__in_order T.k__in_order rfl (takes_of rfl rfl rfl rfl) (da_cons (de_var 0) da_nil)) da_nil)) (de_callB (cd_len rfl rfl) (by rfl) T.z_len PySem.boot_len (da_cons (de_var 0) da_nil)) (nomark _)) (dss_one (ds_raise rfl rfl (takes_of rfl rfl rfl rfl) T.ox_BadGrammar T.ini_BadGrammar T.ti_BadGrammar F_BadGrammar___init__.1 F_BadGrammar___init__.2 (hr.mono (by decide)) (by rfl) T.g_BadGrammar (da_cons de_str da_nil))) dss_nil)))
theorem h__check_kinds (T : Txt K mg A) (G__in_order : FnD P Wd.w K mg base 1 A.f__in_order (sd__in_order K A)) {fd_BadGrammar___init__ : FuncData} (F_BadGrammar___init__ : FnOk P Wd.w K mg base (L2.CX P Wd.w) 1 A.m_BadGrammar___init__ fd_BadGrammar___init__ ["self", "part"] (spOf K (sd_BadGrammar___init__ K A)) ∧ Binds K fd_BadGrammar___init__ ["self", "part"] []) {fd_LimitExceeded___init__ : FuncData} (F_LimitExceeded___init__ : FnOk P Wd.w K mg base (L2.CX P Wd.w) 1 A.m_LimitExceeded___init__ fd_LimitExceeded___init__ ["self", "limit"] (spOf K (sd_LimitExceeded___init__ K A)) ∧ Binds K fd_LimitExceeded___init__ ["self", "limit"] []) {f : Addr} {cdv : Value} {A0 : Around} {outer : List PySem.Env} {s : Shared} {H U : Hp} {E : XK} (hr : Room 2 (A0.deeper (envOfC "_check_kinds" (defScope s__check_kinds) s.heap.objs.size f cdv))) :
    PSs (cxOf (L2.CX P Wd.w) P Wd.w K mg base N__check_kinds "_check_kinds" (defScope s__check_kinds) f cdv A0 outer s H E) (defBody s__check_kinds) (liftS ⟨K, U⟩ (fun cls d _ H => E cls d H) (d__check_kinds K A)) :=
  (dss_cons (ds_if (dt_w (dw_or (dt_cmp (od_eq rfl (hu64 hr)) (de_callB (cd_len rfl rfl) (by rfl) T.z_len PySem.boot_len (da_cons (de_var 0) da_nil)) de_int (nomark _)) (dw_or1 (dt_cmp od_lt (de_callB (cd_len rfl rfl) (by rfl) T.z_len PySem.boot_len (da_cons (de_call G__in_order (hr.mono (by decide)) (by rfl) T.g__in_order T.k__in_order rfl (takes_of rfl rfl rfl rfl) (da_cons (de_lc (own := [("row", 2)]) (ct := .nm 2) (dt := dYes) (de := dOp rIx (dVar 2) (dC (.int 0))) rfl rfl sc__check_kinds.nd (di_any rfl (de_var 0)) (blkOk_by (N := N__check_kinds) (sc := defScope s__check_kinds) (by decide +kernel)) (by decide) (fun _ _ _ _ _ => (pg_name (i := 2) sc__check_kinds.nd rfl (by first | exact Or.inl rfl | exact Or.inr rfl))) (fun _ _ _ _ _ _ => dts_nil) (fun _ _ _ _ _ _ => (de_ix (od_ix rfl rfl (hu64 hr)) (de_var 2) de_int))) da_nil)) da_nil)) (de_callB (cd_len rfl rfl) (by rfl) T.z_len PySem.boot_len (da_cons (de_var 0) da_nil)) (nomark _))))) (dss_one (ds_raise rfl rfl (takes_of rfl rfl rfl rfl) T.ox_BadGrammar T.ini_BadGrammar T.ti_BadGrammar F_BadGrammar___init__.1 F_BadGrammar___init__.2 (hr.mono (by decide)) (by rfl) T.g_BadGrammar (da_cons de_str da_nil))) dss_nil) (dss_cons (ds_if (dt_cmp od_gt (de_callB (cd_len rfl rfl) (by rfl) T.z_len PySem.boot_len (da_cons (de_var 0) da_nil)) (de_con (de_globC (by rfl) T.g_Grammar)) (nomark _)) (dss_one (ds_raise rfl rfl (takes_of rfl rfl rfl rfl) T.ox_LimitExceeded T.ini_LimitExceeded T.ti_LimitExceeded F_LimitExceeded___init__.1 F_LimitExceeded___init__.2 (hr.mono (by decide)) (by rfl) T.g_LimitExceeded (da_cons de_str da_nil))) dss_nil) (dss_cons (ds_if (dt_val (de_callB (cd_any rfl rfl) (by rfl) T.z_any dboot_any (da_cons (de_lc (own := [("row", 2)]) (ct := .nm 2) (dt := dYes) (de := dOp rGt (dCB rLen (dCons (dOp rIx (dVar 2) (dC (.int 2))) (dNil))) (dCon K (dC (.ptr A.c_Grammar)) "MOST_CHILDREN")) rfl rfl sc__check_kinds.nd (di_any rfl (de_var 0)) (blkOk_by (N := N__check_kinds) (sc := defScope s__check_kinds) (by decide +kernel)) (by decide) (fun _ _ _ _ _ => (pg_name (i := 2) sc__check_kinds.nd rfl (by first | exact Or.inl rfl | exact Or.inr rfl))) (fun _ _ _ _ _ _ => dts_nil) (fun _ _ _ _ _ _ => (de_cmp od_gt (de_callB (cd_len rfl rfl) (by rfl) T.z_len PySem.boot_len (da_cons (de_ix (od_ix rfl rfl (hu64 hr)) (de_var 2) de_int) da_nil)) (de_con (de_globC (by rfl) T.g_Grammar)) (nomark _)))) da_nil))) (dss_one (ds_raise rfl rfl (takes_of rfl rfl rfl rfl) T.ox_LimitExceeded T.ini_LimitExceeded T.ti_LimitExceeded F_LimitExceeded___init__.1 F_LimitExceeded___init__.2 (hr.mono (by decide)) (by rfl) T.g_LimitExceeded (da_cons de_str da_nil))) dss_nil) (dss_cons (ds_if (dt_cmp od_gt (de_callB (cd_len rfl rfl) (by rfl) T.z_len PySem.boot_len (da_cons (de_var 1) da_nil)) (de_con (de_globC (by rfl) T.g_Grammar)) (nomark _)) (dss_one (ds_raise rfl rfl (takes_of rfl rfl rfl rfl) T.ox_LimitExceeded T.ini_LimitExceeded T.ti_LimitExceeded F_LimitExceeded___init__.1 F_LimitExceeded___init__.2 (hr.mono (by decide)) (by rfl) T.g_LimitExceeded (da_cons de_str da_nil))) dss_nil) (dss_one (ds_if (dt_val (de_callB (cd_any rfl rfl) (by rfl) T.z_any dboot_any (da_cons (de_lc2 (own := [("row", 2), ("child", 3)]) (vs1 := [3]) (ct := .nm 2) (ct1 := .nm 3) (dt := dYes) (di1 := iAny (dOp rIx (dVar 2) (dC (.int 2)))) (dt1 := dYes) (de := dOp rNin (dVar 3) (dVar 1)) rfl rfl sc__check_kinds.nd (di_any rfl (de_var 0)) (blkOk_by (N := N__check_kinds) (sc := defScope s__check_kinds) (by decide +kernel)) (by decide) (by decide) (by decide) (fun _ _ _ _ _ => (pg_name (i := 2) sc__check_kinds.nd rfl (by first | exact Or.inl rfl | exact Or.inr rfl))) (fun _ _ _ _ _ _ => dts_nil) (fun _ _ _ _ _ _ => (di_any rfl (de_ix (od_ix rfl rfl (hu64 hr)) (de_var 2) de_int))) (fun _ _ _ _ _ => (pg_name (i := 3) sc__check_kinds.nd rfl (by first | exact Or.inl rfl | exact Or.inr rfl))) (fun _ _ _ _ _ _ => dts_nil) (fun _ _ _ _ _ _ => (de_cmp (od_notIn rfl rfl (hu65 hr)) (de_var 3) (de_var 1) (by with_unfolding_all rfl)))) da_nil))) (dss_one (ds_raise rfl rfl (takes_of rfl rfl rfl rfl) T.ox_BadGrammar T.ini_BadGrammar T.ti_BadGrammar F_BadGrammar___init__.1 F_BadGrammar___init__.2 (hr.mono (by decide)) (by rfl) T.g_BadGrammar (da_cons de_str da_nil))) dss_nil))))))
theorem h__law_kinds (T : Txt K mg A) (G__law_draw : FnD P Wd.w K mg base 1 A.f__law_draw (sd__law_draw K A)) (G__law_names : FnD P Wd.w K mg base 2 A.f__law_names (sd__law_names K A)) {f : Addr} {cdv : Value} {A0 : Around} {outer : List PySem.Env} {s : Shared} {H U : Hp} {E : XK} (hr : Room 2 (A0.deeper (envOfC "_law_kinds" (defScope s__law_kinds) s.heap.objs.size f cdv))) :
    PSs (cxOf (L2.CX P Wd.w) P Wd.w K mg base N__law_kinds "_law_kinds" (defScope s__law_kinds) f cdv A0 outer s H E) (defBody s__law_kinds) (liftS ⟨K, U⟩ (fun cls d _ H => E cls d H) (d__law_kinds K A)) :=
  (dss_cons (ds_set (i := 4) sc__law_kinds.nd rfl (by first | exact Or.inl rfl | exact Or.inr rfl) (de_op (od_add rfl) (de_callB (cd_len rfl rfl) (by rfl) T.z_len PySem.boot_len (da_cons (de_var 1) da_nil)) (de_call G__law_draw (hr.mono (by decide)) (by rfl) T.g__law_draw T.k__law_draw rfl (takes_of rfl rfl rfl rfl) (da_cons (de_var 0) (da_cons (de_op (od_add rfl) (de_var 2) de_int) da_nil))))) (dss_cons (ds_set (i := 5) sc__law_kinds.nd rfl (by first | exact Or.inl rfl | exact Or.inr rfl) (by exact de_zK rfl (de_call G__law_names (hr.mono (by decide)) (by rfl) T.g__law_names T.k__law_names rfl (takes_of rfl rfl rfl rfl) (da_cons (de_var 0) (da_cons (de_var 4) da_nil))))) (dss_cons (ds_set (i := 6) sc__law_kinds.nd rfl (by first | exact Or.inl rfl | exact Or.inr rfl) (de_lst da_nil)) (dss_cons (ds_for (passes_of rfl) rfl (di_range1 (by rfl) T.z_range (da_cons (de_var 4) da_nil)) (fun _ => (dg_name (i := 7) sc__law_kinds.nd rfl (by first | exact Or.inl rfl | exact Or.inr rfl))) (fun _ => (dss_cons (ds_set (i := 8) sc__law_kinds.nd rfl (by first | exact Or.inl rfl | exact Or.inr rfl) (de_if (dt_cmp od_lt (de_var 7) (de_callB (cd_len rfl rfl) (by rfl) T.z_len PySem.boot_len (da_cons (de_var 1) da_nil)) (nomark _)) (de_ix (od_ix rfl rfl (hu64 hr)) (de_var 1) (de_var 7)) (de_ix (od_ix rfl rfl (hu64 hr)) (de_var 1) (de_call G__law_draw (hr.mono (by decide)) (by rfl) T.g__law_draw T.k__law_draw rfl (takes_of rfl rfl rfl rfl) (da_cons (de_var 0) (da_cons (de_callB (cd_len rfl rfl) (by rfl) T.z_len PySem.boot_len (da_cons (de_var 1) da_nil)) da_nil)))))) (dss_cons (ds_set (i := 9) sc__law_kinds.nd rfl (by first | exact Or.inl rfl | exact Or.inr rfl) (de_callB (cd_min rfl rfl) (by rfl) T.z_min dboot_min (da_cons (de_var 7) (da_cons (de_callTy cd_int (by rfl) T.z_int dboot_int (da_cons (de_callB (cd_len rfl rfl) (by rfl) T.z_len PySem.boot_len (da_cons (de_var 1) da_nil)) da_nil)) da_nil)))) (dss_cons (ds_set (i := 10) sc__law_kinds.nd rfl (by first | exact Or.inl rfl | exact Or.inr rfl) (de_lst da_nil)) (dss_cons (ds_if (dt_cmp od_gt (de_var 9) de_int (nomark _)) (dss_one (ds_setLc (i := 10) (own := [("_law_n", 11)]) (ct := .nm 11) (dt := dYes) (de := dOp rIx (dVar 1) (dCall (sd__law_draw K A) (dCons (dVar 0) (dCons (dVar 9) (dNil))))) rfl rfl sc__law_kinds.nd rfl rfl (sw_true rfl rfl rfl (by decide +kernel)) (di_range1 (by rfl) T.z_range (da_cons (de_call G__law_draw (hr.mono (by decide)) (by rfl) T.g__law_draw T.k__law_draw rfl (takes_of rfl rfl rfl rfl) (da_cons (de_var 0) (da_cons (de_op (od_add rfl) (de_var 3) de_int) da_nil))) da_nil)) (blkOk_by (N := N__law_kinds) (sc := defScope s__law_kinds) (by decide +kernel)) (by decide) (fun _ _ _ _ _ => (pg_name (i := 11) sc__law_kinds.nd rfl (by first | exact Or.inl rfl | exact Or.inr rfl))) (fun _ _ _ _ _ _ => dts_nil) (fun _ _ _ _ _ _ => (de_ix (od_ix rfl rfl (hu64 hr)) (de_var 1) (de_call G__law_draw (hr.mono (by decide)) (by rfl) T.g__law_draw T.k__law_draw rfl takes0 (da_cons (de_var 0) (da_cons (de_var 9) da_nil))))))) dss_nil) (dss_one (ds_expr (de_bm PySem.F.plainAttrs_list PySem.F.slot_list_append PySem.F.type_list_append rfl md_append (de_var 6) (da_cons (de_tup (da_cons (de_ix (od_ix rfl rfl (hu64 hr)) (de_var 5) (de_var 7)) (da_cons (de_var 8) (da_cons (de_var 10) da_nil)))) da_nil)))))))))) (dss_cons (ds_set (i := 12) sc__law_kinds.nd rfl (by first | exact Or.inl rfl | exact Or.inr rfl) (de_call G__law_draw (hr.mono (by decide)) (by rfl) T.g__law_draw T.k__law_draw rfl (takes_of rfl rfl rfl rfl) (da_cons (de_var 0) (da_cons (de_var 4) da_nil)))) (dss_one (ds_ret (de_op (od_add rfl) (de_slice rfl (de_var 6) (do_some (de_var 12)) do_none) (de_slice rfl (de_var 6) do_none (do_some (de_var 12)))))))))))
theorem h_Grammar_kinds_of (T : Txt K mg A) {fd_UnknownName___init__ : FuncData} (F_UnknownName___init__ : FnOk P Wd.w K mg base (L2.CX P Wd.w) 1 A.m_UnknownName___init__ fd_UnknownName___init__ ["self", "name"] (spOf K (sd_UnknownName___init__ K A)) ∧ Binds K fd_UnknownName___init__ ["self", "name"] []) {f : Addr} {cdv : Value} {A0 : Around} {outer : List PySem.Env} {s : Shared} {H U : Hp} {E : XK} (hr : Room 2 (A0.deeper (envOfC "Grammar.kinds_of" (defScope s_Grammar_kinds_of) s.heap.objs.size f cdv))) :
    PSs (cxOf (L2.CX P Wd.w) P Wd.w K mg base N_Grammar_kinds_of "Grammar.kinds_of" (defScope s_Grammar_kinds_of) f cdv A0 outer s H E) (defBody s_Grammar_kinds_of) (liftS ⟨K, U⟩ (fun cls d _ H => E cls d H) (d_Grammar_kinds_of K A)) :=
  (dss_cons (ds_if (dt_cmp (od_notIn rfl rfl (hu65 hr)) (de_var 1) (de_fld rfl (de_var 0)) (by with_unfolding_all rfl)) (dss_one (ds_raise rfl rfl (takes_of rfl rfl rfl rfl) T.ox_UnknownName T.ini_UnknownName T.ti_UnknownName F_UnknownName___init__.1 F_UnknownName___init__.2 (hr.mono (by decide)) (by rfl) T.g_UnknownName (da_cons (de_var 1) da_nil))) dss_nil) (dss_one (ds_ret (de_callTy (cd_tuple rfl rfl) (by rfl) T.z_tuple dboot_tuple (da_cons (de_lc (own := [("kind", 2)]) (ct := .nm 2) (dt := dB (dOp rEq (dOp rIx (dFld K (dVar 0) "_families") (dVar 2)) (dVar 1))) (de := dVar 2) rfl rfl sc_Grammar_kinds_of.nd (di_any rfl (de_fld rfl (de_var 0))) (blkOk_by (N := N_Grammar_kinds_of) (sc := defScope s_Grammar_kinds_of) (by decide +kernel)) (by decide) (fun _ _ _ _ _ => (pg_name (i := 2) sc_Grammar_kinds_of.nd rfl (by first | exact Or.inl rfl | exact Or.inr rfl))) (fun _ _ _ _ _ _ => (dts_one (dt_cmp (od_eq rfl (hu64 hr)) (de_ix (od_ix rfl rfl (hu64 hr)) (de_fld rfl (de_var 0)) (de_var 2)) (de_var 1) (nomark _)))) (fun _ _ _ _ _ _ => (de_var 2))) da_nil)))))
theorem h_Grammar__check_kind (T : Txt K mg A) {fd_UnknownName___init__ : FuncData} (F_UnknownName___init__ : FnOk P Wd.w K mg base (L2.CX P Wd.w) 1 A.m_UnknownName___init__ fd_UnknownName___init__ ["self", "name"] (spOf K (sd_UnknownName___init__ K A)) ∧ Binds K fd_UnknownName___init__ ["self", "name"] []) {f : Addr} {cdv : Value} {A0 : Around} {outer : List PySem.Env} {s : Shared} {H U : Hp} {E : XK} (hr : Room 2 (A0.deeper (envOfC "Grammar._check_kind" (defScope s_Grammar__check_kind) s.heap.objs.size f cdv))) :
    PSs (cxOf (L2.CX P Wd.w) P Wd.w K mg base N_Grammar__check_kind "Grammar._check_kind" (defScope s_Grammar__check_kind) f cdv A0 outer s H E) (defBody s_Grammar__check_kind) (liftS ⟨K, U⟩ (fun cls d _ H => E cls d H) (d_Grammar__check_kind K A)) :=
  (dss_one (ds_if (dt_cmp (od_notIn rfl rfl (hu65 hr)) (de_var 1) (de_fld rfl (de_var 0)) (by with_unfolding_all rfl)) (dss_one (ds_raise rfl rfl (takes_of rfl rfl rfl rfl) T.ox_UnknownName T.ini_UnknownName T.ti_UnknownName F_UnknownName___init__.1 F_UnknownName___init__.2 (hr.mono (by decide)) (by rfl) T.g_UnknownName (da_cons (de_var 1) da_nil))) dss_nil))
theorem h__law_read_r3 (T : Txt K mg A) (G_Tree___iter__ : IterFn P Wd.w K mg base 1 A.m_Tree___iter__ "_children") (G__law_read_r4 : FnD P Wd.w K mg base 1 A.f__law_read_r4 (sd__law_read_r4 K A)) {f : Addr} {cdv : Value} {A0 : Around} {outer : List PySem.Env} {s : Shared} {H U : Hp} {E : XK} (hr : Room 2 (A0.deeper (envOfC "_law_read" (defScope s__law_read_r3) s.heap.objs.size f cdv))) :
    PSs (cxOf (L2.CX P Wd.w) P Wd.w K mg base N__law_read_r3 "_law_read" (defScope s__law_read_r3) f cdv A0 outer s H E) (defBody s__law_read_r3) (liftS ⟨K, U⟩ (fun cls d _ H => E cls d H) (d__law_read_r3 K A)) :=
  (dss_one (ds_ret (de_lst (da_cons (de_fld rfl (de_var 0)) (da_cons (de_lc (own := [("_law_child", 1)]) (ct := .nm 1) (dt := dYes) (de := dZK K (dCall (sd__law_read_r4 K A) (dCons (dVar 1) (dNil)))) rfl rfl sc__law_read_r3.nd (di_own rfl T.it_Tree___iter__ T.fo_Tree__children G_Tree___iter__ (hr.mono (by decide)) (de_var 0)) (blkOk_by (N := N__law_read_r3) (sc := defScope s__law_read_r3) (by decide +kernel)) (by decide) (fun _ _ _ _ _ => (pg_name (i := 1) sc__law_read_r3.nd rfl (by first | exact Or.inl rfl | exact Or.inr rfl))) (fun _ _ _ _ _ _ => dts_nil) (fun _ _ _ _ _ _ => (by exact de_zK rfl (de_call G__law_read_r4 (hr.mono (by decide)) (by rfl) T.g__law_read_r4 T.k__law_read_r4 rfl takes0 (da_cons (de_var 1) da_nil))))) da_nil)))))
theorem h__law_count_r2 (T : Txt K mg A) (G__law_count_r3 : FnD P Wd.w K mg base 2 A.f__law_count_r3 (sd__law_count_r3 K A)) {f : Addr} {cdv : Value} {A0 : Around} {outer : List PySem.Env} {s : Shared} {H U : Hp} {E : XK} (hr : Room 2 (A0.deeper (envOfC "_law_count" (defScope s__law_count_r2) s.heap.objs.size f cdv))) :
    PSs (cxOf (L2.CX P Wd.w) P Wd.w K mg base N__law_count_r2 "_law_count" (defScope s__law_count_r2) f cdv A0 outer s H E) (defBody s__law_count_r2) (liftS ⟨K, U⟩ (fun cls d _ H => E cls d H) (d__law_count_r2 K A)) :=
  (dss_cons (ds_setLc (i := 3) (own := [("_law_kind", 4)]) (ct := .nm 4) (dt := dAnd (dB (dOp rEq (dOp rIx (dVar 4) (dC (.int 0))) (dOp rIx (dVar 2) (dC (.int 0))))) (dB (dOp rEq (dOp rIx (dVar 4) (dC (.int 1))) (dVar 1)))) (de := dVar 4) rfl rfl sc__law_count_r2.nd rfl rfl (sw_true rfl rfl rfl (by decide +kernel)) (di_any rfl (de_var 0)) (blkOk_by (N := N__law_count_r2) (sc := defScope s__law_count_r2) (by decide +kernel)) (by decide) (fun _ _ _ _ _ => (pg_name (i := 4) sc__law_count_r2.nd rfl (by first | exact Or.inl rfl | exact Or.inr rfl))) (fun _ _ _ _ _ _ => (dts_one (dt_w (dw_and (dt_cmp (od_eq rfl (hu64 hr)) (de_ix (od_ix rfl rfl (hu64 hr)) (de_var 4) de_int) (de_ix (od_ix rfl rfl (hu64 hr)) (de_var 2) de_int) (nomark _)) (dw_and1 (dt_cmp (od_eq rfl (hu64 hr)) (de_ix (od_ix rfl rfl (hu64 hr)) (de_var 4) de_int) (de_var 1) (nomark _))))))) (fun _ _ _ _ _ _ => (de_var 4))) (dss_cons (ds_if (dt_w (dw_or (dt_cmp (od_ne rfl (hu64 hr)) (de_callB (cd_len rfl rfl) (by rfl) T.z_len PySem.boot_len (da_cons (de_var 3) da_nil)) de_int (nomark _)) (dw_or1 (dt_cmp (od_ne rfl (hu64 hr)) (de_callB (cd_len rfl rfl) (by rfl) T.z_len PySem.boot_len (da_cons (de_ix (od_ix rfl rfl (hu64 hr)) (de_ix (od_ix rfl rfl (hu64 hr)) (de_var 3) de_int) de_int) da_nil)) (de_callB (cd_len rfl rfl) (by rfl) T.z_len PySem.boot_len (da_cons (de_ix (od_ix rfl rfl (hu64 hr)) (de_var 2) de_int) da_nil)) (nomark _))))) (dss_one (ds_ret de_int)) dss_nil) (dss_cons (ds_set (i := 5) sc__law_count_r2.nd rfl (by first | exact Or.inl rfl | exact Or.inr rfl) de_int) (dss_cons (ds_for (passes_of rfl) rfl (di_range1 (by rfl) T.z_range (da_cons (de_callB (cd_len rfl rfl) (by rfl) T.z_len PySem.boot_len (da_cons (de_ix (od_ix rfl rfl (hu64 hr)) (de_var 2) de_int) da_nil)) da_nil)) (fun _ => (dg_name (i := 6) sc__law_count_r2.nd rfl (by first | exact Or.inl rfl | exact Or.inr rfl))) (fun _ => (dss_cons (ds_set (i := 7) sc__law_count_r2.nd rfl (by first | exact Or.inl rfl | exact Or.inr rfl) (by exact de_zK rfl (de_call G__law_count_r3 (hr.mono (by decide)) (by rfl) T.g__law_count_r3 T.k__law_count_r3 rfl (takes_of rfl rfl rfl rfl) (da_cons (de_var 0) (da_cons (de_ix (od_ix rfl rfl (hu64 hr)) (de_ix (od_ix rfl rfl (hu64 hr)) (de_ix (od_ix rfl rfl (hu64 hr)) (de_var 3) de_int) de_int) (de_var 6)) (da_cons (de_ix (od_ix rfl rfl (hu64 hr)) (de_ix (od_ix rfl rfl (hu64 hr)) (de_var 2) de_int) (de_var 6)) da_nil)))))) (dss_cons (ds_if (dt_cmp (od_eq rfl (hu64 hr)) (de_var 7) de_int (nomark _)) (dss_one (ds_ret de_int)) dss_nil) (dss_one (ds_set (i := 5) sc__law_count_r2.nd rfl (by first | exact Or.inl rfl | exact Or.inr rfl) (de_op (od_add rfl) (de_var 5) (de_var 7)))))))) (dss_one (ds_ret (by exact de_zK rfl (de_var 5))))))))
theorem h_Grammar___init__ (T : Txt K mg A) (G__in_order : FnD P Wd.w K mg base 1 A.f__in_order (sd__in_order K A)) (G__check_fields : FnD P Wd.w K mg base 3 A.f__check_fields (sd__check_fields K A)) (G__check_kinds : FnD P Wd.w K mg base 3 A.f__check_kinds (sd__check_kinds K A)) (G__least_sizes : FnD P Wd.w K mg base 1 A.f__least_sizes (sd__least_sizes K A)) {fd_BadGrammar___init__ : FuncData} (F_BadGrammar___init__ : FnOk P Wd.w K mg base (L2.CX P Wd.w) 1 A.m_BadGrammar___init__ fd_BadGrammar___init__ ["self", "part"] (spOf K (sd_BadGrammar___init__ K A)) ∧ Binds K fd_BadGrammar___init__ ["self", "part"] []) {f : Addr} {cdv : Value} {A0 : Around} {outer : List PySem.Env} {s : Shared} {H U : Hp} {E : XK} (hr : Room 3 (A0.deeper (envOfC "Grammar.__init__" (defScope s_Grammar___init__) s.heap.objs.size f cdv))) :
    PSs (cxOf (L2.CX P Wd.w) P Wd.w K mg base N_Grammar___init__ "Grammar.__init__" (defScope s_Grammar___init__) f cdv A0 outer s H E) (defBody s_Grammar___init__) (liftS ⟨K, U⟩ (fun cls d _ H => E cls d H) (d_Grammar___init__ K A)) :=
  (dss_cons (ds_setLc (i := 4) (own := [("name", 5), ("family", 6), ("children", 7)]) (ct := .tp [5, 6, 7]) (dt := dYes) (de := dTup (dCons (dVar 5) (dCons (dVar 6) (dCons (dCB rTuple (dCons (dVar 7) (dNil))) (dNil))))) rfl rfl sc_Grammar___init__.nd rfl rfl (sw_true rfl rfl rfl (by decide +kernel)) (di_any rfl (de_var 2)) (blkOk_by (N := N_Grammar___init__) (sc := defScope s_Grammar___init__) (by decide +kernel)) (by decide) (fun _ _ _ _ _ => (pg_tup rfl (pgs_cons (pg_name (i := 5) sc_Grammar___init__.nd rfl (by first | exact Or.inl rfl | exact Or.inr rfl)) (pgs_cons (pg_name (i := 6) sc_Grammar___init__.nd rfl (by first | exact Or.inl rfl | exact Or.inr rfl)) (pgs_cons (pg_name (i := 7) sc_Grammar___init__.nd rfl (by first | exact Or.inl rfl | exact Or.inr rfl)) pgs_nil))))) (fun _ _ _ _ _ _ => dts_nil) (fun _ _ _ _ _ _ => (de_tup (da_cons (de_var 5) (da_cons (de_var 6) (da_cons (de_callTy (cd_tuple rfl rfl) (by rfl) T.z_tuple dboot_tuple (da_cons (de_var 7) da_nil)) da_nil)))))) (dss_cons (ds_set (i := 8) sc_Grammar___init__.nd rfl (by first | exact Or.inl rfl | exact Or.inr rfl) (de_call G__in_order (hr.mono (by decide)) (by rfl) T.g__in_order T.k__in_order rfl (takes_of rfl rfl rfl rfl) (da_cons (de_lc (own := [("row", 9)]) (ct := .nm 9) (dt := dYes) (de := dOp rIx (dVar 9) (dC (.int 1))) rfl rfl sc_Grammar___init__.nd (di_any rfl (de_var 4)) (blkOk_by (N := N_Grammar___init__) (sc := defScope s_Grammar___init__) (by decide +kernel)) (by decide) (fun _ _ _ _ _ => (pg_name (i := 9) sc_Grammar___init__.nd rfl (by first | exact Or.inl rfl | exact Or.inr rfl))) (fun _ _ _ _ _ _ => dts_nil) (fun _ _ _ _ _ _ => (de_ix (od_ix rfl rfl (hu64 hr)) (de_var 9) de_int))) da_nil))) (dss_cons (ds_expr (de_call G__check_fields (hr.mono (by decide)) (by rfl) T.g__check_fields T.k__check_fields rfl (takes_of rfl rfl rfl rfl) (da_cons (de_var 1) da_nil))) (dss_cons (ds_expr (de_call G__check_kinds (hr.mono (by decide)) (by rfl) T.g__check_kinds T.k__check_kinds rfl (takes_of rfl rfl rfl rfl) (da_cons (de_var 4) (da_cons (de_var 8) da_nil)))) (dss_cons (ds_if (dt_w (dw_and (dt_cmp od_isNot (de_var 3) de_non (nomark _)) (dw_and1 (dt_cmp (od_notIn rfl rfl (hu65 hr)) (de_var 3) (de_var 8) (by with_unfolding_all rfl))))) (dss_one (ds_raise rfl rfl (takes_of rfl rfl rfl rfl) T.ox_BadGrammar T.ini_BadGrammar T.ti_BadGrammar F_BadGrammar___init__.1 F_BadGrammar___init__.2 (hr.mono (by decide)) (by rfl) T.g_BadGrammar (da_cons de_str da_nil))) dss_nil) (dss_cons (ds_set (i := 10) sc_Grammar___init__.nd rfl (by first | exact Or.inl rfl | exact Or.inr rfl) (by exact de_zK rfl (de_call G__least_sizes (hr.mono (by decide)) (by rfl) T.g__least_sizes T.k__least_sizes rfl (takes_of rfl rfl rfl rfl) (da_cons (de_var 4) da_nil)))) (dss_cons (ds_if (dt_cmp od_lt (de_callB (cd_len rfl rfl) (by rfl) T.z_len PySem.boot_len (da_cons (de_var 10) da_nil)) (de_callB (cd_len rfl rfl) (by rfl) T.z_len PySem.boot_len (da_cons (de_var 4) da_nil)) (nomark _)) (dss_one (ds_raise rfl rfl (takes_of rfl rfl rfl rfl) T.ox_BadGrammar T.ini_BadGrammar T.ti_BadGrammar F_BadGrammar___init__.1 F_BadGrammar___init__.2 (hr.mono (by decide)) (by rfl) T.g_BadGrammar (da_cons de_str da_nil))) dss_nil) (dss_cons (ds_fld rfl (de_var 0) (de_callTy (cd_tuple rfl rfl) (by rfl) T.z_tuple dboot_tuple (da_cons (de_var 1) da_nil))) (dss_cons (ds_fld rfl (de_var 0) (de_callTy (cd_tuple rfl rfl) (by rfl) T.z_tuple dboot_tuple (da_cons (de_lc (own := [("row", 9)]) (ct := .nm 9) (dt := dYes) (de := dOp rIx (dVar 9) (dC (.int 0))) rfl rfl sc_Grammar___init__.nd (di_any rfl (de_var 4)) (blkOk_by (N := N_Grammar___init__) (sc := defScope s_Grammar___init__) (by decide +kernel)) (by decide) (fun _ _ _ _ _ => (pg_name (i := 9) sc_Grammar___init__.nd rfl (by first | exact Or.inl rfl | exact Or.inr rfl))) (fun _ _ _ _ _ _ => dts_nil) (fun _ _ _ _ _ _ => (de_ix (od_ix rfl rfl (hu64 hr)) (de_var 9) de_int))) da_nil))) (dss_cons (ds_fld rfl (de_var 0) (de_callTy (cd_tuple rfl rfl) (by rfl) T.z_tuple dboot_tuple (da_cons (de_var 8) da_nil))) (dss_cons (ds_fld rfl (de_var 0) (de_if (dt_cmp od_is (de_var 3) de_non (nomark _)) (de_ix (od_ix rfl rfl (hu64 hr)) (de_var 8) de_int) (de_var 3))) (dss_cons (ds_fld rfl (de_var 0) (de_de (own := [("row", 9)]) (ct := .nm 9) (dt := dYes) (dk := dOp rIx (dVar 9) (dC (.int 0))) (dv := dOp rIx (dVar 9) (dC (.int 1))) rfl (hu64 hr) rfl rfl sc_Grammar___init__.nd (di_any rfl (de_var 4)) (blkOk_by (N := N_Grammar___init__) (sc := defScope s_Grammar___init__) (by decide +kernel)) (by decide) (fun _ _ _ _ _ => (pg_name (i := 9) sc_Grammar___init__.nd rfl (by first | exact Or.inl rfl | exact Or.inr rfl))) (fun _ _ _ _ _ _ => dts_nil) (fun _ _ _ _ _ _ => (de_ix (od_ix rfl rfl (hu64 hr)) (de_var 9) de_int)) (fun _ _ _ _ _ _ => (de_ix (od_ix rfl rfl (hu64 hr)) (de_var 9) de_int)))) (dss_cons (ds_fld rfl (de_var 0) (de_de (own := [("row", 9)]) (ct := .nm 9) (dt := dYes) (dk := dOp rIx (dVar 9) (dC (.int 0))) (dv := dOp rIx (dVar 9) (dC (.int 2))) rfl (hu64 hr) rfl rfl sc_Grammar___init__.nd (di_any rfl (de_var 4)) (blkOk_by (N := N_Grammar___init__) (sc := defScope s_Grammar___init__) (by decide +kernel)) (by decide) (fun _ _ _ _ _ => (pg_name (i := 9) sc_Grammar___init__.nd rfl (by first | exact Or.inl rfl | exact Or.inr rfl))) (fun _ _ _ _ _ _ => dts_nil) (fun _ _ _ _ _ _ => (de_ix (od_ix rfl rfl (hu64 hr)) (de_var 9) de_int)) (fun _ _ _ _ _ _ => (de_ix (od_ix rfl rfl (hu64 hr)) (de_var 9) de_int)))) (dss_one (ds_fld rfl (de_var 0) (by exact de_zK rfl (de_var 10)))))))))))))))))
theorem h_Grammar_family_of (T : Txt K mg A) (G_Grammar__check_kind : FnD P Wd.w K mg base 3 A.m_Grammar__check_kind (sd_Grammar__check_kind K A)) {f : Addr} {cdv : Value} {A0 : Around} {outer : List PySem.Env} {s : Shared} {H U : Hp} {E : XK} (hr : Room 3 (A0.deeper (envOfC "Grammar.family_of" (defScope s_Grammar_family_of) s.heap.objs.size f cdv))) :
    PSs (cxOf (L2.CX P Wd.w) P Wd.w K mg base N_Grammar_family_of "Grammar.family_of" (defScope s_Grammar_family_of) f cdv A0 outer s H E) (defBody s_Grammar_family_of) (liftS ⟨K, U⟩ (fun cls d _ H => E cls d H) (d_Grammar_family_of K A)) :=
  (dss_cons (ds_expr (de_meth T.cl_Grammar T.me_Grammar__check_kind G_Grammar__check_kind (hr.mono (by decide)) rfl (takes_of rfl rfl rfl rfl) (de_var 0) (da_cons (de_var 1) da_nil))) (dss_one (ds_ret (de_ix (od_ix rfl rfl (hu64 hr)) (de_fld rfl (de_var 0)) (de_var 1)))))
theorem h_Grammar_children_of (T : Txt K mg A) (G_Grammar__check_kind : FnD P Wd.w K mg base 3 A.m_Grammar__check_kind (sd_Grammar__check_kind K A)) {f : Addr} {cdv : Value} {A0 : Around} {outer : List PySem.Env} {s : Shared} {H U : Hp} {E : XK} (hr : Room 3 (A0.deeper (envOfC "Grammar.children_of" (defScope s_Grammar_children_of) s.heap.objs.size f cdv))) :
    PSs (cxOf (L2.CX P Wd.w) P Wd.w K mg base N_Grammar_children_of "Grammar.children_of" (defScope s_Grammar_children_of) f cdv A0 outer s H E) (defBody s_Grammar_children_of) (liftS ⟨K, U⟩ (fun cls d _ H => E cls d H) (d_Grammar_children_of K A)) :=
  (dss_cons (ds_expr (de_meth T.cl_Grammar T.me_Grammar__check_kind G_Grammar__check_kind (hr.mono (by decide)) rfl (takes_of rfl rfl rfl rfl) (de_var 0) (da_cons (de_var 1) da_nil))) (dss_one (ds_ret (de_ix (od_ix rfl rfl (hu64 hr)) (de_fld rfl (de_var 0)) (de_var 1)))))
theorem h_Grammar_kind_size (T : Txt K mg A) (G_Grammar__check_kind : FnD P Wd.w K mg base 3 A.m_Grammar__check_kind (sd_Grammar__check_kind K A)) {f : Addr} {cdv : Value} {A0 : Around} {outer : List PySem.Env} {s : Shared} {H U : Hp} {E : XK} (hr : Room 3 (A0.deeper (envOfC "Grammar.kind_size" (defScope s_Grammar_kind_size) s.heap.objs.size f cdv))) :
    PSs (cxOf (L2.CX P Wd.w) P Wd.w K mg base N_Grammar_kind_size "Grammar.kind_size" (defScope s_Grammar_kind_size) f cdv A0 outer s H E) (defBody s_Grammar_kind_size) (liftS ⟨K, U⟩ (fun cls d _ H => E cls d H) (d_Grammar_kind_size K A)) :=
  (dss_cons (ds_expr (de_meth T.cl_Grammar T.me_Grammar__check_kind G_Grammar__check_kind (hr.mono (by decide)) rfl (takes_of rfl rfl rfl rfl) (de_var 0) (da_cons (de_var 1) da_nil))) (dss_one (ds_ret (de_ix (od_ix rfl rfl (hu64 hr)) (de_fld rfl (de_var 0)) (de_var 1)))))
theorem h_Grammar_least_size (T : Txt K mg A) (G_Grammar_kinds_of : FnD P Wd.w K mg base 3 A.m_Grammar_kinds_of (sd_Grammar_kinds_of K A)) {f : Addr} {cdv : Value} {A0 : Around} {outer : List PySem.Env} {s : Shared} {H U : Hp} {E : XK} (hr : Room 3 (A0.deeper (envOfC "Grammar.least_size" (defScope s_Grammar_least_size) s.heap.objs.size f cdv))) :
    PSs (cxOf (L2.CX P Wd.w) P Wd.w K mg base N_Grammar_least_size "Grammar.least_size" (defScope s_Grammar_least_size) f cdv A0 outer s H E) (defBody s_Grammar_least_size) (liftS ⟨K, U⟩ (fun cls d _ H => E cls d H) (d_Grammar_least_size K A)) :=
  (dss_one (ds_ret (de_callB (cd_min rfl rfl) (by rfl) T.z_min dboot_min (da_cons (de_lc (own := [("kind", 2)]) (ct := .nm 2) (dt := dYes) (de := dCB rInt (dCons (dOp rIx (dFld K (dVar 0) "_sizes") (dVar 2)) (dNil))) rfl rfl sc_Grammar_least_size.nd (di_any rfl (by exact de_zK rfl (de_meth T.cl_Grammar T.me_Grammar_kinds_of G_Grammar_kinds_of (hr.mono (by decide)) rfl (takes_of rfl rfl rfl rfl) (de_var 0) (da_cons (de_var 1) da_nil)))) (blkOk_by (N := N_Grammar_least_size) (sc := defScope s_Grammar_least_size) (by decide +kernel)) (by decide) (fun _ _ _ _ _ => (pg_name (i := 2) sc_Grammar_least_size.nd rfl (by first | exact Or.inl rfl | exact Or.inr rfl))) (fun _ _ _ _ _ _ => dts_nil) (fun _ _ _ _ _ _ => (de_callTy cd_int (by rfl) T.z_int dboot_int (da_cons (de_ix (od_ix rfl rfl (hu64 hr)) (de_fld rfl (de_var 0)) (de_var 2)) da_nil)))) da_nil))))
theorem h__law_read_r2 (T : Txt K mg A) (G_Tree___iter__ : IterFn P Wd.w K mg base 1 A.m_Tree___iter__ "_children") (G__law_read_r3 : FnD P Wd.w K mg base 3 A.f__law_read_r3 (sd__law_read_r3 K A)) {f : Addr} {cdv : Value} {A0 : Around} {outer : List PySem.Env} {s : Shared} {H U : Hp} {E : XK} (hr : Room 3 (A0.deeper (envOfC "_law_read" (defScope s__law_read_r2) s.heap.objs.size f cdv))) :
    PSs (cxOf (L2.CX P Wd.w) P Wd.w K mg base N__law_read_r2 "_law_read" (defScope s__law_read_r2) f cdv A0 outer s H E) (defBody s__law_read_r2) (liftS ⟨K, U⟩ (fun cls d _ H => E cls d H) (d__law_read_r2 K A)) :=
  (dss_one (ds_ret (de_lst (da_cons (de_fld rfl (de_var 0)) (da_cons (de_lc (own := [("_law_child", 1)]) (ct := .nm 1) (dt := dYes) (de := dZK K (dCall (sd__law_read_r3 K A) (dCons (dVar 1) (dNil)))) rfl rfl sc__law_read_r2.nd (di_own rfl T.it_Tree___iter__ T.fo_Tree__children G_Tree___iter__ (hr.mono (by decide)) (de_var 0)) (blkOk_by (N := N__law_read_r2) (sc := defScope s__law_read_r2) (by decide +kernel)) (by decide) (fun _ _ _ _ _ => (pg_name (i := 1) sc__law_read_r2.nd rfl (by first | exact Or.inl rfl | exact Or.inr rfl))) (fun _ _ _ _ _ _ => dts_nil) (fun _ _ _ _ _ _ => (by exact de_zK rfl (de_call G__law_read_r3 (hr.mono (by decide)) (by rfl) T.g__law_read_r3 T.k__law_read_r3 rfl takes0 (da_cons (de_var 1) da_nil))))) da_nil)))))
theorem h__law_count_r1 (T : Txt K mg A) (G__law_count_r2 : FnD P Wd.w K mg base 3 A.f__law_count_r2 (sd__law_count_r2 K A)) {f : Addr} {cdv : Value} {A0 : Around} {outer : List PySem.Env} {s : Shared} {H U : Hp} {E : XK} (hr : Room 3 (A0.deeper (envOfC "_law_count" (defScope s__law_count_r1) s.heap.objs.size f cdv))) :
    PSs (cxOf (L2.CX P Wd.w) P Wd.w K mg base N__law_count_r1 "_law_count" (defScope s__law_count_r1) f cdv A0 outer s H E) (defBody s__law_count_r1) (liftS ⟨K, U⟩ (fun cls d _ H => E cls d H) (d__law_count_r1 K A)) :=
  (dss_cons (ds_setLc (i := 3) (own := [("_law_kind", 4)]) (ct := .nm 4) (dt := dAnd (dB (dOp rEq (dOp rIx (dVar 4) (dC (.int 0))) (dOp rIx (dVar 2) (dC (.int 0))))) (dB (dOp rEq (dOp rIx (dVar 4) (dC (.int 1))) (dVar 1)))) (de := dVar 4) rfl rfl sc__law_count_r1.nd rfl rfl (sw_true rfl rfl rfl (by decide +kernel)) (di_any rfl (de_var 0)) (blkOk_by (N := N__law_count_r1) (sc := defScope s__law_count_r1) (by decide +kernel)) (by decide) (fun _ _ _ _ _ => (pg_name (i := 4) sc__law_count_r1.nd rfl (by first | exact Or.inl rfl | exact Or.inr rfl))) (fun _ _ _ _ _ _ => (dts_one (dt_w (dw_and (dt_cmp (od_eq rfl (hu64 hr)) (de_ix (od_ix rfl rfl (hu64 hr)) (de_var 4) de_int) (de_ix (od_ix rfl rfl (hu64 hr)) (de_var 2) de_int) (nomark _)) (dw_and1 (dt_cmp (od_eq rfl (hu64 hr)) (de_ix (od_ix rfl rfl (hu64 hr)) (de_var 4) de_int) (de_var 1) (nomark _))))))) (fun _ _ _ _ _ _ => (de_var 4))) (dss_cons (ds_if (dt_w (dw_or (dt_cmp (od_ne rfl (hu64 hr)) (de_callB (cd_len rfl rfl) (by rfl) T.z_len PySem.boot_len (da_cons (de_var 3) da_nil)) de_int (nomark _)) (dw_or1 (dt_cmp (od_ne rfl (hu64 hr)) (de_callB (cd_len rfl rfl) (by rfl) T.z_len PySem.boot_len (da_cons (de_ix (od_ix rfl rfl (hu64 hr)) (de_ix (od_ix rfl rfl (hu64 hr)) (de_var 3) de_int) de_int) da_nil)) (de_callB (cd_len rfl rfl) (by rfl) T.z_len PySem.boot_len (da_cons (de_ix (od_ix rfl rfl (hu64 hr)) (de_var 2) de_int) da_nil)) (nomark _))))) (dss_one (ds_ret de_int)) dss_nil) (dss_cons (ds_set (i := 5) sc__law_count_r1.nd rfl (by first | exact Or.inl rfl | exact Or.inr rfl) de_int) (dss_cons (ds_for (passes_of rfl) rfl (di_range1 (by rfl) T.z_range (da_cons (de_callB (cd_len rfl rfl) (by rfl) T.z_len PySem.boot_len (da_cons (de_ix (od_ix rfl rfl (hu64 hr)) (de_var 2) de_int) da_nil)) da_nil)) (fun _ => (dg_name (i := 6) sc__law_count_r1.nd rfl (by first | exact Or.inl rfl | exact Or.inr rfl))) (fun _ => (dss_cons (ds_set (i := 7) sc__law_count_r1.nd rfl (by first | exact Or.inl rfl | exact Or.inr rfl) (by exact de_zK rfl (de_call G__law_count_r2 (hr.mono (by decide)) (by rfl) T.g__law_count_r2 T.k__law_count_r2 rfl (takes_of rfl rfl rfl rfl) (da_cons (de_var 0) (da_cons (de_ix (od_ix rfl rfl (hu64 hr)) (de_ix (od_ix rfl rfl (hu64 hr)) (de_ix (od_ix rfl rfl (hu64 hr)) (de_var 3) de_int) de_int) (de_var 6)) (da_cons (de_ix (od_ix rfl rfl (hu64 hr)) (de_ix (od_ix rfl rfl (hu64 hr)) (de_var 2) de_int) (de_var 6)) da_nil)))))) (dss_cons (ds_if (dt_cmp (od_eq rfl (hu64 hr)) (de_var 7) de_int (nomark _)) (dss_one (ds_ret de_int)) dss_nil) (dss_one (ds_set (i := 5) sc__law_count_r1.nd rfl (by first | exact Or.inl rfl | exact Or.inr rfl) (de_op (od_add rfl) (de_var 5) (de_var 7)))))))) (dss_one (ds_ret (by exact de_zK rfl (de_var 5))))))))
theorem h__law_count (T : Txt K mg A) (G__law_count_r1 : FnD P Wd.w K mg base 4 A.f__law_count_r1 (sd__law_count_r1 K A)) {f : Addr} {cdv : Value} {A0 : Around} {outer : List PySem.Env} {s : Shared} {H U : Hp} {E : XK} (hr : Room 4 (A0.deeper (envOfC "_law_count" (defScope s__law_count) s.heap.objs.size f cdv))) :
    PSs (cxOf (L2.CX P Wd.w) P Wd.w K mg base N__law_count "_law_count" (defScope s__law_count) f cdv A0 outer s H E) (defBody s__law_count) (liftS ⟨K, U⟩ (fun cls d _ H => E cls d H) (d__law_count K A)) :=
  (dss_cons (ds_setLc (i := 3) (own := [("_law_kind", 4)]) (ct := .nm 4) (dt := dAnd (dB (dOp rEq (dOp rIx (dVar 4) (dC (.int 0))) (dOp rIx (dVar 2) (dC (.int 0))))) (dB (dOp rEq (dOp rIx (dVar 4) (dC (.int 1))) (dVar 1)))) (de := dVar 4) rfl rfl sc__law_count.nd rfl rfl (sw_true rfl rfl rfl (by decide +kernel)) (di_any rfl (de_var 0)) (blkOk_by (N := N__law_count) (sc := defScope s__law_count) (by decide +kernel)) (by decide) (fun _ _ _ _ _ => (pg_name (i := 4) sc__law_count.nd rfl (by first | exact Or.inl rfl | exact Or.inr rfl))) (fun _ _ _ _ _ _ => (dts_one (dt_w (dw_and (dt_cmp (od_eq rfl (hu64 hr)) (de_ix (od_ix rfl rfl (hu64 hr)) (de_var 4) de_int) (de_ix (od_ix rfl rfl (hu64 hr)) (de_var 2) de_int) (nomark _)) (dw_and1 (dt_cmp (od_eq rfl (hu64 hr)) (de_ix (od_ix rfl rfl (hu64 hr)) (de_var 4) de_int) (de_var 1) (nomark _))))))) (fun _ _ _ _ _ _ => (de_var 4))) (dss_cons (ds_if (dt_w (dw_or (dt_cmp (od_ne rfl (hu64 hr)) (de_callB (cd_len rfl rfl) (by rfl) T.z_len PySem.boot_len (da_cons (de_var 3) da_nil)) de_int (nomark _)) (dw_or1 (dt_cmp (od_ne rfl (hu64 hr)) (de_callB (cd_len rfl rfl) (by rfl) T.z_len PySem.boot_len (da_cons (de_ix (od_ix rfl rfl (hu64 hr)) (de_ix (od_ix rfl rfl (hu64 hr)) (de_var 3) de_int) de_int) da_nil)) (de_callB (cd_len rfl rfl) (by rfl) T.z_len PySem.boot_len (da_cons (de_ix (od_ix rfl rfl (hu64 hr)) (de_var 2) de_int) da_nil)) (nomark _))))) (dss_one (ds_ret de_int)) dss_nil) (dss_cons (ds_set (i := 5) sc__law_count.nd rfl (by first | exact Or.inl rfl | exact Or.inr rfl) de_int) (dss_cons (ds_for (passes_of rfl) rfl (di_range1 (by rfl) T.z_range (da_cons (de_callB (cd_len rfl rfl) (by rfl) T.z_len PySem.boot_len (da_cons (de_ix (od_ix rfl rfl (hu64 hr)) (de_var 2) de_int) da_nil)) da_nil)) (fun _ => (dg_name (i := 6) sc__law_count.nd rfl (by first | exact Or.inl rfl | exact Or.inr rfl))) (fun _ => (dss_cons (ds_set (i := 7) sc__law_count.nd rfl (by first | exact Or.inl rfl | exact Or.inr rfl) (by exact de_zK rfl (de_call G__law_count_r1 (hr.mono (by decide)) (by rfl) T.g__law_count_r1 T.k__law_count_r1 rfl (takes_of rfl rfl rfl rfl) (da_cons (de_var 0) (da_cons (de_ix (od_ix rfl rfl (hu64 hr)) (de_ix (od_ix rfl rfl (hu64 hr)) (de_ix (od_ix rfl rfl (hu64 hr)) (de_var 3) de_int) de_int) (de_var 6)) (da_cons (de_ix (od_ix rfl rfl (hu64 hr)) (de_ix (od_ix rfl rfl (hu64 hr)) (de_var 2) de_int) (de_var 6)) da_nil)))))) (dss_cons (ds_if (dt_cmp (od_eq rfl (hu64 hr)) (de_var 7) de_int (nomark _)) (dss_one (ds_ret de_int)) dss_nil) (dss_one (ds_set (i := 5) sc__law_count.nd rfl (by first | exact Or.inl rfl | exact Or.inr rfl) (de_op (od_add rfl) (de_var 5) (de_var 7)))))))) (dss_one (ds_ret (by exact de_zK rfl (de_var 5))))))))
theorem h_Tree___init__ (T : Txt K mg A) (G_Grammar_children_of : FnD P Wd.w K mg base 4 A.m_Grammar_children_of (sd_Grammar_children_of K A)) (G_Grammar_family_of : FnD P Wd.w K mg base 4 A.m_Grammar_family_of (sd_Grammar_family_of K A)) {fd_BadTree___init__ : FuncData} (F_BadTree___init__ : FnOk P Wd.w K mg base (L2.CX P Wd.w) 1 A.m_BadTree___init__ fd_BadTree___init__ ["self", "path"] (spOf K (sd_BadTree___init__ K A)) ∧ Binds K fd_BadTree___init__ ["self", "path"] []) {fd_LimitExceeded___init__ : FuncData} (F_LimitExceeded___init__ : FnOk P Wd.w K mg base (L2.CX P Wd.w) 1 A.m_LimitExceeded___init__ fd_LimitExceeded___init__ ["self", "limit"] (spOf K (sd_LimitExceeded___init__ K A)) ∧ Binds K fd_LimitExceeded___init__ ["self", "limit"] []) {f : Addr} {cdv : Value} {A0 : Around} {outer : List PySem.Env} {s : Shared} {H U : Hp} {E : XK} (hr : Room 4 (A0.deeper (envOfC "Tree.__init__" (defScope s_Tree___init__) s.heap.objs.size f cdv))) :
    PSs (cxOf (L2.CX P Wd.w) P Wd.w K mg base N_Tree___init__ "Tree.__init__" (defScope s_Tree___init__) f cdv A0 outer s H E) (defBody s_Tree___init__) (liftS ⟨K, U⟩ (fun cls d _ H => E cls d H) (d_Tree___init__ K A)) :=
  (dss_cons (ds_set (i := 4) sc_Tree___init__.nd rfl (by first | exact Or.inl rfl | exact Or.inr rfl) (by exact de_zK rfl (de_meth T.cl_Grammar T.me_Grammar_children_of G_Grammar_children_of (hr.mono (by decide)) rfl (takes_of rfl rfl rfl rfl) (de_var 1) (da_cons (de_var 2) da_nil)))) (dss_cons (ds_if (dt_cmp (od_ne rfl (hu64 hr)) (de_callB (cd_len rfl rfl) (by rfl) T.z_len PySem.boot_len (da_cons (de_var 3) da_nil)) (de_callB (cd_len rfl rfl) (by rfl) T.z_len PySem.boot_len (da_cons (de_var 4) da_nil)) (nomark _)) (dss_one (ds_raise rfl rfl (takes_of rfl rfl rfl rfl) T.ox_BadTree T.ini_BadTree T.ti_BadTree F_BadTree___init__.1 F_BadTree___init__.2 (hr.mono (by decide)) (by rfl) T.g_BadTree (da_cons (de_tup da_nil) da_nil))) dss_nil) (dss_cons (ds_for (passes_of rfl) rfl (di_enumS rfl (by decide) (by decide) (by rfl) T.z_enumerate (de_var 3)) (fun _ => (dg_tup rfl rfl (dgs_cons (dg_name (i := 5) sc_Tree___init__.nd rfl (by first | exact Or.inl rfl | exact Or.inr rfl)) (dgs_cons (dg_name (i := 6) sc_Tree___init__.nd rfl (by first | exact Or.inl rfl | exact Or.inr rfl)) dgs_nil)))) (fun _ => (dss_one (ds_if (dt_cmp (od_ne rfl (hu64 hr)) (de_fld rfl (de_var 6)) (de_ix (od_ix rfl rfl (hu64 hr)) (de_var 4) (de_op od_sub (de_var 5) de_int)) (nomark _)) (dss_one (ds_raise rfl rfl (takes_of rfl rfl rfl rfl) T.ox_BadTree T.ini_BadTree T.ti_BadTree F_BadTree___init__.1 F_BadTree___init__.2 (hr.mono (by decide)) (by rfl) T.g_BadTree (da_cons (de_tup (da_cons (de_var 5) da_nil)) da_nil))) dss_nil)))) (dss_cons (ds_fld rfl (de_var 0) (by exact de_zK rfl (de_var 2))) (dss_cons (ds_fld rfl (de_var 0) (by exact de_zK rfl (de_meth T.cl_Grammar T.me_Grammar_family_of G_Grammar_family_of (hr.mono (by decide)) rfl (takes_of rfl rfl rfl rfl) (de_var 1) (da_cons (de_var 2) da_nil)))) (dss_cons (ds_fld rfl (de_var 0) (de_op (od_add rfl) de_int (de_callB (cd_sum rfl rfl) (by rfl) T.z_sum dboot_sum (da_cons (de_lc (own := [("child", 6)]) (ct := .nm 6) (dt := dYes) (de := dFld K (dVar 6) "size") rfl rfl sc_Tree___init__.nd (di_any rfl (de_var 3)) (blkOk_by (N := N_Tree___init__) (sc := defScope s_Tree___init__) (by decide +kernel)) (by decide) (fun _ _ _ _ _ => (pg_name (i := 6) sc_Tree___init__.nd rfl (by first | exact Or.inl rfl | exact Or.inr rfl))) (fun _ _ _ _ _ _ => dts_nil) (fun _ _ _ _ _ _ => (de_fld rfl (de_var 6)))) da_nil)))) (dss_cons (ds_fld rfl (de_var 0) (de_op (od_add rfl) de_int (de_maxD rfl rfl (hu1 hr) (by rfl) T.z_max (da_cons (de_lc (own := [("child", 6)]) (ct := .nm 6) (dt := dYes) (de := dCB rInt (dCons (dFld K (dVar 6) "depth") (dNil))) rfl rfl sc_Tree___init__.nd (di_any rfl (de_var 3)) (blkOk_by (N := N_Tree___init__) (sc := defScope s_Tree___init__) (by decide +kernel)) (by decide) (fun _ _ _ _ _ => (pg_name (i := 6) sc_Tree___init__.nd rfl (by first | exact Or.inl rfl | exact Or.inr rfl))) (fun _ _ _ _ _ _ => dts_nil) (fun _ _ _ _ _ _ => (de_callTy cd_int (by rfl) T.z_int dboot_int (da_cons (de_fld rfl (de_var 6)) da_nil)))) da_nil) (pk_cons pe_int pk_nil)))) (dss_cons (ds_fld rfl (de_var 0) (de_callTy (cd_tuple rfl rfl) (by rfl) T.z_tuple dboot_tuple (da_cons (de_var 3) da_nil))) (dss_cons (ds_if (dt_cmp od_gt (de_fld rfl (de_var 0)) (de_con (de_globC (by rfl) T.g_Tree)) (nomark _)) (dss_one (ds_raise rfl rfl (takes_of rfl rfl rfl rfl) T.ox_LimitExceeded T.ini_LimitExceeded T.ti_LimitExceeded F_LimitExceeded___init__.1 F_LimitExceeded___init__.2 (hr.mono (by decide)) (by rfl) T.g_LimitExceeded (da_cons de_str da_nil))) dss_nil) (dss_one (ds_if (dt_cmp od_gt (de_fld rfl (de_var 0)) (de_con (de_globC (by rfl) T.g_Tree)) (nomark _)) (dss_one (ds_raise rfl rfl (takes_of rfl rfl rfl rfl) T.ox_LimitExceeded T.ini_LimitExceeded T.ti_LimitExceeded F_LimitExceeded___init__.1 F_LimitExceeded___init__.2 (hr.mono (by decide)) (by rfl) T.g_LimitExceeded (da_cons de_str da_nil))) dss_nil)))))))))))
theorem h__law_read_r1 (T : Txt K mg A) (G_Tree___iter__ : IterFn P Wd.w K mg base 1 A.m_Tree___iter__ "_children") (G__law_read_r2 : FnD P Wd.w K mg base 4 A.f__law_read_r2 (sd__law_read_r2 K A)) {f : Addr} {cdv : Value} {A0 : Around} {outer : List PySem.Env} {s : Shared} {H U : Hp} {E : XK} (hr : Room 4 (A0.deeper (envOfC "_law_read" (defScope s__law_read_r1) s.heap.objs.size f cdv))) :
    PSs (cxOf (L2.CX P Wd.w) P Wd.w K mg base N__law_read_r1 "_law_read" (defScope s__law_read_r1) f cdv A0 outer s H E) (defBody s__law_read_r1) (liftS ⟨K, U⟩ (fun cls d _ H => E cls d H) (d__law_read_r1 K A)) :=
  (dss_one (ds_ret (de_lst (da_cons (de_fld rfl (de_var 0)) (da_cons (de_lc (own := [("_law_child", 1)]) (ct := .nm 1) (dt := dYes) (de := dZK K (dCall (sd__law_read_r2 K A) (dCons (dVar 1) (dNil)))) rfl rfl sc__law_read_r1.nd (di_own rfl T.it_Tree___iter__ T.fo_Tree__children G_Tree___iter__ (hr.mono (by decide)) (de_var 0)) (blkOk_by (N := N__law_read_r1) (sc := defScope s__law_read_r1) (by decide +kernel)) (by decide) (fun _ _ _ _ _ => (pg_name (i := 1) sc__law_read_r1.nd rfl (by first | exact Or.inl rfl | exact Or.inr rfl))) (fun _ _ _ _ _ _ => dts_nil) (fun _ _ _ _ _ _ => (by exact de_zK rfl (de_call G__law_read_r2 (hr.mono (by decide)) (by rfl) T.g__law_read_r2 T.k__law_read_r2 rfl takes0 (da_cons (de_var 1) da_nil))))) da_nil)))))
theorem h__law_read (T : Txt K mg A) (G_Tree___iter__ : IterFn P Wd.w K mg base 1 A.m_Tree___iter__ "_children") (G__law_read_r1 : FnD P Wd.w K mg base 5 A.f__law_read_r1 (sd__law_read_r1 K A)) {f : Addr} {cdv : Value} {A0 : Around} {outer : List PySem.Env} {s : Shared} {H U : Hp} {E : XK} (hr : Room 5 (A0.deeper (envOfC "_law_read" (defScope s__law_read) s.heap.objs.size f cdv))) :
    PSs (cxOf (L2.CX P Wd.w) P Wd.w K mg base N__law_read "_law_read" (defScope s__law_read) f cdv A0 outer s H E) (defBody s__law_read) (liftS ⟨K, U⟩ (fun cls d _ H => E cls d H) (d__law_read K A)) :=
  (dss_one (ds_ret (de_lst (da_cons (de_fld rfl (de_var 0)) (da_cons (de_lc (own := [("_law_child", 1)]) (ct := .nm 1) (dt := dYes) (de := dZK K (dCall (sd__law_read_r1 K A) (dCons (dVar 1) (dNil)))) rfl rfl sc__law_read.nd (di_own rfl T.it_Tree___iter__ T.fo_Tree__children G_Tree___iter__ (hr.mono (by decide)) (de_var 0)) (blkOk_by (N := N__law_read) (sc := defScope s__law_read) (by decide +kernel)) (by decide) (fun _ _ _ _ _ => (pg_name (i := 1) sc__law_read.nd rfl (by first | exact Or.inl rfl | exact Or.inr rfl))) (fun _ _ _ _ _ _ => dts_nil) (fun _ _ _ _ _ _ => (by exact de_zK rfl (de_call G__law_read_r1 (hr.mono (by decide)) (by rfl) T.g__law_read_r1 T.k__law_read_r1 rfl takes0 (da_cons (de_var 1) da_nil))))) da_nil)))))
theorem h_Tree_least_r3 (T : Txt K mg A) (G_Grammar_least_size : FnD P Wd.w K mg base 4 A.m_Grammar_least_size (sd_Grammar_least_size K A)) (G_Grammar_kinds_of : FnD P Wd.w K mg base 3 A.m_Grammar_kinds_of (sd_Grammar_kinds_of K A)) (G_Grammar_kind_size : FnD P Wd.w K mg base 4 A.m_Grammar_kind_size (sd_Grammar_kind_size K A)) (G_Grammar_children_of : FnD P Wd.w K mg base 4 A.m_Grammar_children_of (sd_Grammar_children_of K A)) (G_Tree_least_r4 : FnD P Wd.w K mg base 1 A.m_Tree_least_r4 (sd_Tree_least_r4 K A)) (G_Tree___init__ : FnD P Wd.w K mg base 5 A.m_Tree___init__ (sd_Tree___init__ K A)) {f : Addr} {cdv : Value} {A0 : Around} {outer : List PySem.Env} {s : Shared} {H U : Hp} {E : XK} (hr : Room 6 (A0.deeper (envOfC "Tree.least" (defScope s_Tree_least_r3) s.heap.objs.size f cdv))) :
    PSs (cxOf (L2.CX P Wd.w) P Wd.w K mg base N_Tree_least_r3 "Tree.least" (defScope s_Tree_least_r3) f cdv A0 outer s H E) (defBody s_Tree_least_r3) (liftS ⟨K, U⟩ (fun cls d _ H => E cls d H) (d_Tree_least_r3 K A)) :=
  (dss_cons (ds_set (i := 2) sc_Tree_least_r3.nd rfl (by first | exact Or.inl rfl | exact Or.inr rfl) (by exact de_zK rfl (de_meth T.cl_Grammar T.me_Grammar_least_size G_Grammar_least_size (hr.mono (by decide)) rfl (takes_of rfl rfl rfl rfl) (de_var 0) (da_cons (de_var 1) da_nil)))) (dss_cons (ds_setLc (i := 3) (own := [("kind", 4)]) (ct := .nm 4) (dt := dB (dOp rEq (dZK K (dMeth A.c_Grammar "kind_size" (sd_Grammar_kind_size K A) (dVar 0) (dCons (dVar 4) (dNil)))) (dVar 2))) (de := dVar 4) rfl rfl sc_Tree_least_r3.nd rfl rfl (sw_true rfl rfl rfl (by decide +kernel)) (di_any rfl (by exact de_zK rfl (de_meth T.cl_Grammar T.me_Grammar_kinds_of G_Grammar_kinds_of (hr.mono (by decide)) rfl (takes_of rfl rfl rfl rfl) (de_var 0) (da_cons (de_var 1) da_nil)))) (blkOk_by (N := N_Tree_least_r3) (sc := defScope s_Tree_least_r3) (by decide +kernel)) (by decide) (fun _ _ _ _ _ => (pg_name (i := 4) sc_Tree_least_r3.nd rfl (by first | exact Or.inl rfl | exact Or.inr rfl))) (fun _ _ _ _ _ _ => (dts_one (dt_cmp (od_eq rfl (hu64 hr)) (by exact de_zK rfl (de_meth T.cl_Grammar T.me_Grammar_kind_size G_Grammar_kind_size (hr.mono (by decide)) rfl takes0 (de_var 0) (da_cons (de_var 4) da_nil))) (de_var 2) (nomark _)))) (fun _ _ _ _ _ _ => (de_var 4))) (dss_cons (ds_setLc (i := 5) (own := [("child", 6)]) (ct := .nm 6) (dt := dYes) (de := dZK K (dCall (sd_Tree_least_r4 K A) (dCons (dVar 0) (dCons (dVar 6) (dNil))))) rfl rfl sc_Tree_least_r3.nd rfl rfl (sw_true rfl rfl rfl (by decide +kernel)) (di_any rfl (by exact de_zK rfl (de_meth T.cl_Grammar T.me_Grammar_children_of G_Grammar_children_of (hr.mono (by decide)) rfl (takes_of rfl rfl rfl rfl) (de_var 0) (da_cons (de_ix (od_ix rfl rfl (hu64 hr)) (de_var 3) de_int) da_nil)))) (blkOk_by (N := N_Tree_least_r3) (sc := defScope s_Tree_least_r3) (by decide +kernel)) (by decide) (fun _ _ _ _ _ => (pg_name (i := 6) sc_Tree_least_r3.nd rfl (by first | exact Or.inl rfl | exact Or.inr rfl))) (fun _ _ _ _ _ _ => dts_nil) (fun _ _ _ _ _ _ => (by exact de_zK rfl (de_scall T.rc_Tree T.st_Tree_least_r4 G_Tree_least_r4 (hr.mono (by decide)) (by rfl) T.g_Tree rfl takes0 (da_cons (de_var 0) (da_cons (de_var 6) da_nil)))))) (dss_one (ds_ret (by exact de_zK rfl (de_makeS2 T.mk_Tree G_Tree___init__ (hr.mono (by decide)) (by rfl) T.g_Tree rfl (takes_of rfl rfl rfl rfl) (da_cons (de_var 0) (da_cons (de_ix (od_ix rfl rfl (hu64 hr)) (de_var 3) de_int) (da_star rfl (de_var 5) da_nil))))))))))
theorem h_Tree_least_r2 (T : Txt K mg A) (G_Grammar_least_size : FnD P Wd.w K mg base 4 A.m_Grammar_least_size (sd_Grammar_least_size K A)) (G_Grammar_kinds_of : FnD P Wd.w K mg base 3 A.m_Grammar_kinds_of (sd_Grammar_kinds_of K A)) (G_Grammar_kind_size : FnD P Wd.w K mg base 4 A.m_Grammar_kind_size (sd_Grammar_kind_size K A)) (G_Grammar_children_of : FnD P Wd.w K mg base 4 A.m_Grammar_children_of (sd_Grammar_children_of K A)) (G_Tree_least_r3 : FnD P Wd.w K mg base 7 A.m_Tree_least_r3 (sd_Tree_least_r3 K A)) (G_Tree___init__ : FnD P Wd.w K mg base 5 A.m_Tree___init__ (sd_Tree___init__ K A)) {f : Addr} {cdv : Value} {A0 : Around} {outer : List PySem.Env} {s : Shared} {H U : Hp} {E : XK} (hr : Room 7 (A0.deeper (envOfC "Tree.least" (defScope s_Tree_least_r2) s.heap.objs.size f cdv))) :
    PSs (cxOf (L2.CX P Wd.w) P Wd.w K mg base N_Tree_least_r2 "Tree.least" (defScope s_Tree_least_r2) f cdv A0 outer s H E) (defBody s_Tree_least_r2) (liftS ⟨K, U⟩ (fun cls d _ H => E cls d H) (d_Tree_least_r2 K A)) :=
  (dss_cons (ds_set (i := 2) sc_Tree_least_r2.nd rfl (by first | exact Or.inl rfl | exact Or.inr rfl) (by exact de_zK rfl (de_meth T.cl_Grammar T.me_Grammar_least_size G_Grammar_least_size (hr.mono (by decide)) rfl (takes_of rfl rfl rfl rfl) (de_var 0) (da_cons (de_var 1) da_nil)))) (dss_cons (ds_setLc (i := 3) (own := [("kind", 4)]) (ct := .nm 4) (dt := dB (dOp rEq (dZK K (dMeth A.c_Grammar "kind_size" (sd_Grammar_kind_size K A) (dVar 0) (dCons (dVar 4) (dNil)))) (dVar 2))) (de := dVar 4) rfl rfl sc_Tree_least_r2.nd rfl rfl (sw_true rfl rfl rfl (by decide +kernel)) (di_any rfl (by exact de_zK rfl (de_meth T.cl_Grammar T.me_Grammar_kinds_of G_Grammar_kinds_of (hr.mono (by decide)) rfl (takes_of rfl rfl rfl rfl) (de_var 0) (da_cons (de_var 1) da_nil)))) (blkOk_by (N := N_Tree_least_r2) (sc := defScope s_Tree_least_r2) (by decide +kernel)) (by decide) (fun _ _ _ _ _ => (pg_name (i := 4) sc_Tree_least_r2.nd rfl (by first | exact Or.inl rfl | exact Or.inr rfl))) (fun _ _ _ _ _ _ => (dts_one (dt_cmp (od_eq rfl (hu64 hr)) (by exact de_zK rfl (de_meth T.cl_Grammar T.me_Grammar_kind_size G_Grammar_kind_size (hr.mono (by decide)) rfl takes0 (de_var 0) (da_cons (de_var 4) da_nil))) (de_var 2) (nomark _)))) (fun _ _ _ _ _ _ => (de_var 4))) (dss_cons (ds_setLc (i := 5) (own := [("child", 6)]) (ct := .nm 6) (dt := dYes) (de := dZK K (dCall (sd_Tree_least_r3 K A) (dCons (dVar 0) (dCons (dVar 6) (dNil))))) rfl rfl sc_Tree_least_r2.nd rfl rfl (sw_true rfl rfl rfl (by decide +kernel)) (di_any rfl (by exact de_zK rfl (de_meth T.cl_Grammar T.me_Grammar_children_of G_Grammar_children_of (hr.mono (by decide)) rfl (takes_of rfl rfl rfl rfl) (de_var 0) (da_cons (de_ix (od_ix rfl rfl (hu64 hr)) (de_var 3) de_int) da_nil)))) (blkOk_by (N := N_Tree_least_r2) (sc := defScope s_Tree_least_r2) (by decide +kernel)) (by decide) (fun _ _ _ _ _ => (pg_name (i := 6) sc_Tree_least_r2.nd rfl (by first | exact Or.inl rfl | exact Or.inr rfl))) (fun _ _ _ _ _ _ => dts_nil) (fun _ _ _ _ _ _ => (by exact de_zK rfl (de_scall T.rc_Tree T.st_Tree_least_r3 G_Tree_least_r3 (hr.mono (by decide)) (by rfl) T.g_Tree rfl takes0 (da_cons (de_var 0) (da_cons (de_var 6) da_nil)))))) (dss_one (ds_ret (by exact de_zK rfl (de_makeS2 T.mk_Tree G_Tree___init__ (hr.mono (by decide)) (by rfl) T.g_Tree rfl (takes_of rfl rfl rfl rfl) (da_cons (de_var 0) (da_cons (de_ix (od_ix rfl rfl (hu64 hr)) (de_var 3) de_int) (da_star rfl (de_var 5) da_nil))))))))))
theorem h_Tree_least_r1 (T : Txt K mg A) (G_Grammar_least_size : FnD P Wd.w K mg base 4 A.m_Grammar_least_size (sd_Grammar_least_size K A)) (G_Grammar_kinds_of : FnD P Wd.w K mg base 3 A.m_Grammar_kinds_of (sd_Grammar_kinds_of K A)) (G_Grammar_kind_size : FnD P Wd.w K mg base 4 A.m_Grammar_kind_size (sd_Grammar_kind_size K A)) (G_Grammar_children_of : FnD P Wd.w K mg base 4 A.m_Grammar_children_of (sd_Grammar_children_of K A)) (G_Tree_least_r2 : FnD P Wd.w K mg base 8 A.m_Tree_least_r2 (sd_Tree_least_r2 K A)) (G_Tree___init__ : FnD P Wd.w K mg base 5 A.m_Tree___init__ (sd_Tree___init__ K A)) {f : Addr} {cdv : Value} {A0 : Around} {outer : List PySem.Env} {s : Shared} {H U : Hp} {E : XK} (hr : Room 8 (A0.deeper (envOfC "Tree.least" (defScope s_Tree_least_r1) s.heap.objs.size f cdv))) :
    PSs (cxOf (L2.CX P Wd.w) P Wd.w K mg base N_Tree_least_r1 "Tree.least" (defScope s_Tree_least_r1) f cdv A0 outer s H E) (defBody s_Tree_least_r1) (liftS ⟨K, U⟩ (fun cls d _ H => E cls d H) (d_Tree_least_r1 K A)) :=
  (dss_cons (ds_set (i := 2) sc_Tree_least_r1.nd rfl (by first | exact Or.inl rfl | exact Or.inr rfl) (by exact de_zK rfl (de_meth T.cl_Grammar T.me_Grammar_least_size G_Grammar_least_size (hr.mono (by decide)) rfl (takes_of rfl rfl rfl rfl) (de_var 0) (da_cons (de_var 1) da_nil)))) (dss_cons (ds_setLc (i := 3) (own := [("kind", 4)]) (ct := .nm 4) (dt := dB (dOp rEq (dZK K (dMeth A.c_Grammar "kind_size" (sd_Grammar_kind_size K A) (dVar 0) (dCons (dVar 4) (dNil)))) (dVar 2))) (de := dVar 4) rfl rfl sc_Tree_least_r1.nd rfl rfl (sw_true rfl rfl rfl (by decide +kernel)) (di_any rfl (by exact de_zK rfl (de_meth T.cl_Grammar T.me_Grammar_kinds_of G_Grammar_kinds_of (hr.mono (by decide)) rfl (takes_of rfl rfl rfl rfl) (de_var 0) (da_cons (de_var 1) da_nil)))) (blkOk_by (N := N_Tree_least_r1) (sc := defScope s_Tree_least_r1) (by decide +kernel)) (by decide) (fun _ _ _ _ _ => (pg_name (i := 4) sc_Tree_least_r1.nd rfl (by first | exact Or.inl rfl | exact Or.inr rfl))) (fun _ _ _ _ _ _ => (dts_one (dt_cmp (od_eq rfl (hu64 hr)) (by exact de_zK rfl (de_meth T.cl_Grammar T.me_Grammar_kind_size G_Grammar_kind_size (hr.mono (by decide)) rfl takes0 (de_var 0) (da_cons (de_var 4) da_nil))) (de_var 2) (nomark _)))) (fun _ _ _ _ _ _ => (de_var 4))) (dss_cons (ds_setLc (i := 5) (own := [("child", 6)]) (ct := .nm 6) (dt := dYes) (de := dZK K (dCall (sd_Tree_least_r2 K A) (dCons (dVar 0) (dCons (dVar 6) (dNil))))) rfl rfl sc_Tree_least_r1.nd rfl rfl (sw_true rfl rfl rfl (by decide +kernel)) (di_any rfl (by exact de_zK rfl (de_meth T.cl_Grammar T.me_Grammar_children_of G_Grammar_children_of (hr.mono (by decide)) rfl (takes_of rfl rfl rfl rfl) (de_var 0) (da_cons (de_ix (od_ix rfl rfl (hu64 hr)) (de_var 3) de_int) da_nil)))) (blkOk_by (N := N_Tree_least_r1) (sc := defScope s_Tree_least_r1) (by decide +kernel)) (by decide) (fun _ _ _ _ _ => (pg_name (i := 6) sc_Tree_least_r1.nd rfl (by first | exact Or.inl rfl | exact Or.inr rfl))) (fun _ _ _ _ _ _ => dts_nil) (fun _ _ _ _ _ _ => (by exact de_zK rfl (de_scall T.rc_Tree T.st_Tree_least_r2 G_Tree_least_r2 (hr.mono (by decide)) (by rfl) T.g_Tree rfl takes0 (da_cons (de_var 0) (da_cons (de_var 6) da_nil)))))) (dss_one (ds_ret (by exact de_zK rfl (de_makeS2 T.mk_Tree G_Tree___init__ (hr.mono (by decide)) (by rfl) T.g_Tree rfl (takes_of rfl rfl rfl rfl) (da_cons (de_var 0) (da_cons (de_ix (od_ix rfl rfl (hu64 hr)) (de_var 3) de_int) (da_star rfl (de_var 5) da_nil))))))))))
theorem h_Tree_least (T : Txt K mg A) (G_Grammar_least_size : FnD P Wd.w K mg base 4 A.m_Grammar_least_size (sd_Grammar_least_size K A)) (G_Grammar_kinds_of : FnD P Wd.w K mg base 3 A.m_Grammar_kinds_of (sd_Grammar_kinds_of K A)) (G_Grammar_kind_size : FnD P Wd.w K mg base 4 A.m_Grammar_kind_size (sd_Grammar_kind_size K A)) (G_Grammar_children_of : FnD P Wd.w K mg base 4 A.m_Grammar_children_of (sd_Grammar_children_of K A)) (G_Tree_least_r1 : FnD P Wd.w K mg base 9 A.m_Tree_least_r1 (sd_Tree_least_r1 K A)) (G_Tree___init__ : FnD P Wd.w K mg base 5 A.m_Tree___init__ (sd_Tree___init__ K A)) {f : Addr} {cdv : Value} {A0 : Around} {outer : List PySem.Env} {s : Shared} {H U : Hp} {E : XK} (hr : Room 9 (A0.deeper (envOfC "Tree.least" (defScope s_Tree_least) s.heap.objs.size f cdv))) :
    PSs (cxOf (L2.CX P Wd.w) P Wd.w K mg base N_Tree_least "Tree.least" (defScope s_Tree_least) f cdv A0 outer s H E) (defBody s_Tree_least) (liftS ⟨K, U⟩ (fun cls d _ H => E cls d H) (d_Tree_least K A)) :=
  (dss_cons (ds_set (i := 2) sc_Tree_least.nd rfl (by first | exact Or.inl rfl | exact Or.inr rfl) (by exact de_zK rfl (de_meth T.cl_Grammar T.me_Grammar_least_size G_Grammar_least_size (hr.mono (by decide)) rfl (takes_of rfl rfl rfl rfl) (de_var 0) (da_cons (de_var 1) da_nil)))) (dss_cons (ds_setLc (i := 3) (own := [("kind", 4)]) (ct := .nm 4) (dt := dB (dOp rEq (dZK K (dMeth A.c_Grammar "kind_size" (sd_Grammar_kind_size K A) (dVar 0) (dCons (dVar 4) (dNil)))) (dVar 2))) (de := dVar 4) rfl rfl sc_Tree_least.nd rfl rfl (sw_true rfl rfl rfl (by decide +kernel)) (di_any rfl (by exact de_zK rfl (de_meth T.cl_Grammar T.me_Grammar_kinds_of G_Grammar_kinds_of (hr.mono (by decide)) rfl (takes_of rfl rfl rfl rfl) (de_var 0) (da_cons (de_var 1) da_nil)))) (blkOk_by (N := N_Tree_least) (sc := defScope s_Tree_least) (by decide +kernel)) (by decide) (fun _ _ _ _ _ => (pg_name (i := 4) sc_Tree_least.nd rfl (by first | exact Or.inl rfl | exact Or.inr rfl))) (fun _ _ _ _ _ _ => (dts_one (dt_cmp (od_eq rfl (hu64 hr)) (by exact de_zK rfl (de_meth T.cl_Grammar T.me_Grammar_kind_size G_Grammar_kind_size (hr.mono (by decide)) rfl takes0 (de_var 0) (da_cons (de_var 4) da_nil))) (de_var 2) (nomark _)))) (fun _ _ _ _ _ _ => (de_var 4))) (dss_cons (ds_setLc (i := 5) (own := [("child", 6)]) (ct := .nm 6) (dt := dYes) (de := dZK K (dCall (sd_Tree_least_r1 K A) (dCons (dVar 0) (dCons (dVar 6) (dNil))))) rfl rfl sc_Tree_least.nd rfl rfl (sw_true rfl rfl rfl (by decide +kernel)) (di_any rfl (by exact de_zK rfl (de_meth T.cl_Grammar T.me_Grammar_children_of G_Grammar_children_of (hr.mono (by decide)) rfl (takes_of rfl rfl rfl rfl) (de_var 0) (da_cons (de_ix (od_ix rfl rfl (hu64 hr)) (de_var 3) de_int) da_nil)))) (blkOk_by (N := N_Tree_least) (sc := defScope s_Tree_least) (by decide +kernel)) (by decide) (fun _ _ _ _ _ => (pg_name (i := 6) sc_Tree_least.nd rfl (by first | exact Or.inl rfl | exact Or.inr rfl))) (fun _ _ _ _ _ _ => dts_nil) (fun _ _ _ _ _ _ => (by exact de_zK rfl (de_scall T.rc_Tree T.st_Tree_least_r1 G_Tree_least_r1 (hr.mono (by decide)) (by rfl) T.g_Tree rfl takes0 (da_cons (de_var 0) (da_cons (de_var 6) da_nil)))))) (dss_one (ds_ret (by exact de_zK rfl (de_makeS2 T.mk_Tree G_Tree___init__ (hr.mono (by decide)) (by rfl) T.g_Tree rfl (takes_of rfl rfl rfl rfl) (da_cons (de_var 0) (da_cons (de_ix (od_ix rfl rfl (hu64 hr)) (de_var 3) de_int) (da_star rfl (de_var 5) da_nil))))))))))
theorem h__law_sized (T : Txt K mg A) (G_Grammar_kind_size : FnD P Wd.w K mg base 4 A.m_Grammar_kind_size (sd_Grammar_kind_size K A)) (G__law_whole : FnD P Wd.w K mg base 1 A.f__law_whole (sd__law_whole K A)) (G_Tree_least : FnD P Wd.w K mg base 10 A.m_Tree_least (sd_Tree_least K A)) (G_Grammar_least_size : FnD P Wd.w K mg base 4 A.m_Grammar_least_size (sd_Grammar_least_size K A)) (G__law_read : FnD P Wd.w K mg base 6 A.f__law_read (sd__law_read K A)) (G__law_count : FnD P Wd.w K mg base 5 A.f__law_count (sd__law_count K A)) {f : Addr} {cdv : Value} {A0 : Around} {outer : List PySem.Env} {s : Shared} {H U : Hp} {E : XK} (hr : Room 10 (A0.deeper (envOfC "_law_sized" (defScope s__law_sized) s.heap.objs.size f cdv))) :
    PSs (cxOf (L2.CX P Wd.w) P Wd.w K mg base N__law_sized "_law_sized" (defScope s__law_sized) f cdv A0 outer s H E) (defBody s__law_sized) (liftS ⟨K, U⟩ (fun cls d _ H => E cls d H) (d__law_sized K A)) :=
  (dss_cons (ds_for (passes_of rfl) rfl (di_any rfl (de_var 1)) (fun _ => (dg_name (i := 4) sc__law_sized.nd rfl (by first | exact Or.inl rfl | exact Or.inr rfl))) (fun _ => (dss_one (ds_if (dt_not (dt_val (by exact de_zK rfl (de_call G__law_whole (hr.mono (by decide)) (by rfl) T.g__law_whole T.k__law_whole rfl (takes_of rfl rfl rfl rfl) (da_cons (by exact de_zK rfl (de_meth T.cl_Grammar T.me_Grammar_kind_size G_Grammar_kind_size (hr.mono (by decide)) rfl (takes_of rfl rfl rfl rfl) (de_var 0) (da_cons (de_ix (od_ix rfl rfl (hu64 hr)) (de_var 4) de_int) da_nil))) (da_cons (de_op (od_add rfl) de_int (de_callB (cd_sum rfl rfl) (by rfl) T.z_sum dboot_sum (da_cons (de_lc (own := [("_law_name", 5)]) (ct := .nm 5) (dt := dYes) (de := dOp rIx (dVar 3) (dVar 5)) rfl rfl sc__law_sized.nd (di_any rfl (de_ix (od_ix rfl rfl (hu64 hr)) (de_var 4) de_int)) (blkOk_by (N := N__law_sized) (sc := defScope s__law_sized) (by decide +kernel)) (by decide) (fun _ _ _ _ _ => (pg_name (i := 5) sc__law_sized.nd rfl (by first | exact Or.inl rfl | exact Or.inr rfl))) (fun _ _ _ _ _ _ => dts_nil) (fun _ _ _ _ _ _ => (de_ix (od_ix rfl rfl (hu64 hr)) (de_var 3) (de_var 5)))) da_nil))) da_nil)))))) (dss_one (ds_ret de_bl)) dss_nil)))) (dss_cons (ds_for (passes_of rfl) rfl (di_any rfl (de_var 2)) (fun _ => (dg_name (i := 6) sc__law_sized.nd rfl (by first | exact Or.inl rfl | exact Or.inr rfl))) (fun _ => (dss_cons (ds_set (i := 7) sc__law_sized.nd rfl (by first | exact Or.inl rfl | exact Or.inr rfl) (by exact de_zK rfl (de_scall T.rc_Tree T.st_Tree_least G_Tree_least (hr.mono (by decide)) (by rfl) T.g_Tree rfl (takes_of rfl rfl rfl rfl) (da_cons (de_var 0) (da_cons (de_var 6) da_nil))))) (dss_cons (ds_if (dt_w (dw_or (dt_not (dt_val (by exact de_zK rfl (de_call G__law_whole (hr.mono (by decide)) (by rfl) T.g__law_whole T.k__law_whole rfl (takes_of rfl rfl rfl rfl) (da_cons (by exact de_zK rfl (de_meth T.cl_Grammar T.me_Grammar_least_size G_Grammar_least_size (hr.mono (by decide)) rfl (takes_of rfl rfl rfl rfl) (de_var 0) (da_cons (de_var 6) da_nil))) (da_cons (de_ix (od_ix rfl rfl (hu64 hr)) (de_var 3) (de_var 6)) da_nil)))))) (dw_or1 (dt_not (dt_val (by exact de_zK rfl (de_call G__law_whole (hr.mono (by decide)) (by rfl) T.g__law_whole T.k__law_whole rfl (takes_of rfl rfl rfl rfl) (da_cons (de_fld rfl (de_var 7)) (da_cons (de_ix (od_ix rfl rfl (hu64 hr)) (de_var 3) (de_var 6)) da_nil))))))))) (dss_one (ds_ret de_bl)) dss_nil) (dss_one (ds_if (dt_w (dw_or (dt_cmp (od_ne rfl (hu64 hr)) (de_fld rfl (de_var 7)) (de_var 6) (nomark _)) (dw_or1 (dt_cmp (od_ne rfl (hu64 hr)) (by exact de_zK rfl (de_call G__law_count (hr.mono (by decide)) (by rfl) T.g__law_count T.k__law_count rfl (takes_of rfl rfl rfl rfl) (da_cons (de_var 1) (da_cons (de_var 6) (da_cons (by exact de_zK rfl (de_call G__law_read (hr.mono (by decide)) (by rfl) T.g__law_read T.k__law_read rfl (takes_of rfl rfl rfl rfl) (da_cons (de_var 7) da_nil))) da_nil))))) (de_ix (od_ix rfl rfl (hu64 hr)) (de_var 3) (de_var 6)) (nomark _))))) (dss_one (ds_ret de_bl)) dss_nil)))))) (dss_one (ds_ret de_bl))))
theorem h__law_stranger (T : Txt K mg A) (G_Tree_least : FnD P Wd.w K mg base 10 A.m_Tree_least (sd_Tree_least K A)) {f : Addr} {cdv : Value} {A0 : Around} {outer : List PySem.Env} {s : Shared} {H U : Hp} {E : XK} (hr : Room 10 (A0.deeper (envOfC "_law_stranger" (defScope s__law_stranger) s.heap.objs.size f cdv))) :
    PSs (cxOf (L2.CX P Wd.w) P Wd.w K mg base N__law_stranger "_law_stranger" (defScope s__law_stranger) f cdv A0 outer s H E) (defBody s__law_stranger) (liftS ⟨K, U⟩ (fun cls d _ H => E cls d H) (d__law_stranger K A)) :=
  (dss_cons (ds_try (db := sDrop (dCall (sd_Tree_least K A) (dCons (dVar 0) (dCons (dC (.str ("unknownname" : Str))) (dNil))))) rfl rfl rfl (takes_of rfl rfl rfl rfl) (fun W pn xe tk po => (dss_one (ds_expr (de_scall T.rc_Tree T.st_Tree_least G_Tree_least (hr.mono (by decide)) (by rfl) T.g_Tree rfl tk (da_cons (de_var 0) (da_cons de_str da_nil)))))) (.named (i := 1) (h := fun a C dd => sRet (dOp rEq (dXf K a C dd "name" (dVar 1)) (dC (.str ("unknownname" : Str))))) sc__law_stranger.nd rfl rfl ⟨rfl, by decide, .inl T.g_UnknownName⟩ (fun a oe C dd pn hz hf => (dss_one (ds_ret (de_cmp (od_eq rfl (hu64s hr)) (de_xf rfl hz hf (de_var 1)) de_str (nomark _))))) HdKD.nil)) (dss_one (ds_ret de_bl)))
theorem h_law (T : Txt K mg A) (G__law_source : FnD P Wd.w K mg base 1 A.f__law_source (sd__law_source K A)) (G__law_draw : FnD P Wd.w K mg base 1 A.f__law_draw (sd__law_draw K A)) (G__law_names : FnD P Wd.w K mg base 2 A.f__law_names (sd__law_names K A)) (G__law_kinds : FnD P Wd.w K mg base 3 A.f__law_kinds (sd__law_kinds K A)) (G__law_by_depth : FnD P Wd.w K mg base 1 A.f__law_by_depth (sd__law_by_depth K A)) (G__law_sized : FnD P Wd.w K mg base 11 A.f__law_sized (sd__law_sized K A)) (G__law_stranger : FnD P Wd.w K mg base 11 A.f__law_stranger (sd__law_stranger K A)) (G_Grammar___init__ : FnD P Wd.w K mg base 4 A.m_Grammar___init__ (sd_Grammar___init__ K A)) {f : Addr} {cdv : Value} {A0 : Around} {outer : List PySem.Env} {s : Shared} {H U : Hp} {E : XK} (hr : Room 11 (A0.deeper (envOfC "law" (defScope s_law) s.heap.objs.size f cdv))) :
    PSs (cxOf (L2.CX P Wd.w) P Wd.w K mg base N_law "law" (defScope s_law) f cdv A0 outer s H E) (defBody s_law) (liftS ⟨K, U⟩ (fun cls d _ H => E cls d H) (d_law K A)) :=
  (dss_cons (ds_set (i := 1) sc_law.nd rfl (by first | exact Or.inl rfl | exact Or.inr rfl) (de_call G__law_source (hr.mono (by decide)) (by rfl) T.g__law_source T.k__law_source rfl (takes_of rfl rfl rfl rfl) (da_cons (de_var 0) da_nil))) (dss_cons (ds_set (i := 2) sc_law.nd rfl (by first | exact Or.inl rfl | exact Or.inr rfl) (by exact de_zK rfl (de_call G__law_names (hr.mono (by decide)) (by rfl) T.g__law_names T.k__law_names rfl (takes_of rfl rfl rfl rfl) (da_cons (de_var 1) (da_cons (de_op (od_add rfl) de_int (de_call G__law_draw (hr.mono (by decide)) (by rfl) T.g__law_draw T.k__law_draw rfl (takes_of rfl rfl rfl rfl) (da_cons (de_var 1) (da_cons de_int da_nil)))) da_nil))))) (dss_cons (ds_set (i := 3) sc_law.nd rfl (by first | exact Or.inl rfl | exact Or.inr rfl) (by exact de_zK rfl (de_call G__law_kinds (hr.mono (by decide)) (by rfl) T.g__law_kinds T.k__law_kinds rfl (takes_of rfl rfl rfl rfl) (da_cons (de_var 1) (da_cons (de_var 2) (da_cons de_int (da_cons de_int da_nil))))))) (dss_cons (ds_set (i := 4) sc_law.nd rfl (by first | exact Or.inl rfl | exact Or.inr rfl) (by exact de_zK rfl (de_make T.mk_Grammar G_Grammar___init__ (hr.mono (by decide)) (by rfl) T.g_Grammar rfl (takes_of rfl rfl rfl rfl) (da_cons (de_lst (da_cons de_str da_nil)) (da_cons (de_lc (own := [("_law_kind", 5)]) (ct := .nm 5) (dt := dYes) (de := dTup (dCons (dOp rIx (dVar 5) (dC (.int 0))) (dCons (dOp rIx (dVar 5) (dC (.int 1))) (dCons (dCB rList (dCons (dOp rIx (dVar 5) (dC (.int 2))) (dNil))) (dNil))))) rfl rfl sc_law.nd (di_any rfl (de_var 3)) (blkOk_by (N := N_law) (sc := defScope s_law) (by decide +kernel)) (by decide) (fun _ _ _ _ _ => (pg_name (i := 5) sc_law.nd rfl (by first | exact Or.inl rfl | exact Or.inr rfl))) (fun _ _ _ _ _ _ => dts_nil) (fun _ _ _ _ _ _ => (de_tup (da_cons (de_ix (od_ix rfl rfl (hu64 hr)) (de_var 5) de_int) (da_cons (de_ix (od_ix rfl rfl (hu64 hr)) (de_var 5) de_int) (da_cons (de_callTy (cd_list rfl rfl rfl) (by rfl) T.z_list dboot_list (da_cons (de_ix (od_ix rfl rfl (hu64 hr)) (de_var 5) de_int) da_nil)) da_nil)))))) da_nil))))) (dss_cons (ds_set (i := 6) sc_law.nd rfl (by first | exact Or.inl rfl | exact Or.inr rfl) (by exact de_zK rfl (de_call G__law_by_depth (hr.mono (by decide)) (by rfl) T.g__law_by_depth T.k__law_by_depth rfl (takes_of rfl rfl rfl rfl) (da_cons (de_var 3) (da_cons (de_var 2) (da_cons (de_op (od_add rfl) (de_callB (cd_len rfl rfl) (by rfl) T.z_len PySem.boot_len (da_cons (de_var 2) da_nil)) de_int) da_nil)))))) (dss_cons (ds_if (dt_w (dw_or (dt_not (dt_val (by exact de_zK rfl (de_call G__law_sized (hr.mono (by decide)) (by rfl) T.g__law_sized T.k__law_sized rfl (takes_of rfl rfl rfl rfl) (da_cons (de_var 4) (da_cons (de_var 3) (da_cons (de_var 2) (da_cons (de_var 6) da_nil)))))))) (dw_or1 (dt_not (dt_val (by exact de_zK rfl (de_call G__law_stranger (hr.mono (by decide)) (by rfl) T.g__law_stranger T.k__law_stranger rfl (takes_of rfl rfl rfl rfl) (da_cons (de_var 4) da_nil)))))))) (dss_one (ds_ret de_bl)) dss_nil) (dss_one (ds_ret (by exact de_zK rfl (de_call G__law_sized (hr.mono (by decide)) (by rfl) T.g__law_sized T.k__law_sized rfl (takes_of rfl rfl rfl rfl) (da_cons (de_var 4) (da_cons (de_var 3) (da_cons (de_var 2) (da_cons (de_var 6) da_nil))))))))))))))
end
section
variable {P : Program} {K : PySem.W.Frag} {mg : Str → Option Value} {base : Heap} {A : Ad}
variable {ds : List D} {M : Mem} {Qd : D → Mem → Prop} {Ed : XD}
abbrev Pure (d : DS) (N : List Str) (ds : List D) (M : Mem) (Qd : D → Mem → Prop) (Ed : XD) : Prop := d (fun _ M' => Qd .non M') Qd (fun _ _ => False) (fun _ _ => False) (fun C dd _ M' => Ed C dd M') (start0 N ds) M
section
variable {Q : D → Mem → Prop} {E : XD}
theorem len__in_order (h : sd__in_order K A ds M Q E) : ds.length = 1 := by obtain ⟨_, _, rfl, _⟩ := h; rfl
theorem len__least_sizes (h : sd__least_sizes K A ds M Q E) : ds.length = 1 := by obtain ⟨_, _, rfl, _⟩ := h; rfl
theorem len__law_source (h : sd__law_source K A ds M Q E) : ds.length = 1 := by obtain ⟨_, rfl, _⟩ := h; rfl
theorem len__law_draw (h : sd__law_draw K A ds M Q E) : ds.length = 2 := by obtain ⟨_, _, _, _, rfl, _⟩ := h; rfl
theorem len__law_by_depth (h : sd__law_by_depth K A ds M Q E) : ds.length = 3 := by obtain ⟨_, _, _, rfl, _⟩ := h; rfl
theorem len_LimitExceeded___init__ (h : sd_LimitExceeded___init__ K A ds M Q E) : ds.length = 2 := by obtain ⟨_, _, rfl, _⟩ := h; rfl
theorem len_UnknownName___init__ (h : sd_UnknownName___init__ K A ds M Q E) : ds.length = 2 := by obtain ⟨_, _, rfl, _⟩ := h; rfl
theorem len_BadGrammar___init__ (h : sd_BadGrammar___init__ K A ds M Q E) : ds.length = 2 := by obtain ⟨_, _, rfl, _⟩ := h; rfl
theorem len_BadTree___init__ (h : sd_BadTree___init__ K A ds M Q E) : ds.length = 2 := by obtain ⟨_, _, rfl, _⟩ := h; rfl
theorem len__law_read_r4 (h : sd__law_read_r4 K A ds M Q E) : ds.length = 1 := h.1
theorem len__law_count_r4 (h : sd__law_count_r4 K A ds M Q E) : ds.length = 3 := h.1
theorem len_Tree_least_r4 (h : sd_Tree_least_r4 K A ds M Q E) : ds.length = 2 := h.1
theorem len__law_names (h : sd__law_names K A ds M Q E) : ds.length = 2 := by obtain ⟨_, _, _, _, rfl, _⟩ := h; rfl
theorem len__law_count_r3 (h : sd__law_count_r3 K A ds M Q E) : ds.length = 3 := by obtain ⟨_, _, _, rfl, _⟩ := h; rfl
theorem len__check_fields (h : sd__check_fields K A ds M Q E) : ds.length = 1 := by obtain ⟨_, _, rfl, _⟩ := h; rfl
theorem len__check_kinds (h : sd__check_kinds K A ds M Q E) : ds.length = 2 := by obtain ⟨_, _, _, _, rfl, _⟩ := h; rfl
theorem len__law_kinds (h : sd__law_kinds K A ds M Q E) : ds.length = 4 := by obtain ⟨_, _, _, _, _, _, rfl, _⟩ := h; rfl
theorem len_Grammar_kinds_of (h : sd_Grammar_kinds_of K A ds M Q E) : ds.length = 2 := by obtain ⟨_, _, _, _, _, _, rfl, _⟩ := h; rfl
theorem len_Grammar__check_kind (h : sd_Grammar__check_kind K A ds M Q E) : ds.length = 2 := by obtain ⟨_, _, _, _, _, _, rfl, _⟩ := h; rfl
theorem len__law_read_r3 (h : sd__law_read_r3 K A ds M Q E) : ds.length = 1 := by obtain ⟨_, _, rfl, _⟩ := h; rfl
theorem len__law_count_r2 (h : sd__law_count_r2 K A ds M Q E) : ds.length = 3 := by obtain ⟨_, _, _, rfl, _⟩ := h; rfl
theorem len_Grammar___init__ (h : sdf_Grammar___init__ K A ds M Q E) : ds.length = 4 := by obtain ⟨_, _, _, _, _, _, rfl, _⟩ := h; rfl
theorem len_Grammar_family_of (h : sd_Grammar_family_of K A ds M Q E) : ds.length = 2 := by obtain ⟨_, _, _, _, _, _, rfl, _⟩ := h; rfl
theorem len_Grammar_children_of (h : sd_Grammar_children_of K A ds M Q E) : ds.length = 2 := by obtain ⟨_, _, _, _, _, _, rfl, _⟩ := h; rfl
theorem len_Grammar_kind_size (h : sd_Grammar_kind_size K A ds M Q E) : ds.length = 2 := by obtain ⟨_, _, _, _, _, _, rfl, _⟩ := h; rfl
theorem len_Grammar_least_size (h : sd_Grammar_least_size K A ds M Q E) : ds.length = 2 := by obtain ⟨_, _, _, _, _, _, rfl, _⟩ := h; rfl
theorem len__law_read_r2 (h : sd__law_read_r2 K A ds M Q E) : ds.length = 1 := by obtain ⟨_, _, rfl, _⟩ := h; rfl
theorem len__law_count_r1 (h : sd__law_count_r1 K A ds M Q E) : ds.length = 3 := by obtain ⟨_, _, _, rfl, _⟩ := h; rfl
theorem len__law_count (h : sd__law_count K A ds M Q E) : ds.length = 3 := by obtain ⟨_, _, _, rfl, _⟩ := h; rfl
theorem len__law_read_r1 (h : sd__law_read_r1 K A ds M Q E) : ds.length = 1 := by obtain ⟨_, _, rfl, _⟩ := h; rfl
theorem len__law_read (h : sd__law_read K A ds M Q E) : ds.length = 1 := by obtain ⟨_, _, rfl, _⟩ := h; rfl
theorem len_Tree_least_r3 (h : sd_Tree_least_r3 K A ds M Q E) : ds.length = 2 := by obtain ⟨_, _, _, _, _, _, rfl, _⟩ := h; rfl
theorem len_Tree_least_r2 (h : sd_Tree_least_r2 K A ds M Q E) : ds.length = 2 := by obtain ⟨_, _, _, _, _, _, rfl, _⟩ := h; rfl
theorem len_Tree_least_r1 (h : sd_Tree_least_r1 K A ds M Q E) : ds.length = 2 := by obtain ⟨_, _, _, _, _, _, rfl, _⟩ := h; rfl
theorem len_Tree_least (h : sd_Tree_least K A ds M Q E) : ds.length = 2 := by obtain ⟨_, _, _, _, _, _, rfl, _⟩ := h; rfl
theorem len__law_whole (h : sd__law_whole K A ds M Q E) : ds.length = 2 := by obtain ⟨_, _, rfl, _⟩ := h; rfl
theorem len__law_sized (h : sd__law_sized K A ds M Q E) : ds.length = 4 := by obtain ⟨_, _, _, _, _, _, _, rfl, _⟩ := h; rfl
theorem len__law_stranger (h : sd__law_stranger K A ds M Q E) : ds.length = 1 := by obtain ⟨_, _, _, _, _, _, rfl, _⟩ := h; rfl
theorem len_law (h : sd_law K A ds M Q E) : ds.length = 1 := by obtain ⟨_, rfl, _⟩ := h; rfl
end
theorem gr_ok (T : Txt K mg A) : GrOk K A.c_Grammar := ⟨T.fo_Grammar_fields, T.fo_Grammar_kinds, T.fo_Grammar_families, T.fo_Grammar_root, T.fo_Grammar__families, T.fo_Grammar__children, T.fo_Grammar__sizes⟩
theorem tree_ok (T : Txt K mg A) : TreeOk K A.c_Tree := ⟨T.fo_Tree_kind, T.fo_Tree_family, T.fo_Tree_size, T.fo_Tree_depth, T.fo_Tree__children, T.co_Tree_MOST_NODES, T.co_Tree_MOST_DEPTH⟩
theorem pure__in_order (T : Txt K mg A) (h : sd__in_order K A ds M Qd Ed) : Pure (d__in_order K A) N__in_order ds M Qd Ed := pureOrder h
theorem pure__least_sizes (T : Txt K mg A) (h : sd__least_sizes K A ds M Qd Ed) : Pure (d__least_sizes K A) N__least_sizes ds M Qd Ed := pureLeast h
theorem pure__law_source (T : Txt K mg A) (h : sd__law_source K A ds M Qd Ed) : Pure (d__law_source K A) N__law_source ds M Qd Ed := pureSource h
theorem pure__law_draw (T : Txt K mg A) (h : sd__law_draw K A ds M Qd Ed) : Pure (d__law_draw K A) N__law_draw ds M Qd Ed := pureDraw h
theorem pure__law_by_depth (T : Txt K mg A) (h : sd__law_by_depth K A ds M Qd Ed) : Pure (d__law_by_depth K A) N__law_by_depth ds M Qd Ed := pureByDepth h
theorem pure_LimitExceeded___init__ (T : Txt K mg A) (h : sd_LimitExceeded___init__ K A ds M Qd Ed) : Pure (d_LimitExceeded___init__ K A) N_LimitExceeded___init__ ds M Qd Ed := pureErr T.ox_LimitExceeded T.nf_LimitExceeded_limit rfl h
theorem pure_UnknownName___init__ (T : Txt K mg A) (h : sd_UnknownName___init__ K A ds M Qd Ed) : Pure (d_UnknownName___init__ K A) N_UnknownName___init__ ds M Qd Ed := pureErr T.ox_UnknownName T.nf_UnknownName_name rfl h
theorem pure_BadGrammar___init__ (T : Txt K mg A) (h : sd_BadGrammar___init__ K A ds M Qd Ed) : Pure (d_BadGrammar___init__ K A) N_BadGrammar___init__ ds M Qd Ed := pureErr T.ox_BadGrammar T.nf_BadGrammar_part rfl h
theorem pure_BadTree___init__ (T : Txt K mg A) (h : sd_BadTree___init__ K A ds M Qd Ed) : Pure (d_BadTree___init__ K A) N_BadTree___init__ ds M Qd Ed := pureErrT T.ox_BadTree T.nf_BadTree_path h
theorem pure__law_read_r4 (T : Txt K mg A) (h : sd__law_read_r4 K A ds M Qd Ed) : Pure (d__law_read_r4 K A) N__law_read_r4 ds M Qd Ed := h.2.elim
theorem pure__law_count_r4 (T : Txt K mg A) (h : sd__law_count_r4 K A ds M Qd Ed) : Pure (d__law_count_r4 K A) N__law_count_r4 ds M Qd Ed := h.2.elim
theorem pure_Tree_least_r4 (T : Txt K mg A) (h : sd_Tree_least_r4 K A ds M Qd Ed) : Pure (d_Tree_least_r4 K A) N_Tree_least_r4 ds M Qd Ed := h.2.elim
theorem pure__law_names (T : Txt K mg A) (h : sd__law_names K A ds M Qd Ed) : Pure (d__law_names K A) N__law_names ds M Qd Ed := pureNames h
theorem pure__law_count_r3 (T : Txt K mg A) (h : sd__law_count_r3 K A ds M Qd Ed) : Pure (d__law_count_r3 K A) N__law_count_r3 ds M Qd Ed := pureCountT (n := 0) h
theorem pure__check_fields (T : Txt K mg A) (h : sd__check_fields K A ds M Qd Ed) : Pure (d__check_fields K A) N__check_fields ds M Qd Ed := pureChkF T.co_Grammar_MOST_FIELDS h
theorem pure__check_kinds (T : Txt K mg A) (h : sd__check_kinds K A ds M Qd Ed) : Pure (d__check_kinds K A) N__check_kinds ds M Qd Ed := pureChkK T.co_Grammar_MOST_KINDS T.co_Grammar_MOST_CHILDREN T.co_Grammar_MOST_FAMILIES h
theorem pure__law_kinds (T : Txt K mg A) (h : sd__law_kinds K A ds M Qd Ed) : Pure (d__law_kinds K A) N__law_kinds ds M Qd Ed := pureKinds h
theorem pure_Grammar_kinds_of (T : Txt K mg A) (h : sd_Grammar_kinds_of K A ds M Qd Ed) : Pure (d_Grammar_kinds_of K A) N_Grammar_kinds_of ds M Qd Ed := pureKindsOf (gr_ok T) h
theorem pure_Grammar__check_kind (T : Txt K mg A) (h : sd_Grammar__check_kind K A ds M Qd Ed) : Pure (d_Grammar__check_kind K A) N_Grammar__check_kind ds M Qd Ed := pureChk1 (gr_ok T) h
theorem pure__law_read_r3 (T : Txt K mg A) (h : sd__law_read_r3 K A ds M Qd Ed) : Pure (d__law_read_r3 K A) N__law_read_r3 ds M Qd Ed := pureReadT (n := 0) (tree_ok T) h
theorem pure__law_count_r2 (T : Txt K mg A) (h : sd__law_count_r2 K A ds M Qd Ed) : Pure (d__law_count_r2 K A) N__law_count_r2 ds M Qd Ed := pureCountT (n := 1) h
theorem pure_Grammar___init__ (T : Txt K mg A) (h : sdf_Grammar___init__ K A ds M Qd Ed) : Pure (d_Grammar___init__ K A) N_Grammar___init__ ds M Qd Ed := pureGram (gr_ok T) h
theorem pure_Grammar_family_of (T : Txt K mg A) (h : sd_Grammar_family_of K A ds M Qd Ed) : Pure (d_Grammar_family_of K A) N_Grammar_family_of ds M Qd Ed := pureKindQ (gr_ok T) T.fo_Grammar__families hv_fam h
theorem pure_Grammar_children_of (T : Txt K mg A) (h : sd_Grammar_children_of K A ds M Qd Ed) : Pure (d_Grammar_children_of K A) N_Grammar_children_of ds M Qd Ed := pureKindQ (gr_ok T) T.fo_Grammar__children hv_ch h
theorem pure_Grammar_kind_size (T : Txt K mg A) (h : sd_Grammar_kind_size K A ds M Qd Ed) : Pure (d_Grammar_kind_size K A) N_Grammar_kind_size ds M Qd Ed := pureKindQ (gr_ok T) T.fo_Grammar__sizes hv_sz h
theorem pure_Grammar_least_size (T : Txt K mg A) (h : sd_Grammar_least_size K A ds M Qd Ed) : Pure (d_Grammar_least_size K A) N_Grammar_least_size ds M Qd Ed := pureLeastOf (gr_ok T) h
theorem pure__law_read_r2 (T : Txt K mg A) (h : sd__law_read_r2 K A ds M Qd Ed) : Pure (d__law_read_r2 K A) N__law_read_r2 ds M Qd Ed := pureReadT (n := 1) (tree_ok T) h
theorem pure__law_count_r1 (T : Txt K mg A) (h : sd__law_count_r1 K A ds M Qd Ed) : Pure (d__law_count_r1 K A) N__law_count_r1 ds M Qd Ed := pureCountT (n := 2) h
theorem pure__law_count (T : Txt K mg A) (h : sd__law_count K A ds M Qd Ed) : Pure (d__law_count K A) N__law_count ds M Qd Ed := pureCountT (n := 3) h
theorem pure_Tree___init__ (T : Txt K mg A) (h : sdx_Tree___init__ K A ds M Qd Ed) : Pure (d_Tree___init__ K A) N_Tree___init__ ds M Qd Ed := pureTree (tree_ok T) h
theorem pure__law_read_r1 (T : Txt K mg A) (h : sd__law_read_r1 K A ds M Qd Ed) : Pure (d__law_read_r1 K A) N__law_read_r1 ds M Qd Ed := pureReadT (n := 2) (tree_ok T) h
theorem pure__law_read (T : Txt K mg A) (h : sd__law_read K A ds M Qd Ed) : Pure (d__law_read K A) N__law_read ds M Qd Ed := pureReadT (n := 3) (tree_ok T) h
theorem pure_Tree_least_r3 (T : Txt K mg A) (h : sd_Tree_least_r3 K A ds M Qd Ed) : Pure (d_Tree_least_r3 K A) N_Tree_least_r3 ds M Qd Ed := pureLeastT (n := 0) h
theorem pure_Tree_least_r2 (T : Txt K mg A) (h : sd_Tree_least_r2 K A ds M Qd Ed) : Pure (d_Tree_least_r2 K A) N_Tree_least_r2 ds M Qd Ed := pureLeastT (n := 1) h
theorem pure_Tree_least_r1 (T : Txt K mg A) (h : sd_Tree_least_r1 K A ds M Qd Ed) : Pure (d_Tree_least_r1 K A) N_Tree_least_r1 ds M Qd Ed := pureLeastT (n := 2) h
theorem pure_Tree_least (T : Txt K mg A) (h : sd_Tree_least K A ds M Qd Ed) : Pure (d_Tree_least K A) N_Tree_least ds M Qd Ed := pureLeastT (n := 3) h

end
section
variable {P : Program} {K : PySem.W.Frag} {mg : Str → Option Value} {base : Heap} {A : Ad}
variable {ds : List D} {M : Mem} {Qd : D → Mem → Prop} {Ed : XD}
theorem pure__law_whole (T : Txt K mg A) (h : sd__law_whole K A ds M Qd Ed) : Pure (d__law_whole K A) N__law_whole ds M Qd Ed := by
  obtain ⟨i, j, rfl, kQ⟩ := h
  unfold Pure d__law_whole
  walk_at "dl"
  refine .mk (.ty _) (.int _) (b := true) rfl ?_
  refine ⟨true, rfl, g_ift rfl ?_⟩
  walk_at "dl"
  refine .mk (.ty _) (.int _) (b := false) rfl ?_
  walk_at "dl"
  refine g_ift rfl ?_
  walk_at "dl"
  simpa using kQ
theorem pure__law_stranger (T : Txt K mg A) (h : sd__law_stranger K A ds M Qd Ed) : Pure (d__law_stranger K A) N__law_stranger ds M Qd Ed := by
  obtain ⟨g, xs, rs, fs, root, S, rfl, G, k, hu, nd, kQ⟩ := h
  unfold Pure d__law_stranger
  walk_at "dl"
  refine ⟨g, xs, rs, root, S, "unknownname", rfl, G, Nat.le_refl 3, k.cl, fun r hr c hc => (k.fams c).mpr (k.ch r hr c hc), nd, fun _ dx hdx => ?_, fun z => absurd z hu⟩
  refine ⟨true, T.em_UnknownName_UnknownName, fun _ a => ?_, fun z => nomatch z⟩
  walk_at "dl"
  refine ⟨_, _, rfl, T.xf_UnknownName, T.nf_UnknownName_name, List.mem_cons_self, .head, ?_⟩
  walk_at "dl"
  simpa using kQ _ (nd_new hdx nd) Fr.refl.cons
theorem least_lf {cG : Addr} {g : D} {xs : List Str} {rs : List Kd} {root : Option Str} {S : Tab} (G : Gm M g cG xs rs root S) {f : Str} {n : Nat} (h : ∃ r ∈ rs, r.f = f ∧ getN S r.n = some n) (hmin : ∀ r ∈ rs, r.f = f → ∀ m, getN S r.n = some m → n ≤ m) : LF rs f n := by
  obtain ⟨r0, hr0, hf0, e0⟩ := h
  obtain ⟨m', e', w⟩ := G.size hr0
  rw [e0] at e'
  cases e'
  obtain ⟨⟨k, hk, ek⟩, _⟩ := w
  refine ⟨by rw [ek, ← hf0]; exact .mk hr0 hk, fun m hm => ?_⟩
  cases hm with
  | @mk r k' hr ts =>
    obtain ⟨m', e', w⟩ := G.size hr
    exact Nat.le_trans (hmin r hr rfl m' e') (w.2 _ ts)
theorem pure__law_sized (T : Txt K mg A) (h : sd__law_sized K A ds M Qd Ed) : Pure (d__law_sized K A) N__law_sized ds M Qd Ed := by
  obtain ⟨g, xs, rs, fs, root, S, U, rfl, G, k, hfl, hok, hU, nd, kQ⟩ := h
  have hrl : rs.length ≤ 8 := (G M).l8
  have hch : ∀ r ∈ rs, ∀ c ∈ r.ch, c ∈ famsOf rs := fun r hr c hc => (k.fams c).mpr (k.ch r hr c hc)
  unfold Pure d__law_sized
  walk_at "dl"
  refine ⟨_, _, .lst (.lst _), ?_⟩
  let P : Nat → Rho → Mem → Prop := fun i ρ M' => (∃ x4, ρ = [some g, some (.lst (rs.map kdL)), some (.lst (fs.map .str)), some (.dic (emb U)), x4, none, none, none]) ∧ M' = M
  refine goF_inv P (fun _ _ _ _ => trivial) (fun i d ρ M5 hd hP go hgo => ?_) (fun ρ M5 hP => ?_) ⟨⟨_, rfl⟩, rfl⟩
  · obtain ⟨⟨x4, rfl⟩, rfl⟩ := hP
    rw [List.getElem?_map] at hd
    cases ei : rs[i]? with
    | none => rw [ei] at hd; cases hd
    | some r =>
    rw [ei] at hd
    cases hd
    have hr := List.mem_of_getElem? ei
    obtain ⟨n, en, fw⟩ := (G M5).size hr
    have hcl := k.cl r hr
    have es : n = 1 + sumL U r.ch := by
      have := fewest_sum (ts := r.ch.map fun c => (c, (getN U c).getD 0)) fw (by rw [List.map_map]; exact List.map_id _) fun p hp => by
        obtain ⟨c, hcm, rfl⟩ := List.mem_map.mp hp
        obtain ⟨m, lm, em⟩ := hU c (k.ch r hr c hcm)
        show LF rs c ((getN U c).getD 0)
        rw [em]
        exact lm
      rw [List.map_map] at this
      unfold sumL
      rw [this]
      exact Nat.add_comm _ _
    walk_at "dl"
    refine ⟨_, (G _).at_, no_meth (by decide +kernel), ?_⟩
    walk_at "dl"
    refine ixt0 ?_
    walk_at "dl"
    refine ⟨g, xs, rs, root, S, r.n, rfl, G _, nd, fun z => absurd (List.mem_map.mpr ⟨r, hr, rfl⟩) z, fun r' hr' e d ⟨m, em, ed⟩ => ⟨_, _, .refl, ?_⟩⟩
    obtain rfl := nodup_map_inj (G M5).nd hr' hr e
    subst ed
    rw [en] at em
    cases em
    walk_at "dl"
    refine ixt2 ?_
    refine ⟨_, _, .lst (.lst _), lt_line (by rw [List.length_map]; omega), lc_map .str (fun c => .int (((getN U c).getD 0 : Nat))) trivial (fun c hcc P1 h1 => ?_) (.inl ?_)⟩
    · walk_at "dl"
      obtain ⟨m, lm, em⟩ := hU c (k.ch r' hr' c hcc)
      rw [em] at h1
      exact .dic (k := .inr c) (.dic _) (by rw [look_emb, em]; rfl) h1
    walk_at "dl"
    refine .lst (ns := r'.ch.map fun c => (((getN U c).getD 0 : Nat) : Int)) (by rw [List.map_map]; exact .lst _) ?_
    rw [sum_cast]
    walk_at "dl"
    refine ⟨_, _, rfl, ⟨_, _, .refl, ?_⟩⟩
    walk_at "dl"
    refine g_iff' (by rw [es]; simp) ?_
    exact hgo _ _ ⟨⟨_, rfl⟩, rfl⟩
  obtain ⟨⟨x4, rfl⟩, rfl⟩ := hP
  walk_at "dl"
  refine ⟨_, _, .lst (.lst _), ?_⟩
  let P2 : Nat → Rho → Mem → Prop := fun i ρ M' => (∃ x6 x7, ρ = [some g, some (.lst (rs.map kdL)), some (.lst (fs.map .str)), some (.dic (emb U)), x4, none, x6, x7]) ∧ Nd M' ∧ Fr [] M5 M'
  refine goF_inv P2 (fun _ _ _ _ => trivial) (fun i d ρ M6 hd hP go hgo => ?_) (fun ρ M6 hP => ?_) ⟨⟨_, _, rfl⟩, nd, Fr.refl⟩
  · obtain ⟨⟨x6, x7, rfl⟩, nd6, f6⟩ := hP
    rw [List.getElem?_map] at hd
    cases ei : fs[i]? with
    | none => rw [ei] at hd; cases hd
    | some f =>
    rw [ei] at hd
    cases hd
    have hf := List.mem_of_getElem? ei
    have hff := (k.fams f).mpr hf
    obtain ⟨m, lm, em⟩ := hU f hf
    have dp4 : Dp rs 4 f := dp_more (by omega) (dp_fams k.tr k.ch hf)
    have ixf : ∀ {M : Mem} {R : D → Mem → Prop}, R (.int (m : Nat)) M → DL.rIx (.dic (emb U)) (.str f) M R := fun h => .dic (k := .inr f) (.dic _) (by rw [look_emb, em]; rfl) h
    walk_at "dl"
    refine ⟨g, xs, rs, root, S, f, rfl, G, Nat.le_refl 3, k.cl, hch, nd6, fun z => absurd hff z, fun _ => ⟨dp4, fun t M7 ok ef lf dp nd7 f7 => ⟨_, _, .refl, ?_⟩⟩⟩
    have esz : t.sz = m := lf.one lm
    have hsm := lf_small k.cl dp4 lf
    obtain ⟨kk, ch, et⟩ := tre_ok' A.c_Tree t
    have et : t.d A.c_Tree = .obj A.c_Tree (treeE kk t.kd.f t.sz t.dp ch) := et
    walk_at "dl"
    refine ⟨_, (G _).at_, no_meth (by decide +kernel), ?_⟩
    walk_at "dl"
    refine ⟨g, xs, rs, root, S, f, rfl, G _, nd7, fun z => absurd hff z, fun _ n hn hmin => ⟨_, _, .refl, ?_⟩⟩
    have en : n = m := (least_lf (G M7) hn hmin).one lm
    walk_at "dl"
    refine ixf ?_
    walk_at "dl"
    refine ⟨_, _, rfl, ⟨_, _, .refl, ?_⟩⟩
    walk_at "dl"
    refine g_iff' (by rw [en]; simp) ?_
    walk_at "dl"
    refine ⟨_, _, _, by rw [et]; exact .obj _ _, T.fo_Tree_size, .tail (by decide) (.tail (by decide) .head), ?_⟩
    walk_at "dl"
    refine ixf ?_
    walk_at "dl"
    refine ⟨_, _, rfl, ⟨_, _, .refl, ?_⟩⟩
    walk_at "dl"
    refine g_iff' (by rw [esz]; simp) ?_
    walk_at "dl"
    refine ⟨_, _, _, by rw [et]; exact .obj _ _, T.fo_Tree_family, .tail (by decide) .head, ?_⟩
    walk_at "dl"
    refine g_iff' (by rw [ef]; simp) ?_
    walk_at "dl"
    refine ⟨rs, t, rfl, ok, k.cl, dp, ⟨_, _, .refl, ?_⟩⟩
    walk_at "dl"
    refine ⟨rs, f, t, rfl, by omega, k.nd, ok, ef, k.cl, dp, by omega, ⟨_, _, .refl, ?_⟩⟩
    walk_at "dl"
    refine ixf ?_
    walk_at "dl"
    refine g_iff' (by rw [esz]; simp) ?_
    exact hgo _ _ ⟨⟨_, _, rfl⟩, nd7, f6.trans f7⟩
  · obtain ⟨⟨x6, x7, rfl⟩, nd6, f6⟩ := hP
    walk_at "dl"
    exact kQ M6 nd6 f6

end
section
variable {P : Program} {K : PySem.W.Frag} {mg : Str → Option Value} {base : Heap} {A : Ad}
variable {ds : List D} {M : Mem} {Qd : D → Mem → Prop} {Ed : XD}
theorem pure_law (T : Txt K mg A) (h : sd_law K A ds M Qd Ed) : Pure (d_law K A) N_law ds M Qd Ed := by
  obtain ⟨cs, rfl, hcs, nd, kQ⟩ := h
  unfold Pure d_law
  walk_at "dl"
  refine ⟨cs, rfl, hcs, nd, fun p c M1 hp hc nd1 S1 f1 => ?_⟩
  walk_at "dl"
  refine draw_nat (n := 3) rfl (by decide) (by decide) nd1 (by omega) S1 fun r1 M2 b1 nd2 S2 f2 => ?_
  walk_at "dl"
  refine ⟨p, c, _, 1 + r1, by rw [show (1 : Int) + (r1 : Int) = ((1 + r1 : Nat) : Int) by omega], by omega, nd2, by omega, S2, fun fs a M3 hfl hfn hfo nd3 S3 ha hap hac hma f3 => ?_⟩
  obtain ⟨M4, U⟩ := del_ex nd3 hma
  refine ⟨_, M4, .one U.up rfl, ?_⟩
  have S4 : Src p c _ M4 := S3.fr U.fr (not_mem1 (Ne.symm hap)) (not_mem1 (Ne.symm hac))
  walk_at "dl"
  refine ⟨p, c, fs, 5, 3, _, rfl, by omega, by omega, by decide, by decide, U.nd, by omega, S4, fun rs M5 k nd5 S5 f5 => ?_⟩
  refine ⟨_, _, .refl, ?_⟩
  have hrl : rs.length ≤ 8 := by have := k.len; omega
  have hne : fs ≠ [] := fun z => by rw [z] at hfl; simp at hfl; omega
  walk_at "dl"
  refine ⟨len_le_line (n := 1), .inl ?_⟩
  walk_at "dl"
  refine ⟨_, _, .lst (.lst _), lt_line (by rw [List.length_map]; omega), lc_map kdL kdL trivial (fun r hr P1 h1 => ?_) (.inl ?_)⟩
  · have := k.cl r hr
    walk_at "dl"
    refine ixt0 ?_
    walk_at "dl"
    refine ixt1 ?_
    walk_at "dl"
    refine ixt2 ?_
    walk_at "dl"
    refine .seq (.lst _) (.inl ?_)
    walk_at "dl"
    exact ⟨len_le_line (n := 3), h1⟩
  walk_at "dl"
  intro x hx
  show SpD.dflt (spGram A.c_Grammar A.c_LimitExceeded A.c_BadGrammar) [.non] _ _ _ _
  unfold SpD.dflt
  refine gram_ok (root := none) (xs := ["one"]) (ps := rs.map fun r => (r, D.lst (r.ch.map .str))) List.mem_cons_self (nd_new hx nd5) (.lst _) (by decide) (by decide) (by rw [rowsD_kdL]; exact .lst _) (fun q hq => ?_) (fst_map _ _) k hne (by omega) (by omega) (by decide) (fun s e => nomatch e) fun S M6 h6 Gr nd6 f6 => ⟨rfl, ?_⟩
  · obtain ⟨r, _, rfl⟩ := List.mem_map.mp hq
    exact .lst _
  obtain ⟨M7, U7⟩ := del_ex nd6 h6
  refine ⟨_, M7, .one U7.up rfl, ?_⟩
  have G : ∀ M', Gm M' (.obj A.c_Grammar (gramD ["one"] rs none S)) A.c_Grammar ["one"] rs none S := fun M' => ⟨.obj _ _, Gr.nd, Gr.l8, Gr.sz, Gr.full⟩
  generalize D.obj A.c_Grammar (gramD ["one"] rs none S) = g at G
  have nd7 := U7.nd
  walk_at "dl"
  refine isS_len (.lst _) ?_
  rw [List.length_map]
  walk_at "dl"
  refine ⟨rs, fs, fs.length + 1, rfl, by omega, fun r hr => by have := k.cl r hr; omega, by omega, by omega, k.tr, k.ch, nd7, fun V M8 hV nd8 f8 => ⟨_, _, .refl, ?_⟩⟩
  have hok : ∀ f ∈ fs, PyData.strOk f = true := fun f hf => okStr (hfo f hf)
  have hLF : ∀ f ∈ fs, ∃ m, LF rs f m ∧ getN V f = some m := fun f hf => hV.co f hf (dp_more (by omega) (dp_fams k.tr k.ch hf))
  have hu : ("unknownname" : Str) ∉ famsOf rs := fun z => far (hfo _ ((k.fams _).mp z)) rfl
  walk_at "dl"
  refine ⟨g, _, rs, fs, _, S, V, rfl, G, k, by omega, hok, hLF, nd8, fun M9 nd9 f9 => ⟨_, _, .refl, ?_⟩⟩
  walk_at "dl"
  refine g_iff' rfl ?_
  walk_at "dl"
  refine ⟨g, _, rs, fs, _, S, rfl, G, k, hu, nd9, fun M10 nd10 f10 => ⟨_, _, .refl, ?_⟩⟩
  walk_at "dl"
  refine g_iff' rfl ?_
  walk_at "dl"
  refine ⟨g, _, rs, fs, _, S, V, rfl, G, k, by omega, hok, hLF, nd10, fun M11 nd11 f11 => ⟨_, _, .refl, ?_⟩⟩
  exact kQ M11

end
section
variable {P : Program} {K : PySem.W.Frag} {mg : Str → Option Value} {base : Heap} {A : Ad}
theorem ok__in_order (T : Txt K mg A) {fd : FuncData} (Fu : Fun K "_in_order" "_in_order" s__in_order A.f__in_order fd) : FnOk P Wd.w K mg base (L2.CX P Wd.w) 1 A.f__in_order fd ["names"] (spOf K (sd__in_order K A)) :=
  fnOk_of Fu sc__in_order (fun ds M Q E h => len__in_order h) fun cdv A0 outer s H U E ds M Qd Ed hr h => ⟨d__in_order K A, h__in_order T hr, pure__in_order T h⟩
theorem ok__least_sizes (T : Txt K mg A) {fd : FuncData} (Fu : Fun K "_least_sizes" "_least_sizes" s__least_sizes A.f__least_sizes fd) : FnOk P Wd.w K mg base (L2.CX P Wd.w) 1 A.f__least_sizes fd ["rows"] (spOf K (sd__least_sizes K A)) :=
  fnOk_of Fu sc__least_sizes (fun ds M Q E h => len__least_sizes h) fun cdv A0 outer s H U E ds M Qd Ed hr h => ⟨d__least_sizes K A, h__least_sizes T hr, pure__least_sizes T h⟩
theorem ok__law_source (T : Txt K mg A) {fd : FuncData} (Fu : Fun K "_law_source" "_law_source" s__law_source A.f__law_source fd) : FnOk P Wd.w K mg base (L2.CX P Wd.w) 1 A.f__law_source fd ["_law_script"] (spOf K (sd__law_source K A)) :=
  fnOk_of Fu sc__law_source (fun ds M Q E h => len__law_source h) fun cdv A0 outer s H U E ds M Qd Ed hr h => ⟨d__law_source K A, h__law_source T hr, pure__law_source T h⟩
theorem ok__law_draw (T : Txt K mg A) {fd : FuncData} (Fu : Fun K "_law_draw" "_law_draw" s__law_draw A.f__law_draw fd) : FnOk P Wd.w K mg base (L2.CX P Wd.w) 1 A.f__law_draw fd ["_law_source_here", "_law_many"] (spOf K (sd__law_draw K A)) :=
  fnOk_of Fu sc__law_draw (fun ds M Q E h => len__law_draw h) fun cdv A0 outer s H U E ds M Qd Ed hr h => ⟨d__law_draw K A, h__law_draw T hr, pure__law_draw T h⟩
theorem ok__law_by_depth (T : Txt K mg A) {fd : FuncData} (Fu : Fun K "_law_by_depth" "_law_by_depth" s__law_by_depth A.f__law_by_depth fd) : FnOk P Wd.w K mg base (L2.CX P Wd.w) 1 A.f__law_by_depth fd ["_law_kinds_here", "_law_families", "_law_depth"] (spOf K (sd__law_by_depth K A)) :=
  fnOk_of Fu sc__law_by_depth (fun ds M Q E h => len__law_by_depth h) fun cdv A0 outer s H U E ds M Qd Ed hr h => ⟨d__law_by_depth K A, h__law_by_depth T hr, pure__law_by_depth T h⟩
theorem ok__law_whole (T : Txt K mg A) {fd : FuncData} (Fu : Fun K "_law_whole" "_law_whole" s__law_whole A.f__law_whole fd) : FnOk P Wd.w K mg base (L2.CX P Wd.w) 1 A.f__law_whole fd ["_law_actual", "_law_due"] (spOf K (sd__law_whole K A)) :=
  fnOk_of Fu sc__law_whole (fun ds M Q E h => len__law_whole h) fun cdv A0 outer s H U E ds M Qd Ed hr h => ⟨d__law_whole K A, h__law_whole T hr, pure__law_whole T h⟩
theorem ok_LimitExceeded___init__ (T : Txt K mg A) {fd : FuncData} (Fu : Fun K "__init__" "LimitExceeded.__init__" s_LimitExceeded___init__ A.m_LimitExceeded___init__ fd) : FnOk P Wd.w K mg base (L2.CX P Wd.w) 1 A.m_LimitExceeded___init__ fd ["self", "limit"] (spOf K (sd_LimitExceeded___init__ K A)) :=
  fnOk_of Fu sc_LimitExceeded___init__ (fun ds M Q E h => len_LimitExceeded___init__ h) fun cdv A0 outer s H U E ds M Qd Ed hr h => ⟨d_LimitExceeded___init__ K A, h_LimitExceeded___init__ T hr, pure_LimitExceeded___init__ T h⟩
theorem ok_UnknownName___init__ (T : Txt K mg A) {fd : FuncData} (Fu : Fun K "__init__" "UnknownName.__init__" s_UnknownName___init__ A.m_UnknownName___init__ fd) : FnOk P Wd.w K mg base (L2.CX P Wd.w) 1 A.m_UnknownName___init__ fd ["self", "name"] (spOf K (sd_UnknownName___init__ K A)) :=
  fnOk_of Fu sc_UnknownName___init__ (fun ds M Q E h => len_UnknownName___init__ h) fun cdv A0 outer s H U E ds M Qd Ed hr h => ⟨d_UnknownName___init__ K A, h_UnknownName___init__ T hr, pure_UnknownName___init__ T h⟩
theorem ok_BadGrammar___init__ (T : Txt K mg A) {fd : FuncData} (Fu : Fun K "__init__" "BadGrammar.__init__" s_BadGrammar___init__ A.m_BadGrammar___init__ fd) : FnOk P Wd.w K mg base (L2.CX P Wd.w) 1 A.m_BadGrammar___init__ fd ["self", "part"] (spOf K (sd_BadGrammar___init__ K A)) :=
  fnOk_of Fu sc_BadGrammar___init__ (fun ds M Q E h => len_BadGrammar___init__ h) fun cdv A0 outer s H U E ds M Qd Ed hr h => ⟨d_BadGrammar___init__ K A, h_BadGrammar___init__ T hr, pure_BadGrammar___init__ T h⟩
theorem ok_BadTree___init__ (T : Txt K mg A) {fd : FuncData} (Fu : Fun K "__init__" "BadTree.__init__" s_BadTree___init__ A.m_BadTree___init__ fd) : FnOk P Wd.w K mg base (L2.CX P Wd.w) 1 A.m_BadTree___init__ fd ["self", "path"] (spOf K (sd_BadTree___init__ K A)) :=
  fnOk_of Fu sc_BadTree___init__ (fun ds M Q E h => len_BadTree___init__ h) fun cdv A0 outer s H U E ds M Qd Ed hr h => ⟨d_BadTree___init__ K A, h_BadTree___init__ T hr, pure_BadTree___init__ T h⟩
theorem ok_Tree___iter__ (T : Txt K mg A) {fd : FuncData} (Fu : Fun K "__iter__" "Tree.__iter__" s_Tree___iter__ A.m_Tree___iter__ fd) (bi : Binds K fd ["self"] []) : IterFn P Wd.w K mg base 1 A.m_Tree___iter__ "_children" := iterFn_of Fu sc_Tree___iter__ bi fun cdv A0 outer s H E => h_Tree___iter__ T
theorem ok__law_read_r4 (T : Txt K mg A) {fd : FuncData} (Fu : Fun K "_law_read" "_law_read" s__law_read_r4 A.f__law_read_r4 fd) : FnOk P Wd.w K mg base (L2.CX P Wd.w) 1 A.f__law_read_r4 fd ["_law_tree"] (spOf K (sd__law_read_r4 K A)) :=
  fnOk_of Fu sc__law_read_r4 (fun ds M Q E h => len__law_read_r4 h) fun cdv A0 outer s H U E ds M Qd Ed hr h => ⟨d__law_read_r4 K A, h__law_read_r4 T hr, pure__law_read_r4 T h⟩
theorem ok__law_count_r4 (T : Txt K mg A) {fd : FuncData} (Fu : Fun K "_law_count" "_law_count" s__law_count_r4 A.f__law_count_r4 fd) : FnOk P Wd.w K mg base (L2.CX P Wd.w) 1 A.f__law_count_r4 fd ["_law_kinds_here", "_law_family", "_law_node"] (spOf K (sd__law_count_r4 K A)) :=
  fnOk_of Fu sc__law_count_r4 (fun ds M Q E h => len__law_count_r4 h) fun cdv A0 outer s H U E ds M Qd Ed hr h => ⟨d__law_count_r4 K A, h__law_count_r4 T hr, pure__law_count_r4 T h⟩
theorem ok_Tree_least_r4 (T : Txt K mg A) {fd : FuncData} (Fu : Fun K "least" "Tree.least" s_Tree_least_r4 A.m_Tree_least_r4 fd) : FnOk P Wd.w K mg base (L2.CX P Wd.w) 1 A.m_Tree_least_r4 fd ["grammar", "family"] (spOf K (sd_Tree_least_r4 K A)) :=
  fnOk_of Fu sc_Tree_least_r4 (fun ds M Q E h => len_Tree_least_r4 h) fun cdv A0 outer s H U E ds M Qd Ed hr h => ⟨d_Tree_least_r4 K A, h_Tree_least_r4 T hr, pure_Tree_least_r4 T h⟩
theorem ok__law_names (T : Txt K mg A) (G__law_draw : FnD P Wd.w K mg base 1 A.f__law_draw (sd__law_draw K A)) {fd : FuncData} (Fu : Fun K "_law_names" "_law_names" s__law_names A.f__law_names fd) : FnOk P Wd.w K mg base (L2.CX P Wd.w) 2 A.f__law_names fd ["_law_source_here", "_law_count_here"] (spOf K (sd__law_names K A)) :=
  fnOk_of Fu sc__law_names (fun ds M Q E h => len__law_names h) fun cdv A0 outer s H U E ds M Qd Ed hr h => ⟨d__law_names K A, h__law_names T G__law_draw hr, pure__law_names T h⟩
theorem ok__law_count_r3 (T : Txt K mg A) (G__law_count_r4 : FnD P Wd.w K mg base 1 A.f__law_count_r4 (sd__law_count_r4 K A)) {fd : FuncData} (Fu : Fun K "_law_count" "_law_count" s__law_count_r3 A.f__law_count_r3 fd) : FnOk P Wd.w K mg base (L2.CX P Wd.w) 2 A.f__law_count_r3 fd ["_law_kinds_here", "_law_family", "_law_node"] (spOf K (sd__law_count_r3 K A)) :=
  fnOk_of Fu sc__law_count_r3 (fun ds M Q E h => len__law_count_r3 h) fun cdv A0 outer s H U E ds M Qd Ed hr h => ⟨d__law_count_r3 K A, h__law_count_r3 T G__law_count_r4 hr, pure__law_count_r3 T h⟩
theorem ok__check_fields (T : Txt K mg A) (G__in_order : FnD P Wd.w K mg base 1 A.f__in_order (sd__in_order K A)) {fd_LimitExceeded___init__ : FuncData} (F_LimitExceeded___init__ : FnOk P Wd.w K mg base (L2.CX P Wd.w) 1 A.m_LimitExceeded___init__ fd_LimitExceeded___init__ ["self", "limit"] (spOf K (sd_LimitExceeded___init__ K A)) ∧ Binds K fd_LimitExceeded___init__ ["self", "limit"] []) {fd_BadGrammar___init__ : FuncData} (F_BadGrammar___init__ : FnOk P Wd.w K mg base (L2.CX P Wd.w) 1 A.m_BadGrammar___init__ fd_BadGrammar___init__ ["self", "part"] (spOf K (sd_BadGrammar___init__ K A)) ∧ Binds K fd_BadGrammar___init__ ["self", "part"] []) {fd : FuncData} (Fu : Fun K "_check_fields" "_check_fields" s__check_fields A.f__check_fields fd) : FnOk P Wd.w K mg base (L2.CX P Wd.w) 3 A.f__check_fields fd ["fields"] (spOf K (sd__check_fields K A)) :=
  fnOk_of Fu sc__check_fields (fun ds M Q E h => len__check_fields h) fun cdv A0 outer s H U E ds M Qd Ed hr h => ⟨d__check_fields K A, h__check_fields T G__in_order F_LimitExceeded___init__ F_BadGrammar___init__ hr, pure__check_fields T h⟩
theorem ok__check_kinds (T : Txt K mg A) (G__in_order : FnD P Wd.w K mg base 1 A.f__in_order (sd__in_order K A)) {fd_BadGrammar___init__ : FuncData} (F_BadGrammar___init__ : FnOk P Wd.w K mg base (L2.CX P Wd.w) 1 A.m_BadGrammar___init__ fd_BadGrammar___init__ ["self", "part"] (spOf K (sd_BadGrammar___init__ K A)) ∧ Binds K fd_BadGrammar___init__ ["self", "part"] []) {fd_LimitExceeded___init__ : FuncData} (F_LimitExceeded___init__ : FnOk P Wd.w K mg base (L2.CX P Wd.w) 1 A.m_LimitExceeded___init__ fd_LimitExceeded___init__ ["self", "limit"] (spOf K (sd_LimitExceeded___init__ K A)) ∧ Binds K fd_LimitExceeded___init__ ["self", "limit"] []) {fd : FuncData} (Fu : Fun K "_check_kinds" "_check_kinds" s__check_kinds A.f__check_kinds fd) : FnOk P Wd.w K mg base (L2.CX P Wd.w) 3 A.f__check_kinds fd ["rows", "families"] (spOf K (sd__check_kinds K A)) :=
  fnOk_of Fu sc__check_kinds (fun ds M Q E h => len__check_kinds h) fun cdv A0 outer s H U E ds M Qd Ed hr h => ⟨d__check_kinds K A, h__check_kinds T G__in_order F_BadGrammar___init__ F_LimitExceeded___init__ hr, pure__check_kinds T h⟩
theorem ok__law_kinds (T : Txt K mg A) (G__law_draw : FnD P Wd.w K mg base 1 A.f__law_draw (sd__law_draw K A)) (G__law_names : FnD P Wd.w K mg base 2 A.f__law_names (sd__law_names K A)) {fd : FuncData} (Fu : Fun K "_law_kinds" "_law_kinds" s__law_kinds A.f__law_kinds fd) : FnOk P Wd.w K mg base (L2.CX P Wd.w) 3 A.f__law_kinds fd ["_law_source_here", "_law_families", "_law_extra", "_law_width"] (spOf K (sd__law_kinds K A)) :=
  fnOk_of Fu sc__law_kinds (fun ds M Q E h => len__law_kinds h) fun cdv A0 outer s H U E ds M Qd Ed hr h => ⟨d__law_kinds K A, h__law_kinds T G__law_draw G__law_names hr, pure__law_kinds T h⟩
theorem ok_Grammar_kinds_of (T : Txt K mg A) {fd_UnknownName___init__ : FuncData} (F_UnknownName___init__ : FnOk P Wd.w K mg base (L2.CX P Wd.w) 1 A.m_UnknownName___init__ fd_UnknownName___init__ ["self", "name"] (spOf K (sd_UnknownName___init__ K A)) ∧ Binds K fd_UnknownName___init__ ["self", "name"] []) {fd : FuncData} (Fu : Fun K "kinds_of" "Grammar.kinds_of" s_Grammar_kinds_of A.m_Grammar_kinds_of fd) : FnOk P Wd.w K mg base (L2.CX P Wd.w) 3 A.m_Grammar_kinds_of fd ["self", "family"] (spOf K (sd_Grammar_kinds_of K A)) :=
  fnOk_of Fu sc_Grammar_kinds_of (fun ds M Q E h => len_Grammar_kinds_of h) fun cdv A0 outer s H U E ds M Qd Ed hr h => ⟨d_Grammar_kinds_of K A, h_Grammar_kinds_of T F_UnknownName___init__ hr, pure_Grammar_kinds_of T h⟩
theorem ok_Grammar__check_kind (T : Txt K mg A) {fd_UnknownName___init__ : FuncData} (F_UnknownName___init__ : FnOk P Wd.w K mg base (L2.CX P Wd.w) 1 A.m_UnknownName___init__ fd_UnknownName___init__ ["self", "name"] (spOf K (sd_UnknownName___init__ K A)) ∧ Binds K fd_UnknownName___init__ ["self", "name"] []) {fd : FuncData} (Fu : Fun K "_check_kind" "Grammar._check_kind" s_Grammar__check_kind A.m_Grammar__check_kind fd) : FnOk P Wd.w K mg base (L2.CX P Wd.w) 3 A.m_Grammar__check_kind fd ["self", "kind"] (spOf K (sd_Grammar__check_kind K A)) :=
  fnOk_of Fu sc_Grammar__check_kind (fun ds M Q E h => len_Grammar__check_kind h) fun cdv A0 outer s H U E ds M Qd Ed hr h => ⟨d_Grammar__check_kind K A, h_Grammar__check_kind T F_UnknownName___init__ hr, pure_Grammar__check_kind T h⟩
theorem ok__law_read_r3 (T : Txt K mg A) (G_Tree___iter__ : IterFn P Wd.w K mg base 1 A.m_Tree___iter__ "_children") (G__law_read_r4 : FnD P Wd.w K mg base 1 A.f__law_read_r4 (sd__law_read_r4 K A)) {fd : FuncData} (Fu : Fun K "_law_read" "_law_read" s__law_read_r3 A.f__law_read_r3 fd) : FnOk P Wd.w K mg base (L2.CX P Wd.w) 3 A.f__law_read_r3 fd ["_law_tree"] (spOf K (sd__law_read_r3 K A)) :=
  fnOk_of Fu sc__law_read_r3 (fun ds M Q E h => len__law_read_r3 h) fun cdv A0 outer s H U E ds M Qd Ed hr h => ⟨d__law_read_r3 K A, h__law_read_r3 T G_Tree___iter__ G__law_read_r4 hr, pure__law_read_r3 T h⟩
theorem ok__law_count_r2 (T : Txt K mg A) (G__law_count_r3 : FnD P Wd.w K mg base 2 A.f__law_count_r3 (sd__law_count_r3 K A)) {fd : FuncData} (Fu : Fun K "_law_count" "_law_count" s__law_count_r2 A.f__law_count_r2 fd) : FnOk P Wd.w K mg base (L2.CX P Wd.w) 3 A.f__law_count_r2 fd ["_law_kinds_here", "_law_family", "_law_node"] (spOf K (sd__law_count_r2 K A)) :=
  fnOk_of Fu sc__law_count_r2 (fun ds M Q E h => len__law_count_r2 h) fun cdv A0 outer s H U E ds M Qd Ed hr h => ⟨d__law_count_r2 K A, h__law_count_r2 T G__law_count_r3 hr, pure__law_count_r2 T h⟩
theorem ok_Grammar___init__ (T : Txt K mg A) (G__in_order : FnD P Wd.w K mg base 1 A.f__in_order (sd__in_order K A)) (G__check_fields : FnD P Wd.w K mg base 3 A.f__check_fields (sd__check_fields K A)) (G__check_kinds : FnD P Wd.w K mg base 3 A.f__check_kinds (sd__check_kinds K A)) (G__least_sizes : FnD P Wd.w K mg base 1 A.f__least_sizes (sd__least_sizes K A)) {fd_BadGrammar___init__ : FuncData} (F_BadGrammar___init__ : FnOk P Wd.w K mg base (L2.CX P Wd.w) 1 A.m_BadGrammar___init__ fd_BadGrammar___init__ ["self", "part"] (spOf K (sd_BadGrammar___init__ K A)) ∧ Binds K fd_BadGrammar___init__ ["self", "part"] []) {fd : FuncData} (Fu : Fun K "__init__" "Grammar.__init__" s_Grammar___init__ A.m_Grammar___init__ fd) : FnOk P Wd.w K mg base (L2.CX P Wd.w) 4 A.m_Grammar___init__ fd ["self", "fields", "kinds", "root"] (spOf K (sdf_Grammar___init__ K A)) :=
  fnOk_of Fu sc_Grammar___init__ (fun ds M Q E h => len_Grammar___init__ h) fun cdv A0 outer s H U E ds M Qd Ed hr h => ⟨d_Grammar___init__ K A, h_Grammar___init__ T G__in_order G__check_fields G__check_kinds G__least_sizes F_BadGrammar___init__ hr, pure_Grammar___init__ T h⟩
theorem ok_Grammar_family_of (T : Txt K mg A) (G_Grammar__check_kind : FnD P Wd.w K mg base 3 A.m_Grammar__check_kind (sd_Grammar__check_kind K A)) {fd : FuncData} (Fu : Fun K "family_of" "Grammar.family_of" s_Grammar_family_of A.m_Grammar_family_of fd) : FnOk P Wd.w K mg base (L2.CX P Wd.w) 4 A.m_Grammar_family_of fd ["self", "kind"] (spOf K (sd_Grammar_family_of K A)) :=
  fnOk_of Fu sc_Grammar_family_of (fun ds M Q E h => len_Grammar_family_of h) fun cdv A0 outer s H U E ds M Qd Ed hr h => ⟨d_Grammar_family_of K A, h_Grammar_family_of T G_Grammar__check_kind hr, pure_Grammar_family_of T h⟩
theorem ok_Grammar_children_of (T : Txt K mg A) (G_Grammar__check_kind : FnD P Wd.w K mg base 3 A.m_Grammar__check_kind (sd_Grammar__check_kind K A)) {fd : FuncData} (Fu : Fun K "children_of" "Grammar.children_of" s_Grammar_children_of A.m_Grammar_children_of fd) : FnOk P Wd.w K mg base (L2.CX P Wd.w) 4 A.m_Grammar_children_of fd ["self", "kind"] (spOf K (sd_Grammar_children_of K A)) :=
  fnOk_of Fu sc_Grammar_children_of (fun ds M Q E h => len_Grammar_children_of h) fun cdv A0 outer s H U E ds M Qd Ed hr h => ⟨d_Grammar_children_of K A, h_Grammar_children_of T G_Grammar__check_kind hr, pure_Grammar_children_of T h⟩
theorem ok_Grammar_kind_size (T : Txt K mg A) (G_Grammar__check_kind : FnD P Wd.w K mg base 3 A.m_Grammar__check_kind (sd_Grammar__check_kind K A)) {fd : FuncData} (Fu : Fun K "kind_size" "Grammar.kind_size" s_Grammar_kind_size A.m_Grammar_kind_size fd) : FnOk P Wd.w K mg base (L2.CX P Wd.w) 4 A.m_Grammar_kind_size fd ["self", "kind"] (spOf K (sd_Grammar_kind_size K A)) :=
  fnOk_of Fu sc_Grammar_kind_size (fun ds M Q E h => len_Grammar_kind_size h) fun cdv A0 outer s H U E ds M Qd Ed hr h => ⟨d_Grammar_kind_size K A, h_Grammar_kind_size T G_Grammar__check_kind hr, pure_Grammar_kind_size T h⟩
theorem ok_Grammar_least_size (T : Txt K mg A) (G_Grammar_kinds_of : FnD P Wd.w K mg base 3 A.m_Grammar_kinds_of (sd_Grammar_kinds_of K A)) {fd : FuncData} (Fu : Fun K "least_size" "Grammar.least_size" s_Grammar_least_size A.m_Grammar_least_size fd) : FnOk P Wd.w K mg base (L2.CX P Wd.w) 4 A.m_Grammar_least_size fd ["self", "family"] (spOf K (sd_Grammar_least_size K A)) :=
  fnOk_of Fu sc_Grammar_least_size (fun ds M Q E h => len_Grammar_least_size h) fun cdv A0 outer s H U E ds M Qd Ed hr h => ⟨d_Grammar_least_size K A, h_Grammar_least_size T G_Grammar_kinds_of hr, pure_Grammar_least_size T h⟩
theorem ok__law_read_r2 (T : Txt K mg A) (G_Tree___iter__ : IterFn P Wd.w K mg base 1 A.m_Tree___iter__ "_children") (G__law_read_r3 : FnD P Wd.w K mg base 3 A.f__law_read_r3 (sd__law_read_r3 K A)) {fd : FuncData} (Fu : Fun K "_law_read" "_law_read" s__law_read_r2 A.f__law_read_r2 fd) : FnOk P Wd.w K mg base (L2.CX P Wd.w) 4 A.f__law_read_r2 fd ["_law_tree"] (spOf K (sd__law_read_r2 K A)) :=
  fnOk_of Fu sc__law_read_r2 (fun ds M Q E h => len__law_read_r2 h) fun cdv A0 outer s H U E ds M Qd Ed hr h => ⟨d__law_read_r2 K A, h__law_read_r2 T G_Tree___iter__ G__law_read_r3 hr, pure__law_read_r2 T h⟩
theorem ok__law_count_r1 (T : Txt K mg A) (G__law_count_r2 : FnD P Wd.w K mg base 3 A.f__law_count_r2 (sd__law_count_r2 K A)) {fd : FuncData} (Fu : Fun K "_law_count" "_law_count" s__law_count_r1 A.f__law_count_r1 fd) : FnOk P Wd.w K mg base (L2.CX P Wd.w) 4 A.f__law_count_r1 fd ["_law_kinds_here", "_law_family", "_law_node"] (spOf K (sd__law_count_r1 K A)) :=
  fnOk_of Fu sc__law_count_r1 (fun ds M Q E h => len__law_count_r1 h) fun cdv A0 outer s H U E ds M Qd Ed hr h => ⟨d__law_count_r1 K A, h__law_count_r1 T G__law_count_r2 hr, pure__law_count_r1 T h⟩
theorem ok__law_count (T : Txt K mg A) (G__law_count_r1 : FnD P Wd.w K mg base 4 A.f__law_count_r1 (sd__law_count_r1 K A)) {fd : FuncData} (Fu : Fun K "_law_count" "_law_count" s__law_count A.f__law_count fd) : FnOk P Wd.w K mg base (L2.CX P Wd.w) 5 A.f__law_count fd ["_law_kinds_here", "_law_family", "_law_node"] (spOf K (sd__law_count K A)) :=
  fnOk_of Fu sc__law_count (fun ds M Q E h => len__law_count h) fun cdv A0 outer s H U E ds M Qd Ed hr h => ⟨d__law_count K A, h__law_count T G__law_count_r1 hr, pure__law_count T h⟩
theorem ok_Tree___init__ (T : Txt K mg A) (G_Grammar_children_of : FnD P Wd.w K mg base 4 A.m_Grammar_children_of (sd_Grammar_children_of K A)) (G_Grammar_family_of : FnD P Wd.w K mg base 4 A.m_Grammar_family_of (sd_Grammar_family_of K A)) {fd_BadTree___init__ : FuncData} (F_BadTree___init__ : FnOk P Wd.w K mg base (L2.CX P Wd.w) 1 A.m_BadTree___init__ fd_BadTree___init__ ["self", "path"] (spOf K (sd_BadTree___init__ K A)) ∧ Binds K fd_BadTree___init__ ["self", "path"] []) {fd_LimitExceeded___init__ : FuncData} (F_LimitExceeded___init__ : FnOk P Wd.w K mg base (L2.CX P Wd.w) 1 A.m_LimitExceeded___init__ fd_LimitExceeded___init__ ["self", "limit"] (spOf K (sd_LimitExceeded___init__ K A)) ∧ Binds K fd_LimitExceeded___init__ ["self", "limit"] []) {fd : FuncData} (Fu : Fun K "__init__" "Tree.__init__" s_Tree___init__ A.m_Tree___init__ fd) : FnD P Wd.w K mg base 5 A.m_Tree___init__ (sd_Tree___init__ K A) :=
  fnD_ofStar (ps := ["self", "grammar", "kind"]) (pv := "children") Fu sc_Tree___init__ (fun kV doc pm an cdv ct => DL.bind_star3 (B := fun us => bindArgs (PySem.W.fnOf "__init__" "Tree.__init__" (defArgs s_Tree___init__) (defBody s_Tree___init__) (defScope s_Tree___init__) .none kV doc pm an cdv ct) ⟨us, []⟩) (fun a0 a1 a2 => rfl) (fun a0 a1 a2 _ _ => rfl)) fun cdv A0 outer s H U E ds M Qd Ed hr h => ⟨d_Tree___init__ K A, h_Tree___init__ T G_Grammar_children_of G_Grammar_family_of F_BadTree___init__ F_LimitExceeded___init__ hr, pure_Tree___init__ T h⟩
theorem ok__law_read_r1 (T : Txt K mg A) (G_Tree___iter__ : IterFn P Wd.w K mg base 1 A.m_Tree___iter__ "_children") (G__law_read_r2 : FnD P Wd.w K mg base 4 A.f__law_read_r2 (sd__law_read_r2 K A)) {fd : FuncData} (Fu : Fun K "_law_read" "_law_read" s__law_read_r1 A.f__law_read_r1 fd) : FnOk P Wd.w K mg base (L2.CX P Wd.w) 5 A.f__law_read_r1 fd ["_law_tree"] (spOf K (sd__law_read_r1 K A)) :=
  fnOk_of Fu sc__law_read_r1 (fun ds M Q E h => len__law_read_r1 h) fun cdv A0 outer s H U E ds M Qd Ed hr h => ⟨d__law_read_r1 K A, h__law_read_r1 T G_Tree___iter__ G__law_read_r2 hr, pure__law_read_r1 T h⟩
theorem ok__law_read (T : Txt K mg A) (G_Tree___iter__ : IterFn P Wd.w K mg base 1 A.m_Tree___iter__ "_children") (G__law_read_r1 : FnD P Wd.w K mg base 5 A.f__law_read_r1 (sd__law_read_r1 K A)) {fd : FuncData} (Fu : Fun K "_law_read" "_law_read" s__law_read A.f__law_read fd) : FnOk P Wd.w K mg base (L2.CX P Wd.w) 6 A.f__law_read fd ["_law_tree"] (spOf K (sd__law_read K A)) :=
  fnOk_of Fu sc__law_read (fun ds M Q E h => len__law_read h) fun cdv A0 outer s H U E ds M Qd Ed hr h => ⟨d__law_read K A, h__law_read T G_Tree___iter__ G__law_read_r1 hr, pure__law_read T h⟩
theorem ok_Tree_least_r3 (T : Txt K mg A) (G_Grammar_least_size : FnD P Wd.w K mg base 4 A.m_Grammar_least_size (sd_Grammar_least_size K A)) (G_Grammar_kinds_of : FnD P Wd.w K mg base 3 A.m_Grammar_kinds_of (sd_Grammar_kinds_of K A)) (G_Grammar_kind_size : FnD P Wd.w K mg base 4 A.m_Grammar_kind_size (sd_Grammar_kind_size K A)) (G_Grammar_children_of : FnD P Wd.w K mg base 4 A.m_Grammar_children_of (sd_Grammar_children_of K A)) (G_Tree_least_r4 : FnD P Wd.w K mg base 1 A.m_Tree_least_r4 (sd_Tree_least_r4 K A)) (G_Tree___init__ : FnD P Wd.w K mg base 5 A.m_Tree___init__ (sd_Tree___init__ K A)) {fd : FuncData} (Fu : Fun K "least" "Tree.least" s_Tree_least_r3 A.m_Tree_least_r3 fd) : FnOk P Wd.w K mg base (L2.CX P Wd.w) 7 A.m_Tree_least_r3 fd ["grammar", "family"] (spOf K (sd_Tree_least_r3 K A)) :=
  fnOk_of Fu sc_Tree_least_r3 (fun ds M Q E h => len_Tree_least_r3 h) fun cdv A0 outer s H U E ds M Qd Ed hr h => ⟨d_Tree_least_r3 K A, h_Tree_least_r3 T G_Grammar_least_size G_Grammar_kinds_of G_Grammar_kind_size G_Grammar_children_of G_Tree_least_r4 G_Tree___init__ hr, pure_Tree_least_r3 T h⟩
theorem ok_Tree_least_r2 (T : Txt K mg A) (G_Grammar_least_size : FnD P Wd.w K mg base 4 A.m_Grammar_least_size (sd_Grammar_least_size K A)) (G_Grammar_kinds_of : FnD P Wd.w K mg base 3 A.m_Grammar_kinds_of (sd_Grammar_kinds_of K A)) (G_Grammar_kind_size : FnD P Wd.w K mg base 4 A.m_Grammar_kind_size (sd_Grammar_kind_size K A)) (G_Grammar_children_of : FnD P Wd.w K mg base 4 A.m_Grammar_children_of (sd_Grammar_children_of K A)) (G_Tree_least_r3 : FnD P Wd.w K mg base 7 A.m_Tree_least_r3 (sd_Tree_least_r3 K A)) (G_Tree___init__ : FnD P Wd.w K mg base 5 A.m_Tree___init__ (sd_Tree___init__ K A)) {fd : FuncData} (Fu : Fun K "least" "Tree.least" s_Tree_least_r2 A.m_Tree_least_r2 fd) : FnOk P Wd.w K mg base (L2.CX P Wd.w) 8 A.m_Tree_least_r2 fd ["grammar", "family"] (spOf K (sd_Tree_least_r2 K A)) :=
  fnOk_of Fu sc_Tree_least_r2 (fun ds M Q E h => len_Tree_least_r2 h) fun cdv A0 outer s H U E ds M Qd Ed hr h => ⟨d_Tree_least_r2 K A, h_Tree_least_r2 T G_Grammar_least_size G_Grammar_kinds_of G_Grammar_kind_size G_Grammar_children_of G_Tree_least_r3 G_Tree___init__ hr, pure_Tree_least_r2 T h⟩
theorem ok_Tree_least_r1 (T : Txt K mg A) (G_Grammar_least_size : FnD P Wd.w K mg base 4 A.m_Grammar_least_size (sd_Grammar_least_size K A)) (G_Grammar_kinds_of : FnD P Wd.w K mg base 3 A.m_Grammar_kinds_of (sd_Grammar_kinds_of K A)) (G_Grammar_kind_size : FnD P Wd.w K mg base 4 A.m_Grammar_kind_size (sd_Grammar_kind_size K A)) (G_Grammar_children_of : FnD P Wd.w K mg base 4 A.m_Grammar_children_of (sd_Grammar_children_of K A)) (G_Tree_least_r2 : FnD P Wd.w K mg base 8 A.m_Tree_least_r2 (sd_Tree_least_r2 K A)) (G_Tree___init__ : FnD P Wd.w K mg base 5 A.m_Tree___init__ (sd_Tree___init__ K A)) {fd : FuncData} (Fu : Fun K "least" "Tree.least" s_Tree_least_r1 A.m_Tree_least_r1 fd) : FnOk P Wd.w K mg base (L2.CX P Wd.w) 9 A.m_Tree_least_r1 fd ["grammar", "family"] (spOf K (sd_Tree_least_r1 K A)) :=
  fnOk_of Fu sc_Tree_least_r1 (fun ds M Q E h => len_Tree_least_r1 h) fun cdv A0 outer s H U E ds M Qd Ed hr h => ⟨d_Tree_least_r1 K A, h_Tree_least_r1 T G_Grammar_least_size G_Grammar_kinds_of G_Grammar_kind_size G_Grammar_children_of G_Tree_least_r2 G_Tree___init__ hr, pure_Tree_least_r1 T h⟩
theorem ok_Tree_least (T : Txt K mg A) (G_Grammar_least_size : FnD P Wd.w K mg base 4 A.m_Grammar_least_size (sd_Grammar_least_size K A)) (G_Grammar_kinds_of : FnD P Wd.w K mg base 3 A.m_Grammar_kinds_of (sd_Grammar_kinds_of K A)) (G_Grammar_kind_size : FnD P Wd.w K mg base 4 A.m_Grammar_kind_size (sd_Grammar_kind_size K A)) (G_Grammar_children_of : FnD P Wd.w K mg base 4 A.m_Grammar_children_of (sd_Grammar_children_of K A)) (G_Tree_least_r1 : FnD P Wd.w K mg base 9 A.m_Tree_least_r1 (sd_Tree_least_r1 K A)) (G_Tree___init__ : FnD P Wd.w K mg base 5 A.m_Tree___init__ (sd_Tree___init__ K A)) {fd : FuncData} (Fu : Fun K "least" "Tree.least" s_Tree_least A.m_Tree_least fd) : FnOk P Wd.w K mg base (L2.CX P Wd.w) 10 A.m_Tree_least fd ["grammar", "family"] (spOf K (sd_Tree_least K A)) :=
  fnOk_of Fu sc_Tree_least (fun ds M Q E h => len_Tree_least h) fun cdv A0 outer s H U E ds M Qd Ed hr h => ⟨d_Tree_least K A, h_Tree_least T G_Grammar_least_size G_Grammar_kinds_of G_Grammar_kind_size G_Grammar_children_of G_Tree_least_r1 G_Tree___init__ hr, pure_Tree_least T h⟩
theorem ok__law_sized (T : Txt K mg A) (G_Grammar_kind_size : FnD P Wd.w K mg base 4 A.m_Grammar_kind_size (sd_Grammar_kind_size K A)) (G__law_whole : FnD P Wd.w K mg base 1 A.f__law_whole (sd__law_whole K A)) (G_Tree_least : FnD P Wd.w K mg base 10 A.m_Tree_least (sd_Tree_least K A)) (G_Grammar_least_size : FnD P Wd.w K mg base 4 A.m_Grammar_least_size (sd_Grammar_least_size K A)) (G__law_read : FnD P Wd.w K mg base 6 A.f__law_read (sd__law_read K A)) (G__law_count : FnD P Wd.w K mg base 5 A.f__law_count (sd__law_count K A)) {fd : FuncData} (Fu : Fun K "_law_sized" "_law_sized" s__law_sized A.f__law_sized fd) : FnOk P Wd.w K mg base (L2.CX P Wd.w) 11 A.f__law_sized fd ["_law_grammar", "_law_kinds_here", "_law_families", "_law_sizes"] (spOf K (sd__law_sized K A)) :=
  fnOk_of Fu sc__law_sized (fun ds M Q E h => len__law_sized h) fun cdv A0 outer s H U E ds M Qd Ed hr h => ⟨d__law_sized K A, h__law_sized T G_Grammar_kind_size G__law_whole G_Tree_least G_Grammar_least_size G__law_read G__law_count hr, pure__law_sized T h⟩
theorem ok__law_stranger (T : Txt K mg A) (G_Tree_least : FnD P Wd.w K mg base 10 A.m_Tree_least (sd_Tree_least K A)) {fd : FuncData} (Fu : Fun K "_law_stranger" "_law_stranger" s__law_stranger A.f__law_stranger fd) : FnOk P Wd.w K mg base (L2.CX P Wd.w) 11 A.f__law_stranger fd ["_law_grammar"] (spOf K (sd__law_stranger K A)) :=
  fnOk_of Fu sc__law_stranger (fun ds M Q E h => len__law_stranger h) fun cdv A0 outer s H U E ds M Qd Ed hr h => ⟨d__law_stranger K A, h__law_stranger T G_Tree_least hr, pure__law_stranger T h⟩
theorem ok_law (T : Txt K mg A) (G__law_source : FnD P Wd.w K mg base 1 A.f__law_source (sd__law_source K A)) (G__law_draw : FnD P Wd.w K mg base 1 A.f__law_draw (sd__law_draw K A)) (G__law_names : FnD P Wd.w K mg base 2 A.f__law_names (sd__law_names K A)) (G__law_kinds : FnD P Wd.w K mg base 3 A.f__law_kinds (sd__law_kinds K A)) (G__law_by_depth : FnD P Wd.w K mg base 1 A.f__law_by_depth (sd__law_by_depth K A)) (G__law_sized : FnD P Wd.w K mg base 11 A.f__law_sized (sd__law_sized K A)) (G__law_stranger : FnD P Wd.w K mg base 11 A.f__law_stranger (sd__law_stranger K A)) (G_Grammar___init__ : FnD P Wd.w K mg base 4 A.m_Grammar___init__ (sd_Grammar___init__ K A)) {fd : FuncData} (Fu : Fun K "law" "law" s_law A.f_law fd) : FnOk P Wd.w K mg base (L2.CX P Wd.w) 12 A.f_law fd ["_law_script"] (spOf K (sd_law K A)) :=
  fnOk_of Fu sc_law (fun ds M Q E h => len_law h) fun cdv A0 outer s H U E ds M Qd Ed hr h => ⟨d_law K A, h_law T G__law_source G__law_draw G__law_names G__law_kinds G__law_by_depth G__law_sized G__law_stranger G_Grammar___init__ hr, pure_law T h⟩
/-- the defs of the text and how they are called -/
structure Defs (K : PySem.W.Frag) (A : Ad) : Prop where
  fu__in_order : ∃ fd, Fun K "_in_order" "_in_order" s__in_order A.f__in_order fd ∧ Binds K fd ["names"] []
  fu__least_sizes : ∃ fd, Fun K "_least_sizes" "_least_sizes" s__least_sizes A.f__least_sizes fd ∧ Binds K fd ["rows"] []
  fu__law_source : ∃ fd, Fun K "_law_source" "_law_source" s__law_source A.f__law_source fd ∧ Binds K fd ["_law_script"] []
  fu__law_draw : ∃ fd, Fun K "_law_draw" "_law_draw" s__law_draw A.f__law_draw fd ∧ Binds K fd ["_law_source_here", "_law_many"] []
  fu__law_by_depth : ∃ fd, Fun K "_law_by_depth" "_law_by_depth" s__law_by_depth A.f__law_by_depth fd ∧ Binds K fd ["_law_kinds_here", "_law_families", "_law_depth"] []
  fu__law_whole : ∃ fd, Fun K "_law_whole" "_law_whole" s__law_whole A.f__law_whole fd ∧ Binds K fd ["_law_actual", "_law_due"] []
  fu_LimitExceeded___init__ : ∃ fd, Fun K "__init__" "LimitExceeded.__init__" s_LimitExceeded___init__ A.m_LimitExceeded___init__ fd ∧ Binds K fd ["self", "limit"] []
  fu_UnknownName___init__ : ∃ fd, Fun K "__init__" "UnknownName.__init__" s_UnknownName___init__ A.m_UnknownName___init__ fd ∧ Binds K fd ["self", "name"] []
  fu_BadGrammar___init__ : ∃ fd, Fun K "__init__" "BadGrammar.__init__" s_BadGrammar___init__ A.m_BadGrammar___init__ fd ∧ Binds K fd ["self", "part"] []
  fu_BadTree___init__ : ∃ fd, Fun K "__init__" "BadTree.__init__" s_BadTree___init__ A.m_BadTree___init__ fd ∧ Binds K fd ["self", "path"] []
  fu_Tree___iter__ : ∃ fd, Fun K "__iter__" "Tree.__iter__" s_Tree___iter__ A.m_Tree___iter__ fd ∧ Binds K fd ["self"] []
  fu__law_read_r4 : ∃ fd, Fun K "_law_read" "_law_read" s__law_read_r4 A.f__law_read_r4 fd ∧ Binds K fd ["_law_tree"] []
  fu__law_count_r4 : ∃ fd, Fun K "_law_count" "_law_count" s__law_count_r4 A.f__law_count_r4 fd ∧ Binds K fd ["_law_kinds_here", "_law_family", "_law_node"] []
  fu_Tree_least_r4 : ∃ fd, Fun K "least" "Tree.least" s_Tree_least_r4 A.m_Tree_least_r4 fd ∧ Binds K fd ["grammar", "family"] []
  fu__law_names : ∃ fd, Fun K "_law_names" "_law_names" s__law_names A.f__law_names fd ∧ Binds K fd ["_law_source_here", "_law_count_here"] []
  fu__law_count_r3 : ∃ fd, Fun K "_law_count" "_law_count" s__law_count_r3 A.f__law_count_r3 fd ∧ Binds K fd ["_law_kinds_here", "_law_family", "_law_node"] []
  fu__check_fields : ∃ fd, Fun K "_check_fields" "_check_fields" s__check_fields A.f__check_fields fd ∧ Binds K fd ["fields"] []
  fu__check_kinds : ∃ fd, Fun K "_check_kinds" "_check_kinds" s__check_kinds A.f__check_kinds fd ∧ Binds K fd ["rows", "families"] []
  fu__law_kinds : ∃ fd, Fun K "_law_kinds" "_law_kinds" s__law_kinds A.f__law_kinds fd ∧ Binds K fd ["_law_source_here", "_law_families", "_law_extra", "_law_width"] []
  fu_Grammar_kinds_of : ∃ fd, Fun K "kinds_of" "Grammar.kinds_of" s_Grammar_kinds_of A.m_Grammar_kinds_of fd ∧ Binds K fd ["self", "family"] []
  fu_Grammar__check_kind : ∃ fd, Fun K "_check_kind" "Grammar._check_kind" s_Grammar__check_kind A.m_Grammar__check_kind fd ∧ Binds K fd ["self", "kind"] []
  fu__law_read_r3 : ∃ fd, Fun K "_law_read" "_law_read" s__law_read_r3 A.f__law_read_r3 fd ∧ Binds K fd ["_law_tree"] []
  fu__law_count_r2 : ∃ fd, Fun K "_law_count" "_law_count" s__law_count_r2 A.f__law_count_r2 fd ∧ Binds K fd ["_law_kinds_here", "_law_family", "_law_node"] []
  fu_Grammar___init__ : ∃ fd ds, Fun K "__init__" "Grammar.__init__" s_Grammar___init__ A.m_Grammar___init__ fd ∧ Vals [V.non] ds ∧ Binds K fd ["self", "fields", "kinds", "root"] ds ∧ KBn K fd ["self", "fields", "kinds", "root"] 3 ["root"] kwF kwV
  fu_Grammar_family_of : ∃ fd, Fun K "family_of" "Grammar.family_of" s_Grammar_family_of A.m_Grammar_family_of fd ∧ Binds K fd ["self", "kind"] []
  fu_Grammar_children_of : ∃ fd, Fun K "children_of" "Grammar.children_of" s_Grammar_children_of A.m_Grammar_children_of fd ∧ Binds K fd ["self", "kind"] []
  fu_Grammar_kind_size : ∃ fd, Fun K "kind_size" "Grammar.kind_size" s_Grammar_kind_size A.m_Grammar_kind_size fd ∧ Binds K fd ["self", "kind"] []
  fu_Grammar_least_size : ∃ fd, Fun K "least_size" "Grammar.least_size" s_Grammar_least_size A.m_Grammar_least_size fd ∧ Binds K fd ["self", "family"] []
  fu__law_read_r2 : ∃ fd, Fun K "_law_read" "_law_read" s__law_read_r2 A.f__law_read_r2 fd ∧ Binds K fd ["_law_tree"] []
  fu__law_count_r1 : ∃ fd, Fun K "_law_count" "_law_count" s__law_count_r1 A.f__law_count_r1 fd ∧ Binds K fd ["_law_kinds_here", "_law_family", "_law_node"] []
  fu__law_count : ∃ fd, Fun K "_law_count" "_law_count" s__law_count A.f__law_count fd ∧ Binds K fd ["_law_kinds_here", "_law_family", "_law_node"] []
  fu_Tree___init__ : ∃ fd, Fun K "__init__" "Tree.__init__" s_Tree___init__ A.m_Tree___init__ fd
  fu__law_read_r1 : ∃ fd, Fun K "_law_read" "_law_read" s__law_read_r1 A.f__law_read_r1 fd ∧ Binds K fd ["_law_tree"] []
  fu__law_read : ∃ fd, Fun K "_law_read" "_law_read" s__law_read A.f__law_read fd ∧ Binds K fd ["_law_tree"] []
  fu_Tree_least_r3 : ∃ fd, Fun K "least" "Tree.least" s_Tree_least_r3 A.m_Tree_least_r3 fd ∧ Binds K fd ["grammar", "family"] []
  fu_Tree_least_r2 : ∃ fd, Fun K "least" "Tree.least" s_Tree_least_r2 A.m_Tree_least_r2 fd ∧ Binds K fd ["grammar", "family"] []
  fu_Tree_least_r1 : ∃ fd, Fun K "least" "Tree.least" s_Tree_least_r1 A.m_Tree_least_r1 fd ∧ Binds K fd ["grammar", "family"] []
  fu_Tree_least : ∃ fd, Fun K "least" "Tree.least" s_Tree_least A.m_Tree_least fd ∧ Binds K fd ["grammar", "family"] []
  fu__law_sized : ∃ fd, Fun K "_law_sized" "_law_sized" s__law_sized A.f__law_sized fd ∧ Binds K fd ["_law_grammar", "_law_kinds_here", "_law_families", "_law_sizes"] []
  fu__law_stranger : ∃ fd, Fun K "_law_stranger" "_law_stranger" s__law_stranger A.f__law_stranger fd ∧ Binds K fd ["_law_grammar"] []
theorem all_ok (T : Txt K mg A) (Ds : Defs K A) {fd : FuncData} (u_law : Fun K "law" "law" s_law A.f_law fd) : FnOk P Wd.w K mg base (L2.CX P Wd.w) 12 A.f_law fd ["_law_script"] (spOf K (sd_law K A)) := by
  obtain ⟨fd__in_order, u__in_order, b__in_order⟩ := Ds.fu__in_order
  have G__in_order := DL.FnOk.fnD (ok__in_order (P := P) (base := base) T u__in_order) b__in_order
  obtain ⟨fd__least_sizes, u__least_sizes, b__least_sizes⟩ := Ds.fu__least_sizes
  have G__least_sizes := DL.FnOk.fnD (ok__least_sizes (P := P) (base := base) T u__least_sizes) b__least_sizes
  obtain ⟨fd__law_source, u__law_source, b__law_source⟩ := Ds.fu__law_source
  have G__law_source := DL.FnOk.fnD (ok__law_source (P := P) (base := base) T u__law_source) b__law_source
  obtain ⟨fd__law_draw, u__law_draw, b__law_draw⟩ := Ds.fu__law_draw
  have G__law_draw := DL.FnOk.fnD (ok__law_draw (P := P) (base := base) T u__law_draw) b__law_draw
  obtain ⟨fd__law_by_depth, u__law_by_depth, b__law_by_depth⟩ := Ds.fu__law_by_depth
  have G__law_by_depth := DL.FnOk.fnD (ok__law_by_depth (P := P) (base := base) T u__law_by_depth) b__law_by_depth
  obtain ⟨fd__law_whole, u__law_whole, b__law_whole⟩ := Ds.fu__law_whole
  have G__law_whole := DL.FnOk.fnD (ok__law_whole (P := P) (base := base) T u__law_whole) b__law_whole
  obtain ⟨fd_LimitExceeded___init__, u_LimitExceeded___init__, b_LimitExceeded___init__⟩ := Ds.fu_LimitExceeded___init__
  have F_LimitExceeded___init__ := And.intro (ok_LimitExceeded___init__ (P := P) (base := base) T u_LimitExceeded___init__) b_LimitExceeded___init__
  obtain ⟨fd_UnknownName___init__, u_UnknownName___init__, b_UnknownName___init__⟩ := Ds.fu_UnknownName___init__
  have F_UnknownName___init__ := And.intro (ok_UnknownName___init__ (P := P) (base := base) T u_UnknownName___init__) b_UnknownName___init__
  obtain ⟨fd_BadGrammar___init__, u_BadGrammar___init__, b_BadGrammar___init__⟩ := Ds.fu_BadGrammar___init__
  have F_BadGrammar___init__ := And.intro (ok_BadGrammar___init__ (P := P) (base := base) T u_BadGrammar___init__) b_BadGrammar___init__
  obtain ⟨fd_BadTree___init__, u_BadTree___init__, b_BadTree___init__⟩ := Ds.fu_BadTree___init__
  have F_BadTree___init__ := And.intro (ok_BadTree___init__ (P := P) (base := base) T u_BadTree___init__) b_BadTree___init__
  obtain ⟨fd_Tree___iter__, u_Tree___iter__, b_Tree___iter__⟩ := Ds.fu_Tree___iter__
  have G_Tree___iter__ := ok_Tree___iter__ (P := P) (base := base) T u_Tree___iter__ b_Tree___iter__
  obtain ⟨fd__law_read_r4, u__law_read_r4, b__law_read_r4⟩ := Ds.fu__law_read_r4
  have G__law_read_r4 := DL.FnOk.fnD (ok__law_read_r4 (P := P) (base := base) T u__law_read_r4) b__law_read_r4
  obtain ⟨fd__law_count_r4, u__law_count_r4, b__law_count_r4⟩ := Ds.fu__law_count_r4
  have G__law_count_r4 := DL.FnOk.fnD (ok__law_count_r4 (P := P) (base := base) T u__law_count_r4) b__law_count_r4
  obtain ⟨fd_Tree_least_r4, u_Tree_least_r4, b_Tree_least_r4⟩ := Ds.fu_Tree_least_r4
  have G_Tree_least_r4 := DL.FnOk.fnD (ok_Tree_least_r4 (P := P) (base := base) T u_Tree_least_r4) b_Tree_least_r4
  obtain ⟨fd__law_names, u__law_names, b__law_names⟩ := Ds.fu__law_names
  have G__law_names := DL.FnOk.fnD (ok__law_names (P := P) (base := base) T G__law_draw u__law_names) b__law_names
  obtain ⟨fd__law_count_r3, u__law_count_r3, b__law_count_r3⟩ := Ds.fu__law_count_r3
  have G__law_count_r3 := DL.FnOk.fnD (ok__law_count_r3 (P := P) (base := base) T G__law_count_r4 u__law_count_r3) b__law_count_r3
  obtain ⟨fd__check_fields, u__check_fields, b__check_fields⟩ := Ds.fu__check_fields
  have G__check_fields := DL.FnOk.fnD (ok__check_fields (P := P) (base := base) T G__in_order F_LimitExceeded___init__ F_BadGrammar___init__ u__check_fields) b__check_fields
  obtain ⟨fd__check_kinds, u__check_kinds, b__check_kinds⟩ := Ds.fu__check_kinds
  have G__check_kinds := DL.FnOk.fnD (ok__check_kinds (P := P) (base := base) T G__in_order F_BadGrammar___init__ F_LimitExceeded___init__ u__check_kinds) b__check_kinds
  obtain ⟨fd__law_kinds, u__law_kinds, b__law_kinds⟩ := Ds.fu__law_kinds
  have G__law_kinds := DL.FnOk.fnD (ok__law_kinds (P := P) (base := base) T G__law_draw G__law_names u__law_kinds) b__law_kinds
  obtain ⟨fd_Grammar_kinds_of, u_Grammar_kinds_of, b_Grammar_kinds_of⟩ := Ds.fu_Grammar_kinds_of
  have G_Grammar_kinds_of := DL.FnOk.fnD (ok_Grammar_kinds_of (P := P) (base := base) T F_UnknownName___init__ u_Grammar_kinds_of) b_Grammar_kinds_of
  obtain ⟨fd_Grammar__check_kind, u_Grammar__check_kind, b_Grammar__check_kind⟩ := Ds.fu_Grammar__check_kind
  have G_Grammar__check_kind := DL.FnOk.fnD (ok_Grammar__check_kind (P := P) (base := base) T F_UnknownName___init__ u_Grammar__check_kind) b_Grammar__check_kind
  obtain ⟨fd__law_read_r3, u__law_read_r3, b__law_read_r3⟩ := Ds.fu__law_read_r3
  have G__law_read_r3 := DL.FnOk.fnD (ok__law_read_r3 (P := P) (base := base) T G_Tree___iter__ G__law_read_r4 u__law_read_r3) b__law_read_r3
  obtain ⟨fd__law_count_r2, u__law_count_r2, b__law_count_r2⟩ := Ds.fu__law_count_r2
  have G__law_count_r2 := DL.FnOk.fnD (ok__law_count_r2 (P := P) (base := base) T G__law_count_r3 u__law_count_r2) b__law_count_r2
  obtain ⟨fd_Grammar___init__, dv_Grammar___init__, u_Grammar___init__, v_Grammar___init__, b_Grammar___init__, kb_Grammar___init__⟩ := Ds.fu_Grammar___init__
  have G_Grammar___init__ : FnD P Wd.w K mg base 4 A.m_Grammar___init__ (sd_Grammar___init__ K A) := DL.FnOk.fnDd (ok_Grammar___init__ T G__in_order G__check_fields G__check_kinds G__least_sizes F_BadGrammar___init__ u_Grammar___init__) b_Grammar___init__ v_Grammar___init__ fun _ => .cons .non .nil
  have KF_Grammar___init__ := And.intro (ok_Grammar___init__ (P := P) (base := base) T G__in_order G__check_fields G__check_kinds G__least_sizes F_BadGrammar___init__ u_Grammar___init__) kb_Grammar___init__
  obtain ⟨fd_Grammar_family_of, u_Grammar_family_of, b_Grammar_family_of⟩ := Ds.fu_Grammar_family_of
  have G_Grammar_family_of := DL.FnOk.fnD (ok_Grammar_family_of (P := P) (base := base) T G_Grammar__check_kind u_Grammar_family_of) b_Grammar_family_of
  obtain ⟨fd_Grammar_children_of, u_Grammar_children_of, b_Grammar_children_of⟩ := Ds.fu_Grammar_children_of
  have G_Grammar_children_of := DL.FnOk.fnD (ok_Grammar_children_of (P := P) (base := base) T G_Grammar__check_kind u_Grammar_children_of) b_Grammar_children_of
  obtain ⟨fd_Grammar_kind_size, u_Grammar_kind_size, b_Grammar_kind_size⟩ := Ds.fu_Grammar_kind_size
  have G_Grammar_kind_size := DL.FnOk.fnD (ok_Grammar_kind_size (P := P) (base := base) T G_Grammar__check_kind u_Grammar_kind_size) b_Grammar_kind_size
  obtain ⟨fd_Grammar_least_size, u_Grammar_least_size, b_Grammar_least_size⟩ := Ds.fu_Grammar_least_size
  have G_Grammar_least_size := DL.FnOk.fnD (ok_Grammar_least_size (P := P) (base := base) T G_Grammar_kinds_of u_Grammar_least_size) b_Grammar_least_size
  obtain ⟨fd__law_read_r2, u__law_read_r2, b__law_read_r2⟩ := Ds.fu__law_read_r2
  have G__law_read_r2 := DL.FnOk.fnD (ok__law_read_r2 (P := P) (base := base) T G_Tree___iter__ G__law_read_r3 u__law_read_r2) b__law_read_r2
  obtain ⟨fd__law_count_r1, u__law_count_r1, b__law_count_r1⟩ := Ds.fu__law_count_r1
  have G__law_count_r1 := DL.FnOk.fnD (ok__law_count_r1 (P := P) (base := base) T G__law_count_r2 u__law_count_r1) b__law_count_r1
  obtain ⟨fd__law_count, u__law_count, b__law_count⟩ := Ds.fu__law_count
  have G__law_count := DL.FnOk.fnD (ok__law_count (P := P) (base := base) T G__law_count_r1 u__law_count) b__law_count
  obtain ⟨fd_Tree___init__, u_Tree___init__⟩ := Ds.fu_Tree___init__
  have G_Tree___init__ := ok_Tree___init__ (P := P) (base := base) T G_Grammar_children_of G_Grammar_family_of F_BadTree___init__ F_LimitExceeded___init__ u_Tree___init__
  obtain ⟨fd__law_read_r1, u__law_read_r1, b__law_read_r1⟩ := Ds.fu__law_read_r1
  have G__law_read_r1 := DL.FnOk.fnD (ok__law_read_r1 (P := P) (base := base) T G_Tree___iter__ G__law_read_r2 u__law_read_r1) b__law_read_r1
  obtain ⟨fd__law_read, u__law_read, b__law_read⟩ := Ds.fu__law_read
  have G__law_read := DL.FnOk.fnD (ok__law_read (P := P) (base := base) T G_Tree___iter__ G__law_read_r1 u__law_read) b__law_read
  obtain ⟨fd_Tree_least_r3, u_Tree_least_r3, b_Tree_least_r3⟩ := Ds.fu_Tree_least_r3
  have G_Tree_least_r3 := DL.FnOk.fnD (ok_Tree_least_r3 (P := P) (base := base) T G_Grammar_least_size G_Grammar_kinds_of G_Grammar_kind_size G_Grammar_children_of G_Tree_least_r4 G_Tree___init__ u_Tree_least_r3) b_Tree_least_r3
  obtain ⟨fd_Tree_least_r2, u_Tree_least_r2, b_Tree_least_r2⟩ := Ds.fu_Tree_least_r2
  have G_Tree_least_r2 := DL.FnOk.fnD (ok_Tree_least_r2 (P := P) (base := base) T G_Grammar_least_size G_Grammar_kinds_of G_Grammar_kind_size G_Grammar_children_of G_Tree_least_r3 G_Tree___init__ u_Tree_least_r2) b_Tree_least_r2
  obtain ⟨fd_Tree_least_r1, u_Tree_least_r1, b_Tree_least_r1⟩ := Ds.fu_Tree_least_r1
  have G_Tree_least_r1 := DL.FnOk.fnD (ok_Tree_least_r1 (P := P) (base := base) T G_Grammar_least_size G_Grammar_kinds_of G_Grammar_kind_size G_Grammar_children_of G_Tree_least_r2 G_Tree___init__ u_Tree_least_r1) b_Tree_least_r1
  obtain ⟨fd_Tree_least, u_Tree_least, b_Tree_least⟩ := Ds.fu_Tree_least
  have G_Tree_least := DL.FnOk.fnD (ok_Tree_least (P := P) (base := base) T G_Grammar_least_size G_Grammar_kinds_of G_Grammar_kind_size G_Grammar_children_of G_Tree_least_r1 G_Tree___init__ u_Tree_least) b_Tree_least
  obtain ⟨fd__law_sized, u__law_sized, b__law_sized⟩ := Ds.fu__law_sized
  have G__law_sized := DL.FnOk.fnD (ok__law_sized (P := P) (base := base) T G_Grammar_kind_size G__law_whole G_Tree_least G_Grammar_least_size G__law_read G__law_count u__law_sized) b__law_sized
  obtain ⟨fd__law_stranger, u__law_stranger, b__law_stranger⟩ := Ds.fu__law_stranger
  have G__law_stranger := DL.FnOk.fnD (ok__law_stranger (P := P) (base := base) T G_Tree_least u__law_stranger) b__law_stranger
  exact ok_law T G__law_source G__law_draw G__law_names G__law_kinds G__law_by_depth G__law_sized G__law_stranger G_Grammar___init__ u_law
end
theorem all_mk {P : Program} {K : PySem.W.Frag} {h : Heap} {mg : Str → Option Value} {fa : Addr} (X : K.In h) (G : h.Ns mainGlobals mg) (hfa : mg "law" = some (.ref fa))
    {c_LimitExceeded : Addr} {c_UnknownName : Addr} {c_BadGrammar : Addr} {c_BadTree : Addr} {c_Tree : Addr} {c_Grammar : Addr} {f__in_order : Addr} {f__least_sizes : Addr} {f__law_source : Addr} {f__law_draw : Addr} {f__law_by_depth : Addr} {f__law_whole : Addr} {m_LimitExceeded___init__ : Addr} {m_UnknownName___init__ : Addr} {m_BadGrammar___init__ : Addr} {m_BadTree___init__ : Addr} {m_Tree___iter__ : Addr} {f__law_read_r4 : Addr} {f__law_count_r4 : Addr} {m_Tree_least_r4 : Addr} {f__law_names : Addr} {f__law_count_r3 : Addr} {f__check_fields : Addr} {f__check_kinds : Addr} {f__law_kinds : Addr} {m_Grammar_kinds_of : Addr} {m_Grammar__check_kind : Addr} {f__law_read_r3 : Addr} {f__law_count_r2 : Addr} {m_Grammar___init__ : Addr} {m_Grammar_family_of : Addr} {m_Grammar_children_of : Addr} {m_Grammar_kind_size : Addr} {m_Grammar_least_size : Addr} {f__law_read_r2 : Addr} {f__law_count_r1 : Addr} {f__law_count : Addr} {m_Tree___init__ : Addr} {f__law_read_r1 : Addr} {f__law_read : Addr} {m_Tree_least_r3 : Addr} {m_Tree_least_r2 : Addr} {m_Tree_least_r1 : Addr} {m_Tree_least : Addr} {f__law_sized : Addr} {f__law_stranger : Addr} {f_law : Addr} {oc__in_order : Value} {doc__in_order : Value} {pm__in_order : Value} {cd__in_order : Value} {ct__in_order : Value} {kV__in_order : Value} {od__in_order an__in_order : Option Addr} {sl__in_order : Array (Option Value)} {oc__least_sizes : Value} {doc__least_sizes : Value} {pm__least_sizes : Value} {cd__least_sizes : Value} {ct__least_sizes : Value} {kV__least_sizes : Value} {od__least_sizes an__least_sizes : Option Addr} {sl__least_sizes : Array (Option Value)} {oc__law_source : Value} {doc__law_source : Value} {pm__law_source : Value} {cd__law_source : Value} {ct__law_source : Value} {kV__law_source : Value} {od__law_source an__law_source : Option Addr} {sl__law_source : Array (Option Value)} {oc__law_draw : Value} {doc__law_draw : Value} {pm__law_draw : Value} {cd__law_draw : Value} {ct__law_draw : Value} {kV__law_draw : Value} {od__law_draw an__law_draw : Option Addr} {sl__law_draw : Array (Option Value)} {oc__law_by_depth : Value} {doc__law_by_depth : Value} {pm__law_by_depth : Value} {cd__law_by_depth : Value} {ct__law_by_depth : Value} {kV__law_by_depth : Value} {od__law_by_depth an__law_by_depth : Option Addr} {sl__law_by_depth : Array (Option Value)} {oc__law_whole : Value} {doc__law_whole : Value} {pm__law_whole : Value} {cd__law_whole : Value} {ct__law_whole : Value} {kV__law_whole : Value} {od__law_whole an__law_whole : Option Addr} {sl__law_whole : Array (Option Value)} {oc_LimitExceeded___init__ : Value} {doc_LimitExceeded___init__ : Value} {pm_LimitExceeded___init__ : Value} {cd_LimitExceeded___init__ : Value} {ct_LimitExceeded___init__ : Value} {kV_LimitExceeded___init__ : Value} {od_LimitExceeded___init__ an_LimitExceeded___init__ : Option Addr} {sl_LimitExceeded___init__ : Array (Option Value)} {oc_UnknownName___init__ : Value} {doc_UnknownName___init__ : Value} {pm_UnknownName___init__ : Value} {cd_UnknownName___init__ : Value} {ct_UnknownName___init__ : Value} {kV_UnknownName___init__ : Value} {od_UnknownName___init__ an_UnknownName___init__ : Option Addr} {sl_UnknownName___init__ : Array (Option Value)} {oc_BadGrammar___init__ : Value} {doc_BadGrammar___init__ : Value} {pm_BadGrammar___init__ : Value} {cd_BadGrammar___init__ : Value} {ct_BadGrammar___init__ : Value} {kV_BadGrammar___init__ : Value} {od_BadGrammar___init__ an_BadGrammar___init__ : Option Addr} {sl_BadGrammar___init__ : Array (Option Value)} {oc_BadTree___init__ : Value} {doc_BadTree___init__ : Value} {pm_BadTree___init__ : Value} {cd_BadTree___init__ : Value} {ct_BadTree___init__ : Value} {kV_BadTree___init__ : Value} {od_BadTree___init__ an_BadTree___init__ : Option Addr} {sl_BadTree___init__ : Array (Option Value)} {oc_Tree___iter__ : Value} {doc_Tree___iter__ : Value} {pm_Tree___iter__ : Value} {cd_Tree___iter__ : Value} {ct_Tree___iter__ : Value} {kV_Tree___iter__ : Value} {od_Tree___iter__ an_Tree___iter__ : Option Addr} {sl_Tree___iter__ : Array (Option Value)} {oc__law_read_r4 : Value} {doc__law_read_r4 : Value} {pm__law_read_r4 : Value} {cd__law_read_r4 : Value} {ct__law_read_r4 : Value} {kV__law_read_r4 : Value} {od__law_read_r4 an__law_read_r4 : Option Addr} {sl__law_read_r4 : Array (Option Value)} {oc__law_count_r4 : Value} {doc__law_count_r4 : Value} {pm__law_count_r4 : Value} {cd__law_count_r4 : Value} {ct__law_count_r4 : Value} {kV__law_count_r4 : Value} {od__law_count_r4 an__law_count_r4 : Option Addr} {sl__law_count_r4 : Array (Option Value)} {q_Tree_least_r4 : Addr} {sq_Tree_least_r4 : List Value} {oc_Tree_least_r4 : Value} {doc_Tree_least_r4 : Value} {pm_Tree_least_r4 : Value} {cd_Tree_least_r4 : Value} {ct_Tree_least_r4 : Value} {kV_Tree_least_r4 : Value} {od_Tree_least_r4 an_Tree_least_r4 : Option Addr} {sl_Tree_least_r4 : Array (Option Value)} {oc__law_names : Value} {doc__law_names : Value} {pm__law_names : Value} {cd__law_names : Value} {ct__law_names : Value} {kV__law_names : Value} {od__law_names an__law_names : Option Addr} {sl__law_names : Array (Option Value)} {oc__law_count_r3 : Value} {doc__law_count_r3 : Value} {pm__law_count_r3 : Value} {cd__law_count_r3 : Value} {ct__law_count_r3 : Value} {kV__law_count_r3 : Value} {od__law_count_r3 an__law_count_r3 : Option Addr} {sl__law_count_r3 : Array (Option Value)} {oc__check_fields : Value} {doc__check_fields : Value} {pm__check_fields : Value} {cd__check_fields : Value} {ct__check_fields : Value} {kV__check_fields : Value} {od__check_fields an__check_fields : Option Addr} {sl__check_fields : Array (Option Value)} {oc__check_kinds : Value} {doc__check_kinds : Value} {pm__check_kinds : Value} {cd__check_kinds : Value} {ct__check_kinds : Value} {kV__check_kinds : Value} {od__check_kinds an__check_kinds : Option Addr} {sl__check_kinds : Array (Option Value)} {oc__law_kinds : Value} {doc__law_kinds : Value} {pm__law_kinds : Value} {cd__law_kinds : Value} {ct__law_kinds : Value} {kV__law_kinds : Value} {od__law_kinds an__law_kinds : Option Addr} {sl__law_kinds : Array (Option Value)} {oc_Grammar_kinds_of : Value} {doc_Grammar_kinds_of : Value} {pm_Grammar_kinds_of : Value} {cd_Grammar_kinds_of : Value} {ct_Grammar_kinds_of : Value} {kV_Grammar_kinds_of : Value} {od_Grammar_kinds_of an_Grammar_kinds_of : Option Addr} {sl_Grammar_kinds_of : Array (Option Value)} {oc_Grammar__check_kind : Value} {doc_Grammar__check_kind : Value} {pm_Grammar__check_kind : Value} {cd_Grammar__check_kind : Value} {ct_Grammar__check_kind : Value} {kV_Grammar__check_kind : Value} {od_Grammar__check_kind an_Grammar__check_kind : Option Addr} {sl_Grammar__check_kind : Array (Option Value)} {oc__law_read_r3 : Value} {doc__law_read_r3 : Value} {pm__law_read_r3 : Value} {cd__law_read_r3 : Value} {ct__law_read_r3 : Value} {kV__law_read_r3 : Value} {od__law_read_r3 an__law_read_r3 : Option Addr} {sl__law_read_r3 : Array (Option Value)} {oc__law_count_r2 : Value} {doc__law_count_r2 : Value} {pm__law_count_r2 : Value} {cd__law_count_r2 : Value} {ct__law_count_r2 : Value} {kV__law_count_r2 : Value} {od__law_count_r2 an__law_count_r2 : Option Addr} {sl__law_count_r2 : Array (Option Value)} {oc_Grammar___init__ : Value} {doc_Grammar___init__ : Value} {pm_Grammar___init__ : Value} {cd_Grammar___init__ : Value} {ct_Grammar___init__ : Value} {kd_Grammar___init__ : Addr} {od_Grammar___init__ an_Grammar___init__ : Option Addr} {sl_Grammar___init__ : Array (Option Value)} {oc_Grammar_family_of : Value} {doc_Grammar_family_of : Value} {pm_Grammar_family_of : Value} {cd_Grammar_family_of : Value} {ct_Grammar_family_of : Value} {kV_Grammar_family_of : Value} {od_Grammar_family_of an_Grammar_family_of : Option Addr} {sl_Grammar_family_of : Array (Option Value)} {oc_Grammar_children_of : Value} {doc_Grammar_children_of : Value} {pm_Grammar_children_of : Value} {cd_Grammar_children_of : Value} {ct_Grammar_children_of : Value} {kV_Grammar_children_of : Value} {od_Grammar_children_of an_Grammar_children_of : Option Addr} {sl_Grammar_children_of : Array (Option Value)} {oc_Grammar_kind_size : Value} {doc_Grammar_kind_size : Value} {pm_Grammar_kind_size : Value} {cd_Grammar_kind_size : Value} {ct_Grammar_kind_size : Value} {kV_Grammar_kind_size : Value} {od_Grammar_kind_size an_Grammar_kind_size : Option Addr} {sl_Grammar_kind_size : Array (Option Value)} {oc_Grammar_least_size : Value} {doc_Grammar_least_size : Value} {pm_Grammar_least_size : Value} {cd_Grammar_least_size : Value} {ct_Grammar_least_size : Value} {kV_Grammar_least_size : Value} {od_Grammar_least_size an_Grammar_least_size : Option Addr} {sl_Grammar_least_size : Array (Option Value)} {oc__law_read_r2 : Value} {doc__law_read_r2 : Value} {pm__law_read_r2 : Value} {cd__law_read_r2 : Value} {ct__law_read_r2 : Value} {kV__law_read_r2 : Value} {od__law_read_r2 an__law_read_r2 : Option Addr} {sl__law_read_r2 : Array (Option Value)} {oc__law_count_r1 : Value} {doc__law_count_r1 : Value} {pm__law_count_r1 : Value} {cd__law_count_r1 : Value} {ct__law_count_r1 : Value} {kV__law_count_r1 : Value} {od__law_count_r1 an__law_count_r1 : Option Addr} {sl__law_count_r1 : Array (Option Value)} {oc__law_count : Value} {doc__law_count : Value} {pm__law_count : Value} {cd__law_count : Value} {ct__law_count : Value} {kV__law_count : Value} {od__law_count an__law_count : Option Addr} {sl__law_count : Array (Option Value)} {oc_Tree___init__ : Value} {doc_Tree___init__ : Value} {pm_Tree___init__ : Value} {cd_Tree___init__ : Value} {ct_Tree___init__ : Value} {kV_Tree___init__ : Value} {od_Tree___init__ an_Tree___init__ : Option Addr} {sl_Tree___init__ : Array (Option Value)} {oc__law_read_r1 : Value} {doc__law_read_r1 : Value} {pm__law_read_r1 : Value} {cd__law_read_r1 : Value} {ct__law_read_r1 : Value} {kV__law_read_r1 : Value} {od__law_read_r1 an__law_read_r1 : Option Addr} {sl__law_read_r1 : Array (Option Value)} {oc__law_read : Value} {doc__law_read : Value} {pm__law_read : Value} {cd__law_read : Value} {ct__law_read : Value} {kV__law_read : Value} {od__law_read an__law_read : Option Addr} {sl__law_read : Array (Option Value)} {q_Tree_least_r3 : Addr} {sq_Tree_least_r3 : List Value} {oc_Tree_least_r3 : Value} {doc_Tree_least_r3 : Value} {pm_Tree_least_r3 : Value} {cd_Tree_least_r3 : Value} {ct_Tree_least_r3 : Value} {kV_Tree_least_r3 : Value} {od_Tree_least_r3 an_Tree_least_r3 : Option Addr} {sl_Tree_least_r3 : Array (Option Value)} {q_Tree_least_r2 : Addr} {sq_Tree_least_r2 : List Value} {oc_Tree_least_r2 : Value} {doc_Tree_least_r2 : Value} {pm_Tree_least_r2 : Value} {cd_Tree_least_r2 : Value} {ct_Tree_least_r2 : Value} {kV_Tree_least_r2 : Value} {od_Tree_least_r2 an_Tree_least_r2 : Option Addr} {sl_Tree_least_r2 : Array (Option Value)} {q_Tree_least_r1 : Addr} {sq_Tree_least_r1 : List Value} {oc_Tree_least_r1 : Value} {doc_Tree_least_r1 : Value} {pm_Tree_least_r1 : Value} {cd_Tree_least_r1 : Value} {ct_Tree_least_r1 : Value} {kV_Tree_least_r1 : Value} {od_Tree_least_r1 an_Tree_least_r1 : Option Addr} {sl_Tree_least_r1 : Array (Option Value)} {q_Tree_least : Addr} {sq_Tree_least : List Value} {oc_Tree_least : Value} {doc_Tree_least : Value} {pm_Tree_least : Value} {cd_Tree_least : Value} {ct_Tree_least : Value} {kV_Tree_least : Value} {od_Tree_least an_Tree_least : Option Addr} {sl_Tree_least : Array (Option Value)} {oc__law_sized : Value} {doc__law_sized : Value} {pm__law_sized : Value} {cd__law_sized : Value} {ct__law_sized : Value} {kV__law_sized : Value} {od__law_sized an__law_sized : Option Addr} {sl__law_sized : Array (Option Value)} {oc__law_stranger : Value} {doc__law_stranger : Value} {pm__law_stranger : Value} {cd__law_stranger : Value} {ct__law_stranger : Value} {kV__law_stranger : Value} {od__law_stranger an__law_stranger : Option Addr} {sl__law_stranger : Array (Option Value)} {oc_law : Value} {doc_law : Value} {pm_law : Value} {cd_law : Value} {ct_law : Value} {kV_law : Value} {od_law an_law : Option Addr} {sl_law : Array (Option Value)} {nm_LimitExceeded qn_LimitExceeded : Str} {N_LimitExceeded : Addr} {bs_LimitExceeded sb_LimitExceeded : List Value} {sn_LimitExceeded : List Str} {ab_LimitExceeded : Bool} {col_LimitExceeded : Option Bool} {dd_LimitExceeded : Option Addr} {m0_LimitExceeded m1_LimitExceeded m2_LimitExceeded m3_LimitExceeded m5_LimitExceeded : Option Value} {nm_UnknownName qn_UnknownName : Str} {N_UnknownName : Addr} {bs_UnknownName sb_UnknownName : List Value} {sn_UnknownName : List Str} {ab_UnknownName : Bool} {col_UnknownName : Option Bool} {dd_UnknownName : Option Addr} {m0_UnknownName m1_UnknownName m2_UnknownName m3_UnknownName m5_UnknownName : Option Value} {nm_BadGrammar qn_BadGrammar : Str} {N_BadGrammar : Addr} {bs_BadGrammar sb_BadGrammar : List Value} {sn_BadGrammar : List Str} {ab_BadGrammar : Bool} {col_BadGrammar : Option Bool} {dd_BadGrammar : Option Addr} {m0_BadGrammar m1_BadGrammar m2_BadGrammar m3_BadGrammar m5_BadGrammar : Option Value} {nm_BadTree qn_BadTree : Str} {N_BadTree : Addr} {bs_BadTree sb_BadTree : List Value} {sn_BadTree : List Str} {ab_BadTree : Bool} {col_BadTree : Option Bool} {dd_BadTree : Option Addr} {m0_BadTree m1_BadTree m2_BadTree m3_BadTree m5_BadTree : Option Value} {t_Tree_MOST_NODES : Tok} {t_Tree_MOST_DEPTH : Tok} {t_Grammar_MOST_FIELDS : Tok} {t_Grammar_MOST_KINDS : Tok} {t_Grammar_MOST_CHILDREN : Tok} {t_Grammar_MOST_FAMILIES : Tok}
    (a_LimitExceeded : PySem.W.nsIn K mainGlobals "LimitExceeded" = some (some (.ref c_LimitExceeded)))
    (a_UnknownName : PySem.W.nsIn K mainGlobals "UnknownName" = some (some (.ref c_UnknownName)))
    (a_BadGrammar : PySem.W.nsIn K mainGlobals "BadGrammar" = some (some (.ref c_BadGrammar)))
    (a_BadTree : PySem.W.nsIn K mainGlobals "BadTree" = some (some (.ref c_BadTree)))
    (a_Tree : PySem.W.nsIn K mainGlobals "Tree" = some (some (.ref c_Tree)))
    (a_Grammar : PySem.W.nsIn K mainGlobals "Grammar" = some (some (.ref c_Grammar)))
    (a__in_order : PySem.W.nsIn K mainGlobals "_in_order" = some (some (.ref f__in_order)))
    (l__in_order : K.lookup f__in_order = some ⟨oc__in_order, od__in_order, .func (PySem.W.fnOf "_in_order" "_in_order" (defArgs s__in_order) (defBody s__in_order) (defScope s__in_order) .none kV__in_order doc__in_order pm__in_order an__in_order cd__in_order ct__in_order), sl__in_order⟩)
    (cc__in_order : PySem.W.codeIn K cd__in_order "_in_order" = true)
    (kk__in_order : PySem.W.keepIn K (.ref f__in_order) = true)
    (a__least_sizes : PySem.W.nsIn K mainGlobals "_least_sizes" = some (some (.ref f__least_sizes)))
    (l__least_sizes : K.lookup f__least_sizes = some ⟨oc__least_sizes, od__least_sizes, .func (PySem.W.fnOf "_least_sizes" "_least_sizes" (defArgs s__least_sizes) (defBody s__least_sizes) (defScope s__least_sizes) .none kV__least_sizes doc__least_sizes pm__least_sizes an__least_sizes cd__least_sizes ct__least_sizes), sl__least_sizes⟩)
    (cc__least_sizes : PySem.W.codeIn K cd__least_sizes "_least_sizes" = true)
    (kk__least_sizes : PySem.W.keepIn K (.ref f__least_sizes) = true)
    (a__law_source : PySem.W.nsIn K mainGlobals "_law_source" = some (some (.ref f__law_source)))
    (l__law_source : K.lookup f__law_source = some ⟨oc__law_source, od__law_source, .func (PySem.W.fnOf "_law_source" "_law_source" (defArgs s__law_source) (defBody s__law_source) (defScope s__law_source) .none kV__law_source doc__law_source pm__law_source an__law_source cd__law_source ct__law_source), sl__law_source⟩)
    (cc__law_source : PySem.W.codeIn K cd__law_source "_law_source" = true)
    (kk__law_source : PySem.W.keepIn K (.ref f__law_source) = true)
    (a__law_draw : PySem.W.nsIn K mainGlobals "_law_draw" = some (some (.ref f__law_draw)))
    (l__law_draw : K.lookup f__law_draw = some ⟨oc__law_draw, od__law_draw, .func (PySem.W.fnOf "_law_draw" "_law_draw" (defArgs s__law_draw) (defBody s__law_draw) (defScope s__law_draw) .none kV__law_draw doc__law_draw pm__law_draw an__law_draw cd__law_draw ct__law_draw), sl__law_draw⟩)
    (cc__law_draw : PySem.W.codeIn K cd__law_draw "_law_draw" = true)
    (kk__law_draw : PySem.W.keepIn K (.ref f__law_draw) = true)
    (a__law_by_depth : PySem.W.nsIn K mainGlobals "_law_by_depth" = some (some (.ref f__law_by_depth)))
    (l__law_by_depth : K.lookup f__law_by_depth = some ⟨oc__law_by_depth, od__law_by_depth, .func (PySem.W.fnOf "_law_by_depth" "_law_by_depth" (defArgs s__law_by_depth) (defBody s__law_by_depth) (defScope s__law_by_depth) .none kV__law_by_depth doc__law_by_depth pm__law_by_depth an__law_by_depth cd__law_by_depth ct__law_by_depth), sl__law_by_depth⟩)
    (cc__law_by_depth : PySem.W.codeIn K cd__law_by_depth "_law_by_depth" = true)
    (kk__law_by_depth : PySem.W.keepIn K (.ref f__law_by_depth) = true)
    (a__law_whole : PySem.W.nsIn K mainGlobals "_law_whole" = some (some (.ref f__law_whole)))
    (l__law_whole : K.lookup f__law_whole = some ⟨oc__law_whole, od__law_whole, .func (PySem.W.fnOf "_law_whole" "_law_whole" (defArgs s__law_whole) (defBody s__law_whole) (defScope s__law_whole) .none kV__law_whole doc__law_whole pm__law_whole an__law_whole cd__law_whole ct__law_whole), sl__law_whole⟩)
    (cc__law_whole : PySem.W.codeIn K cd__law_whole "_law_whole" = true)
    (kk__law_whole : PySem.W.keepIn K (.ref f__law_whole) = true)
    (a_LimitExceeded___init__ : PySem.W.findIn K (.ref c_LimitExceeded) "__init__" = some (some (.ref m_LimitExceeded___init__)))
    (l_LimitExceeded___init__ : K.lookup m_LimitExceeded___init__ = some ⟨oc_LimitExceeded___init__, od_LimitExceeded___init__, .func (PySem.W.fnOf "__init__" "LimitExceeded.__init__" (defArgs s_LimitExceeded___init__) (defBody s_LimitExceeded___init__) (defScope s_LimitExceeded___init__) .none kV_LimitExceeded___init__ doc_LimitExceeded___init__ pm_LimitExceeded___init__ an_LimitExceeded___init__ cd_LimitExceeded___init__ ct_LimitExceeded___init__), sl_LimitExceeded___init__⟩)
    (cc_LimitExceeded___init__ : PySem.W.codeIn K cd_LimitExceeded___init__ "LimitExceeded.__init__" = true)
    (kk_LimitExceeded___init__ : PySem.W.keepIn K (.ref m_LimitExceeded___init__) = true)
    (a_UnknownName___init__ : PySem.W.findIn K (.ref c_UnknownName) "__init__" = some (some (.ref m_UnknownName___init__)))
    (l_UnknownName___init__ : K.lookup m_UnknownName___init__ = some ⟨oc_UnknownName___init__, od_UnknownName___init__, .func (PySem.W.fnOf "__init__" "UnknownName.__init__" (defArgs s_UnknownName___init__) (defBody s_UnknownName___init__) (defScope s_UnknownName___init__) .none kV_UnknownName___init__ doc_UnknownName___init__ pm_UnknownName___init__ an_UnknownName___init__ cd_UnknownName___init__ ct_UnknownName___init__), sl_UnknownName___init__⟩)
    (cc_UnknownName___init__ : PySem.W.codeIn K cd_UnknownName___init__ "UnknownName.__init__" = true)
    (kk_UnknownName___init__ : PySem.W.keepIn K (.ref m_UnknownName___init__) = true)
    (a_BadGrammar___init__ : PySem.W.findIn K (.ref c_BadGrammar) "__init__" = some (some (.ref m_BadGrammar___init__)))
    (l_BadGrammar___init__ : K.lookup m_BadGrammar___init__ = some ⟨oc_BadGrammar___init__, od_BadGrammar___init__, .func (PySem.W.fnOf "__init__" "BadGrammar.__init__" (defArgs s_BadGrammar___init__) (defBody s_BadGrammar___init__) (defScope s_BadGrammar___init__) .none kV_BadGrammar___init__ doc_BadGrammar___init__ pm_BadGrammar___init__ an_BadGrammar___init__ cd_BadGrammar___init__ ct_BadGrammar___init__), sl_BadGrammar___init__⟩)
    (cc_BadGrammar___init__ : PySem.W.codeIn K cd_BadGrammar___init__ "BadGrammar.__init__" = true)
    (kk_BadGrammar___init__ : PySem.W.keepIn K (.ref m_BadGrammar___init__) = true)
    (a_BadTree___init__ : PySem.W.findIn K (.ref c_BadTree) "__init__" = some (some (.ref m_BadTree___init__)))
    (l_BadTree___init__ : K.lookup m_BadTree___init__ = some ⟨oc_BadTree___init__, od_BadTree___init__, .func (PySem.W.fnOf "__init__" "BadTree.__init__" (defArgs s_BadTree___init__) (defBody s_BadTree___init__) (defScope s_BadTree___init__) .none kV_BadTree___init__ doc_BadTree___init__ pm_BadTree___init__ an_BadTree___init__ cd_BadTree___init__ ct_BadTree___init__), sl_BadTree___init__⟩)
    (cc_BadTree___init__ : PySem.W.codeIn K cd_BadTree___init__ "BadTree.__init__" = true)
    (kk_BadTree___init__ : PySem.W.keepIn K (.ref m_BadTree___init__) = true)
    (a_Tree___iter__ : PySem.W.findIn K (.ref c_Tree) "__iter__" = some (some (.ref m_Tree___iter__)))
    (l_Tree___iter__ : K.lookup m_Tree___iter__ = some ⟨oc_Tree___iter__, od_Tree___iter__, .func (PySem.W.fnOf "__iter__" "Tree.__iter__" (defArgs s_Tree___iter__) (defBody s_Tree___iter__) (defScope s_Tree___iter__) .none kV_Tree___iter__ doc_Tree___iter__ pm_Tree___iter__ an_Tree___iter__ cd_Tree___iter__ ct_Tree___iter__), sl_Tree___iter__⟩)
    (cc_Tree___iter__ : PySem.W.codeIn K cd_Tree___iter__ "Tree.__iter__" = true)
    (kk_Tree___iter__ : PySem.W.keepIn K (.ref m_Tree___iter__) = true)
    (a__law_read_r4 : PySem.W.nsIn K mainGlobals "_law_read" = some (some (.ref f__law_read_r4)))
    (l__law_read_r4 : K.lookup f__law_read_r4 = some ⟨oc__law_read_r4, od__law_read_r4, .func (PySem.W.fnOf "_law_read" "_law_read" (defArgs s__law_read_r4) (defBody s__law_read_r4) (defScope s__law_read_r4) .none kV__law_read_r4 doc__law_read_r4 pm__law_read_r4 an__law_read_r4 cd__law_read_r4 ct__law_read_r4), sl__law_read_r4⟩)
    (cc__law_read_r4 : PySem.W.codeIn K cd__law_read_r4 "_law_read" = true)
    (kk__law_read_r4 : PySem.W.keepIn K (.ref f__law_read_r4) = true)
    (a__law_count_r4 : PySem.W.nsIn K mainGlobals "_law_count" = some (some (.ref f__law_count_r4)))
    (l__law_count_r4 : K.lookup f__law_count_r4 = some ⟨oc__law_count_r4, od__law_count_r4, .func (PySem.W.fnOf "_law_count" "_law_count" (defArgs s__law_count_r4) (defBody s__law_count_r4) (defScope s__law_count_r4) .none kV__law_count_r4 doc__law_count_r4 pm__law_count_r4 an__law_count_r4 cd__law_count_r4 ct__law_count_r4), sl__law_count_r4⟩)
    (cc__law_count_r4 : PySem.W.codeIn K cd__law_count_r4 "_law_count" = true)
    (kk__law_count_r4 : PySem.W.keepIn K (.ref f__law_count_r4) = true)
    (sm_Tree_least_r4 : PySem.W.findCls K (.ref c_Tree) (.type "type") "least" = some (.get (.builtin "staticmethod.__get__") (.ref q_Tree_least_r4) .none (.ref c_Tree)))
    (sr_Tree_least_r4 : PySem.W.recIn K q_Tree_least_r4 "staticmethod" = some (.ref m_Tree_least_r4 :: sq_Tree_least_r4))
    (l_Tree_least_r4 : K.lookup m_Tree_least_r4 = some ⟨oc_Tree_least_r4, od_Tree_least_r4, .func (PySem.W.fnOf "least" "Tree.least" (defArgs s_Tree_least_r4) (defBody s_Tree_least_r4) (defScope s_Tree_least_r4) .none kV_Tree_least_r4 doc_Tree_least_r4 pm_Tree_least_r4 an_Tree_least_r4 cd_Tree_least_r4 ct_Tree_least_r4), sl_Tree_least_r4⟩)
    (cc_Tree_least_r4 : PySem.W.codeIn K cd_Tree_least_r4 "Tree.least" = true)
    (kk_Tree_least_r4 : PySem.W.keepIn K (.ref m_Tree_least_r4) = true)
    (a__law_names : PySem.W.nsIn K mainGlobals "_law_names" = some (some (.ref f__law_names)))
    (l__law_names : K.lookup f__law_names = some ⟨oc__law_names, od__law_names, .func (PySem.W.fnOf "_law_names" "_law_names" (defArgs s__law_names) (defBody s__law_names) (defScope s__law_names) .none kV__law_names doc__law_names pm__law_names an__law_names cd__law_names ct__law_names), sl__law_names⟩)
    (cc__law_names : PySem.W.codeIn K cd__law_names "_law_names" = true)
    (kk__law_names : PySem.W.keepIn K (.ref f__law_names) = true)
    (a__law_count_r3 : PySem.W.nsIn K mainGlobals "_law_count" = some (some (.ref f__law_count_r3)))
    (l__law_count_r3 : K.lookup f__law_count_r3 = some ⟨oc__law_count_r3, od__law_count_r3, .func (PySem.W.fnOf "_law_count" "_law_count" (defArgs s__law_count_r3) (defBody s__law_count_r3) (defScope s__law_count_r3) .none kV__law_count_r3 doc__law_count_r3 pm__law_count_r3 an__law_count_r3 cd__law_count_r3 ct__law_count_r3), sl__law_count_r3⟩)
    (cc__law_count_r3 : PySem.W.codeIn K cd__law_count_r3 "_law_count" = true)
    (kk__law_count_r3 : PySem.W.keepIn K (.ref f__law_count_r3) = true)
    (a__check_fields : PySem.W.nsIn K mainGlobals "_check_fields" = some (some (.ref f__check_fields)))
    (l__check_fields : K.lookup f__check_fields = some ⟨oc__check_fields, od__check_fields, .func (PySem.W.fnOf "_check_fields" "_check_fields" (defArgs s__check_fields) (defBody s__check_fields) (defScope s__check_fields) .none kV__check_fields doc__check_fields pm__check_fields an__check_fields cd__check_fields ct__check_fields), sl__check_fields⟩)
    (cc__check_fields : PySem.W.codeIn K cd__check_fields "_check_fields" = true)
    (kk__check_fields : PySem.W.keepIn K (.ref f__check_fields) = true)
    (a__check_kinds : PySem.W.nsIn K mainGlobals "_check_kinds" = some (some (.ref f__check_kinds)))
    (l__check_kinds : K.lookup f__check_kinds = some ⟨oc__check_kinds, od__check_kinds, .func (PySem.W.fnOf "_check_kinds" "_check_kinds" (defArgs s__check_kinds) (defBody s__check_kinds) (defScope s__check_kinds) .none kV__check_kinds doc__check_kinds pm__check_kinds an__check_kinds cd__check_kinds ct__check_kinds), sl__check_kinds⟩)
    (cc__check_kinds : PySem.W.codeIn K cd__check_kinds "_check_kinds" = true)
    (kk__check_kinds : PySem.W.keepIn K (.ref f__check_kinds) = true)
    (a__law_kinds : PySem.W.nsIn K mainGlobals "_law_kinds" = some (some (.ref f__law_kinds)))
    (l__law_kinds : K.lookup f__law_kinds = some ⟨oc__law_kinds, od__law_kinds, .func (PySem.W.fnOf "_law_kinds" "_law_kinds" (defArgs s__law_kinds) (defBody s__law_kinds) (defScope s__law_kinds) .none kV__law_kinds doc__law_kinds pm__law_kinds an__law_kinds cd__law_kinds ct__law_kinds), sl__law_kinds⟩)
    (cc__law_kinds : PySem.W.codeIn K cd__law_kinds "_law_kinds" = true)
    (kk__law_kinds : PySem.W.keepIn K (.ref f__law_kinds) = true)
    (a_Grammar_kinds_of : PySem.W.findIn K (.ref c_Grammar) "kinds_of" = some (some (.ref m_Grammar_kinds_of)))
    (l_Grammar_kinds_of : K.lookup m_Grammar_kinds_of = some ⟨oc_Grammar_kinds_of, od_Grammar_kinds_of, .func (PySem.W.fnOf "kinds_of" "Grammar.kinds_of" (defArgs s_Grammar_kinds_of) (defBody s_Grammar_kinds_of) (defScope s_Grammar_kinds_of) .none kV_Grammar_kinds_of doc_Grammar_kinds_of pm_Grammar_kinds_of an_Grammar_kinds_of cd_Grammar_kinds_of ct_Grammar_kinds_of), sl_Grammar_kinds_of⟩)
    (cc_Grammar_kinds_of : PySem.W.codeIn K cd_Grammar_kinds_of "Grammar.kinds_of" = true)
    (kk_Grammar_kinds_of : PySem.W.keepIn K (.ref m_Grammar_kinds_of) = true)
    (a_Grammar__check_kind : PySem.W.findIn K (.ref c_Grammar) "_check_kind" = some (some (.ref m_Grammar__check_kind)))
    (l_Grammar__check_kind : K.lookup m_Grammar__check_kind = some ⟨oc_Grammar__check_kind, od_Grammar__check_kind, .func (PySem.W.fnOf "_check_kind" "Grammar._check_kind" (defArgs s_Grammar__check_kind) (defBody s_Grammar__check_kind) (defScope s_Grammar__check_kind) .none kV_Grammar__check_kind doc_Grammar__check_kind pm_Grammar__check_kind an_Grammar__check_kind cd_Grammar__check_kind ct_Grammar__check_kind), sl_Grammar__check_kind⟩)
    (cc_Grammar__check_kind : PySem.W.codeIn K cd_Grammar__check_kind "Grammar._check_kind" = true)
    (kk_Grammar__check_kind : PySem.W.keepIn K (.ref m_Grammar__check_kind) = true)
    (a__law_read_r3 : PySem.W.nsIn K mainGlobals "_law_read" = some (some (.ref f__law_read_r3)))
    (l__law_read_r3 : K.lookup f__law_read_r3 = some ⟨oc__law_read_r3, od__law_read_r3, .func (PySem.W.fnOf "_law_read" "_law_read" (defArgs s__law_read_r3) (defBody s__law_read_r3) (defScope s__law_read_r3) .none kV__law_read_r3 doc__law_read_r3 pm__law_read_r3 an__law_read_r3 cd__law_read_r3 ct__law_read_r3), sl__law_read_r3⟩)
    (cc__law_read_r3 : PySem.W.codeIn K cd__law_read_r3 "_law_read" = true)
    (kk__law_read_r3 : PySem.W.keepIn K (.ref f__law_read_r3) = true)
    (a__law_count_r2 : PySem.W.nsIn K mainGlobals "_law_count" = some (some (.ref f__law_count_r2)))
    (l__law_count_r2 : K.lookup f__law_count_r2 = some ⟨oc__law_count_r2, od__law_count_r2, .func (PySem.W.fnOf "_law_count" "_law_count" (defArgs s__law_count_r2) (defBody s__law_count_r2) (defScope s__law_count_r2) .none kV__law_count_r2 doc__law_count_r2 pm__law_count_r2 an__law_count_r2 cd__law_count_r2 ct__law_count_r2), sl__law_count_r2⟩)
    (cc__law_count_r2 : PySem.W.codeIn K cd__law_count_r2 "_law_count" = true)
    (kk__law_count_r2 : PySem.W.keepIn K (.ref f__law_count_r2) = true)
    (a_Grammar___init__ : PySem.W.findIn K (.ref c_Grammar) "__init__" = some (some (.ref m_Grammar___init__)))
    (l_Grammar___init__ : K.lookup m_Grammar___init__ = some ⟨oc_Grammar___init__, od_Grammar___init__, .func (PySem.W.fnOf "__init__" "Grammar.__init__" (defArgs s_Grammar___init__) (defBody s_Grammar___init__) (defScope s_Grammar___init__) .none (.ref kd_Grammar___init__) doc_Grammar___init__ pm_Grammar___init__ an_Grammar___init__ cd_Grammar___init__ ct_Grammar___init__), sl_Grammar___init__⟩)
    (cc_Grammar___init__ : PySem.W.codeIn K cd_Grammar___init__ "Grammar.__init__" = true)
    (kk_Grammar___init__ : PySem.W.keepIn K (.ref m_Grammar___init__) = true)
    (kr_Grammar___init__ : PySem.W.nsIn K kd_Grammar___init__ "root" = some (some .none))
    (a_Grammar_family_of : PySem.W.findIn K (.ref c_Grammar) "family_of" = some (some (.ref m_Grammar_family_of)))
    (l_Grammar_family_of : K.lookup m_Grammar_family_of = some ⟨oc_Grammar_family_of, od_Grammar_family_of, .func (PySem.W.fnOf "family_of" "Grammar.family_of" (defArgs s_Grammar_family_of) (defBody s_Grammar_family_of) (defScope s_Grammar_family_of) .none kV_Grammar_family_of doc_Grammar_family_of pm_Grammar_family_of an_Grammar_family_of cd_Grammar_family_of ct_Grammar_family_of), sl_Grammar_family_of⟩)
    (cc_Grammar_family_of : PySem.W.codeIn K cd_Grammar_family_of "Grammar.family_of" = true)
    (kk_Grammar_family_of : PySem.W.keepIn K (.ref m_Grammar_family_of) = true)
    (a_Grammar_children_of : PySem.W.findIn K (.ref c_Grammar) "children_of" = some (some (.ref m_Grammar_children_of)))
    (l_Grammar_children_of : K.lookup m_Grammar_children_of = some ⟨oc_Grammar_children_of, od_Grammar_children_of, .func (PySem.W.fnOf "children_of" "Grammar.children_of" (defArgs s_Grammar_children_of) (defBody s_Grammar_children_of) (defScope s_Grammar_children_of) .none kV_Grammar_children_of doc_Grammar_children_of pm_Grammar_children_of an_Grammar_children_of cd_Grammar_children_of ct_Grammar_children_of), sl_Grammar_children_of⟩)
    (cc_Grammar_children_of : PySem.W.codeIn K cd_Grammar_children_of "Grammar.children_of" = true)
    (kk_Grammar_children_of : PySem.W.keepIn K (.ref m_Grammar_children_of) = true)
    (a_Grammar_kind_size : PySem.W.findIn K (.ref c_Grammar) "kind_size" = some (some (.ref m_Grammar_kind_size)))
    (l_Grammar_kind_size : K.lookup m_Grammar_kind_size = some ⟨oc_Grammar_kind_size, od_Grammar_kind_size, .func (PySem.W.fnOf "kind_size" "Grammar.kind_size" (defArgs s_Grammar_kind_size) (defBody s_Grammar_kind_size) (defScope s_Grammar_kind_size) .none kV_Grammar_kind_size doc_Grammar_kind_size pm_Grammar_kind_size an_Grammar_kind_size cd_Grammar_kind_size ct_Grammar_kind_size), sl_Grammar_kind_size⟩)
    (cc_Grammar_kind_size : PySem.W.codeIn K cd_Grammar_kind_size "Grammar.kind_size" = true)
    (kk_Grammar_kind_size : PySem.W.keepIn K (.ref m_Grammar_kind_size) = true)
    (a_Grammar_least_size : PySem.W.findIn K (.ref c_Grammar) "least_size" = some (some (.ref m_Grammar_least_size)))
    (l_Grammar_least_size : K.lookup m_Grammar_least_size = some ⟨oc_Grammar_least_size, od_Grammar_least_size, .func (PySem.W.fnOf "least_size" "Grammar.least_size" (defArgs s_Grammar_least_size) (defBody s_Grammar_least_size) (defScope s_Grammar_least_size) .none kV_Grammar_least_size doc_Grammar_least_size pm_Grammar_least_size an_Grammar_least_size cd_Grammar_least_size ct_Grammar_least_size), sl_Grammar_least_size⟩)
    (cc_Grammar_least_size : PySem.W.codeIn K cd_Grammar_least_size "Grammar.least_size" = true)
    (kk_Grammar_least_size : PySem.W.keepIn K (.ref m_Grammar_least_size) = true)
    (a__law_read_r2 : PySem.W.nsIn K mainGlobals "_law_read" = some (some (.ref f__law_read_r2)))
    (l__law_read_r2 : K.lookup f__law_read_r2 = some ⟨oc__law_read_r2, od__law_read_r2, .func (PySem.W.fnOf "_law_read" "_law_read" (defArgs s__law_read_r2) (defBody s__law_read_r2) (defScope s__law_read_r2) .none kV__law_read_r2 doc__law_read_r2 pm__law_read_r2 an__law_read_r2 cd__law_read_r2 ct__law_read_r2), sl__law_read_r2⟩)
    (cc__law_read_r2 : PySem.W.codeIn K cd__law_read_r2 "_law_read" = true)
    (kk__law_read_r2 : PySem.W.keepIn K (.ref f__law_read_r2) = true)
    (a__law_count_r1 : PySem.W.nsIn K mainGlobals "_law_count" = some (some (.ref f__law_count_r1)))
    (l__law_count_r1 : K.lookup f__law_count_r1 = some ⟨oc__law_count_r1, od__law_count_r1, .func (PySem.W.fnOf "_law_count" "_law_count" (defArgs s__law_count_r1) (defBody s__law_count_r1) (defScope s__law_count_r1) .none kV__law_count_r1 doc__law_count_r1 pm__law_count_r1 an__law_count_r1 cd__law_count_r1 ct__law_count_r1), sl__law_count_r1⟩)
    (cc__law_count_r1 : PySem.W.codeIn K cd__law_count_r1 "_law_count" = true)
    (kk__law_count_r1 : PySem.W.keepIn K (.ref f__law_count_r1) = true)
    (a__law_count : PySem.W.nsIn K mainGlobals "_law_count" = some (some (.ref f__law_count)))
    (l__law_count : K.lookup f__law_count = some ⟨oc__law_count, od__law_count, .func (PySem.W.fnOf "_law_count" "_law_count" (defArgs s__law_count) (defBody s__law_count) (defScope s__law_count) .none kV__law_count doc__law_count pm__law_count an__law_count cd__law_count ct__law_count), sl__law_count⟩)
    (cc__law_count : PySem.W.codeIn K cd__law_count "_law_count" = true)
    (kk__law_count : PySem.W.keepIn K (.ref f__law_count) = true)
    (a_Tree___init__ : PySem.W.findIn K (.ref c_Tree) "__init__" = some (some (.ref m_Tree___init__)))
    (l_Tree___init__ : K.lookup m_Tree___init__ = some ⟨oc_Tree___init__, od_Tree___init__, .func (PySem.W.fnOf "__init__" "Tree.__init__" (defArgs s_Tree___init__) (defBody s_Tree___init__) (defScope s_Tree___init__) .none kV_Tree___init__ doc_Tree___init__ pm_Tree___init__ an_Tree___init__ cd_Tree___init__ ct_Tree___init__), sl_Tree___init__⟩)
    (cc_Tree___init__ : PySem.W.codeIn K cd_Tree___init__ "Tree.__init__" = true)
    (kk_Tree___init__ : PySem.W.keepIn K (.ref m_Tree___init__) = true)
    (a__law_read_r1 : PySem.W.nsIn K mainGlobals "_law_read" = some (some (.ref f__law_read_r1)))
    (l__law_read_r1 : K.lookup f__law_read_r1 = some ⟨oc__law_read_r1, od__law_read_r1, .func (PySem.W.fnOf "_law_read" "_law_read" (defArgs s__law_read_r1) (defBody s__law_read_r1) (defScope s__law_read_r1) .none kV__law_read_r1 doc__law_read_r1 pm__law_read_r1 an__law_read_r1 cd__law_read_r1 ct__law_read_r1), sl__law_read_r1⟩)
    (cc__law_read_r1 : PySem.W.codeIn K cd__law_read_r1 "_law_read" = true)
    (kk__law_read_r1 : PySem.W.keepIn K (.ref f__law_read_r1) = true)
    (a__law_read : PySem.W.nsIn K mainGlobals "_law_read" = some (some (.ref f__law_read)))
    (l__law_read : K.lookup f__law_read = some ⟨oc__law_read, od__law_read, .func (PySem.W.fnOf "_law_read" "_law_read" (defArgs s__law_read) (defBody s__law_read) (defScope s__law_read) .none kV__law_read doc__law_read pm__law_read an__law_read cd__law_read ct__law_read), sl__law_read⟩)
    (cc__law_read : PySem.W.codeIn K cd__law_read "_law_read" = true)
    (kk__law_read : PySem.W.keepIn K (.ref f__law_read) = true)
    (sm_Tree_least_r3 : PySem.W.findCls K (.ref c_Tree) (.type "type") "least" = some (.get (.builtin "staticmethod.__get__") (.ref q_Tree_least_r3) .none (.ref c_Tree)))
    (sr_Tree_least_r3 : PySem.W.recIn K q_Tree_least_r3 "staticmethod" = some (.ref m_Tree_least_r3 :: sq_Tree_least_r3))
    (l_Tree_least_r3 : K.lookup m_Tree_least_r3 = some ⟨oc_Tree_least_r3, od_Tree_least_r3, .func (PySem.W.fnOf "least" "Tree.least" (defArgs s_Tree_least_r3) (defBody s_Tree_least_r3) (defScope s_Tree_least_r3) .none kV_Tree_least_r3 doc_Tree_least_r3 pm_Tree_least_r3 an_Tree_least_r3 cd_Tree_least_r3 ct_Tree_least_r3), sl_Tree_least_r3⟩)
    (cc_Tree_least_r3 : PySem.W.codeIn K cd_Tree_least_r3 "Tree.least" = true)
    (kk_Tree_least_r3 : PySem.W.keepIn K (.ref m_Tree_least_r3) = true)
    (sm_Tree_least_r2 : PySem.W.findCls K (.ref c_Tree) (.type "type") "least" = some (.get (.builtin "staticmethod.__get__") (.ref q_Tree_least_r2) .none (.ref c_Tree)))
    (sr_Tree_least_r2 : PySem.W.recIn K q_Tree_least_r2 "staticmethod" = some (.ref m_Tree_least_r2 :: sq_Tree_least_r2))
    (l_Tree_least_r2 : K.lookup m_Tree_least_r2 = some ⟨oc_Tree_least_r2, od_Tree_least_r2, .func (PySem.W.fnOf "least" "Tree.least" (defArgs s_Tree_least_r2) (defBody s_Tree_least_r2) (defScope s_Tree_least_r2) .none kV_Tree_least_r2 doc_Tree_least_r2 pm_Tree_least_r2 an_Tree_least_r2 cd_Tree_least_r2 ct_Tree_least_r2), sl_Tree_least_r2⟩)
    (cc_Tree_least_r2 : PySem.W.codeIn K cd_Tree_least_r2 "Tree.least" = true)
    (kk_Tree_least_r2 : PySem.W.keepIn K (.ref m_Tree_least_r2) = true)
    (sm_Tree_least_r1 : PySem.W.findCls K (.ref c_Tree) (.type "type") "least" = some (.get (.builtin "staticmethod.__get__") (.ref q_Tree_least_r1) .none (.ref c_Tree)))
    (sr_Tree_least_r1 : PySem.W.recIn K q_Tree_least_r1 "staticmethod" = some (.ref m_Tree_least_r1 :: sq_Tree_least_r1))
    (l_Tree_least_r1 : K.lookup m_Tree_least_r1 = some ⟨oc_Tree_least_r1, od_Tree_least_r1, .func (PySem.W.fnOf "least" "Tree.least" (defArgs s_Tree_least_r1) (defBody s_Tree_least_r1) (defScope s_Tree_least_r1) .none kV_Tree_least_r1 doc_Tree_least_r1 pm_Tree_least_r1 an_Tree_least_r1 cd_Tree_least_r1 ct_Tree_least_r1), sl_Tree_least_r1⟩)
    (cc_Tree_least_r1 : PySem.W.codeIn K cd_Tree_least_r1 "Tree.least" = true)
    (kk_Tree_least_r1 : PySem.W.keepIn K (.ref m_Tree_least_r1) = true)
    (sm_Tree_least : PySem.W.findCls K (.ref c_Tree) (.type "type") "least" = some (.get (.builtin "staticmethod.__get__") (.ref q_Tree_least) .none (.ref c_Tree)))
    (sr_Tree_least : PySem.W.recIn K q_Tree_least "staticmethod" = some (.ref m_Tree_least :: sq_Tree_least))
    (l_Tree_least : K.lookup m_Tree_least = some ⟨oc_Tree_least, od_Tree_least, .func (PySem.W.fnOf "least" "Tree.least" (defArgs s_Tree_least) (defBody s_Tree_least) (defScope s_Tree_least) .none kV_Tree_least doc_Tree_least pm_Tree_least an_Tree_least cd_Tree_least ct_Tree_least), sl_Tree_least⟩)
    (cc_Tree_least : PySem.W.codeIn K cd_Tree_least "Tree.least" = true)
    (kk_Tree_least : PySem.W.keepIn K (.ref m_Tree_least) = true)
    (a__law_sized : PySem.W.nsIn K mainGlobals "_law_sized" = some (some (.ref f__law_sized)))
    (l__law_sized : K.lookup f__law_sized = some ⟨oc__law_sized, od__law_sized, .func (PySem.W.fnOf "_law_sized" "_law_sized" (defArgs s__law_sized) (defBody s__law_sized) (defScope s__law_sized) .none kV__law_sized doc__law_sized pm__law_sized an__law_sized cd__law_sized ct__law_sized), sl__law_sized⟩)
    (cc__law_sized : PySem.W.codeIn K cd__law_sized "_law_sized" = true)
    (kk__law_sized : PySem.W.keepIn K (.ref f__law_sized) = true)
    (a__law_stranger : PySem.W.nsIn K mainGlobals "_law_stranger" = some (some (.ref f__law_stranger)))
    (l__law_stranger : K.lookup f__law_stranger = some ⟨oc__law_stranger, od__law_stranger, .func (PySem.W.fnOf "_law_stranger" "_law_stranger" (defArgs s__law_stranger) (defBody s__law_stranger) (defScope s__law_stranger) .none kV__law_stranger doc__law_stranger pm__law_stranger an__law_stranger cd__law_stranger ct__law_stranger), sl__law_stranger⟩)
    (cc__law_stranger : PySem.W.codeIn K cd__law_stranger "_law_stranger" = true)
    (kk__law_stranger : PySem.W.keepIn K (.ref f__law_stranger) = true)
    (a_law : PySem.W.nsIn K mainGlobals "law" = some (some (.ref f_law)))
    (l_law : K.lookup f_law = some ⟨oc_law, od_law, .func (PySem.W.fnOf "law" "law" (defArgs s_law) (defBody s_law) (defScope s_law) .none kV_law doc_law pm_law an_law cd_law ct_law), sl_law⟩)
    (cc_law : PySem.W.codeIn K cd_law "law" = true)
    (kk_law : PySem.W.keepIn K (.ref f_law) = true)
    (x_LimitExceeded : K.lookup c_LimitExceeded = some (excClassObj nm_LimitExceeded qn_LimitExceeded c_LimitExceeded N_LimitExceeded bs_LimitExceeded [.ref c_WalkError, .type "ValueError", .type "Exception", .type "BaseException", .type "object"] true sn_LimitExceeded sb_LimitExceeded ab_LimitExceeded col_LimitExceeded dd_LimitExceeded m0_LimitExceeded m1_LimitExceeded m2_LimitExceeded m3_LimitExceeded m5_LimitExceeded "ValueError.__new__"))
    (sa_LimitExceeded : PySem.W.findIn K (.ref c_LimitExceeded) "__setattr__" = some (some (.builtin "object.__setattr__")))
    (hs_LimitExceeded : PySem.W.subIn K (.ref c_LimitExceeded) (.type "BaseException") = some true)
    (ht_LimitExceeded : PySem.W.typeIn K (.ref c_LimitExceeded) = some (.type "type"))
    (hk_LimitExceeded : PySem.W.keepIn K (.ref c_LimitExceeded) = true)
    (ti_LimitExceeded : PySem.W.typeIn K (.ref m_LimitExceeded___init__) = some (.type "function"))
    (hd_LimitExceeded : PySem.W.hasDictIn K c_LimitExceeded = true)
    (x_UnknownName : K.lookup c_UnknownName = some (excClassObj nm_UnknownName qn_UnknownName c_UnknownName N_UnknownName bs_UnknownName [.ref c_WalkError, .type "ValueError", .type "Exception", .type "BaseException", .type "object"] true sn_UnknownName sb_UnknownName ab_UnknownName col_UnknownName dd_UnknownName m0_UnknownName m1_UnknownName m2_UnknownName m3_UnknownName m5_UnknownName "ValueError.__new__"))
    (sa_UnknownName : PySem.W.findIn K (.ref c_UnknownName) "__setattr__" = some (some (.builtin "object.__setattr__")))
    (hs_UnknownName : PySem.W.subIn K (.ref c_UnknownName) (.type "BaseException") = some true)
    (ht_UnknownName : PySem.W.typeIn K (.ref c_UnknownName) = some (.type "type"))
    (hk_UnknownName : PySem.W.keepIn K (.ref c_UnknownName) = true)
    (ti_UnknownName : PySem.W.typeIn K (.ref m_UnknownName___init__) = some (.type "function"))
    (hd_UnknownName : PySem.W.hasDictIn K c_UnknownName = true)
    (x_BadGrammar : K.lookup c_BadGrammar = some (excClassObj nm_BadGrammar qn_BadGrammar c_BadGrammar N_BadGrammar bs_BadGrammar [.ref c_WalkError, .type "ValueError", .type "Exception", .type "BaseException", .type "object"] true sn_BadGrammar sb_BadGrammar ab_BadGrammar col_BadGrammar dd_BadGrammar m0_BadGrammar m1_BadGrammar m2_BadGrammar m3_BadGrammar m5_BadGrammar "ValueError.__new__"))
    (sa_BadGrammar : PySem.W.findIn K (.ref c_BadGrammar) "__setattr__" = some (some (.builtin "object.__setattr__")))
    (hs_BadGrammar : PySem.W.subIn K (.ref c_BadGrammar) (.type "BaseException") = some true)
    (ht_BadGrammar : PySem.W.typeIn K (.ref c_BadGrammar) = some (.type "type"))
    (hk_BadGrammar : PySem.W.keepIn K (.ref c_BadGrammar) = true)
    (ti_BadGrammar : PySem.W.typeIn K (.ref m_BadGrammar___init__) = some (.type "function"))
    (hd_BadGrammar : PySem.W.hasDictIn K c_BadGrammar = true)
    (x_BadTree : K.lookup c_BadTree = some (excClassObj nm_BadTree qn_BadTree c_BadTree N_BadTree bs_BadTree [.ref c_WalkError, .type "ValueError", .type "Exception", .type "BaseException", .type "object"] true sn_BadTree sb_BadTree ab_BadTree col_BadTree dd_BadTree m0_BadTree m1_BadTree m2_BadTree m3_BadTree m5_BadTree "ValueError.__new__"))
    (sa_BadTree : PySem.W.findIn K (.ref c_BadTree) "__setattr__" = some (some (.builtin "object.__setattr__")))
    (hs_BadTree : PySem.W.subIn K (.ref c_BadTree) (.type "BaseException") = some true)
    (ht_BadTree : PySem.W.typeIn K (.ref c_BadTree) = some (.type "type"))
    (hk_BadTree : PySem.W.keepIn K (.ref c_BadTree) = true)
    (ti_BadTree : PySem.W.typeIn K (.ref m_BadTree___init__) = some (.type "function"))
    (hd_BadTree : PySem.W.hasDictIn K c_BadTree = true)
    (pg_Tree : PySem.W.plainGet K c_Tree Str.empty = true)
    (hd_Tree : PySem.W.hasDictIn K c_Tree = true)
    (po_Tree : PySem.W.plainOver K c_Tree = true)
    (sa_Tree : PySem.W.findIn K (.ref c_Tree) "__setattr__" = some (some (.builtin "object.__setattr__")))
    (mk_Tree : PySem.W.makesIn K c_Tree = true)
    (hk_Tree : PySem.W.keepIn K (.ref c_Tree) = true)
    (if_Tree___init__ : PySem.W.isFn K (.ref m_Tree___init__) = true)
    (rd_Tree : PySem.W.readsIn K c_Tree (.type "type") = true)
    (ga_Tree : PySem.W.specialIn K (.ref c_Tree) "__getattribute__" = some (some (.builtin "type.__getattribute__")))
    (if_Tree___iter__ : PySem.W.isFn K (.ref m_Tree___iter__) = true)
    (sf_Tree : PySem.W.selfFirst K c_Tree = true)
    (pg_Grammar : PySem.W.plainGet K c_Grammar Str.empty = true)
    (hd_Grammar : PySem.W.hasDictIn K c_Grammar = true)
    (po_Grammar : PySem.W.plainOver K c_Grammar = true)
    (sa_Grammar : PySem.W.findIn K (.ref c_Grammar) "__setattr__" = some (some (.builtin "object.__setattr__")))
    (mk_Grammar : PySem.W.makesIn K c_Grammar = true)
    (hk_Grammar : PySem.W.keepIn K (.ref c_Grammar) = true)
    (if_Grammar___init__ : PySem.W.isFn K (.ref m_Grammar___init__) = true)
    (if_Grammar_kinds_of : PySem.W.isFn K (.ref m_Grammar_kinds_of) = true)
    (if_Grammar__check_kind : PySem.W.isFn K (.ref m_Grammar__check_kind) = true)
    (if_Grammar_family_of : PySem.W.isFn K (.ref m_Grammar_family_of) = true)
    (if_Grammar_children_of : PySem.W.isFn K (.ref m_Grammar_children_of) = true)
    (if_Grammar_kind_size : PySem.W.isFn K (.ref m_Grammar_kind_size) = true)
    (if_Grammar_least_size : PySem.W.isFn K (.ref m_Grammar_least_size) = true)
    (co_Tree_MOST_NODES : PySem.W.findCls K (.ref c_Tree) (.type "type") "MOST_NODES" = some (.val (.int 1000 t_Tree_MOST_NODES)))
    (co_Tree_MOST_DEPTH : PySem.W.findCls K (.ref c_Tree) (.type "type") "MOST_DEPTH" = some (.val (.int 50 t_Tree_MOST_DEPTH)))
    (fo_Tree__children : PySem.W.findIn K (.ref c_Tree) "_children" = some none)
    (fo_Tree_depth : PySem.W.findIn K (.ref c_Tree) "depth" = some none)
    (fo_Tree_family : PySem.W.findIn K (.ref c_Tree) "family" = some none)
    (fo_Tree_kind : PySem.W.findIn K (.ref c_Tree) "kind" = some none)
    (fo_Tree_size : PySem.W.findIn K (.ref c_Tree) "size" = some none)
    (rd_Grammar : PySem.W.readsIn K c_Grammar (.type "type") = true)
    (ga_Grammar : PySem.W.specialIn K (.ref c_Grammar) "__getattribute__" = some (some (.builtin "type.__getattribute__")))
    (co_Grammar_MOST_FIELDS : PySem.W.findCls K (.ref c_Grammar) (.type "type") "MOST_FIELDS" = some (.val (.int 6 t_Grammar_MOST_FIELDS)))
    (co_Grammar_MOST_KINDS : PySem.W.findCls K (.ref c_Grammar) (.type "type") "MOST_KINDS" = some (.val (.int 8 t_Grammar_MOST_KINDS)))
    (co_Grammar_MOST_CHILDREN : PySem.W.findCls K (.ref c_Grammar) (.type "type") "MOST_CHILDREN" = some (.val (.int 3 t_Grammar_MOST_CHILDREN)))
    (co_Grammar_MOST_FAMILIES : PySem.W.findCls K (.ref c_Grammar) (.type "type") "MOST_FAMILIES" = some (.val (.int 3 t_Grammar_MOST_FAMILIES)))
    (fo_Grammar__children : PySem.W.findIn K (.ref c_Grammar) "_children" = some none)
    (fo_Grammar__families : PySem.W.findIn K (.ref c_Grammar) "_families" = some none)
    (fo_Grammar__sizes : PySem.W.findIn K (.ref c_Grammar) "_sizes" = some none)
    (fo_Grammar_families : PySem.W.findIn K (.ref c_Grammar) "families" = some none)
    (fo_Grammar_fields : PySem.W.findIn K (.ref c_Grammar) "fields" = some none)
    (fo_Grammar_kinds : PySem.W.findIn K (.ref c_Grammar) "kinds" = some none)
    (fo_Grammar_root : PySem.W.findIn K (.ref c_Grammar) "root" = some none)
    (oc_get : PySem.W.specialIn K (.builtin "object.__class__") "__get__" = some (some (.builtin "getset_descriptor.__get__")))
    (oc_tk : PySem.W.takesIn K (.builtin "object.__class__") = some true)
    (nf_LimitExceeded_limit : PySem.W.findIn K (.ref c_LimitExceeded) "limit" = some none)
    (eg_LimitExceeded : PySem.W.findIn K (.ref c_LimitExceeded) "__getattribute__" = some (some (.builtin "BaseException.__getattribute__")))
    (eh_LimitExceeded : PySem.W.findIn K (.ref c_LimitExceeded) "__getattr__" = some none)
    (ea_LimitExceeded : PySem.W.findIn K (.ref c_LimitExceeded) "__class__" = some (some (.builtin "object.__class__")))
    (eo_LimitExceeded : PySem.W.mroIn K c_LimitExceeded (.type "object") = some true)
    (su_LimitExceeded_UnknownName : PySem.W.subIn K (.ref c_LimitExceeded) (.ref c_UnknownName) = some false)
    (nf_UnknownName_name : PySem.W.findIn K (.ref c_UnknownName) "name" = some none)
    (eg_UnknownName : PySem.W.findIn K (.ref c_UnknownName) "__getattribute__" = some (some (.builtin "BaseException.__getattribute__")))
    (eh_UnknownName : PySem.W.findIn K (.ref c_UnknownName) "__getattr__" = some none)
    (ea_UnknownName : PySem.W.findIn K (.ref c_UnknownName) "__class__" = some (some (.builtin "object.__class__")))
    (eo_UnknownName : PySem.W.mroIn K c_UnknownName (.type "object") = some true)
    (su_UnknownName_UnknownName : PySem.W.subIn K (.ref c_UnknownName) (.ref c_UnknownName) = some true)
    (nf_BadGrammar_part : PySem.W.findIn K (.ref c_BadGrammar) "part" = some none)
    (eg_BadGrammar : PySem.W.findIn K (.ref c_BadGrammar) "__getattribute__" = some (some (.builtin "BaseException.__getattribute__")))
    (eh_BadGrammar : PySem.W.findIn K (.ref c_BadGrammar) "__getattr__" = some none)
    (ea_BadGrammar : PySem.W.findIn K (.ref c_BadGrammar) "__class__" = some (some (.builtin "object.__class__")))
    (eo_BadGrammar : PySem.W.mroIn K c_BadGrammar (.type "object") = some true)
    (su_BadGrammar_UnknownName : PySem.W.subIn K (.ref c_BadGrammar) (.ref c_UnknownName) = some false)
    (nf_BadTree_path : PySem.W.findIn K (.ref c_BadTree) "path" = some none)
    (eg_BadTree : PySem.W.findIn K (.ref c_BadTree) "__getattribute__" = some (some (.builtin "BaseException.__getattribute__")))
    (eh_BadTree : PySem.W.findIn K (.ref c_BadTree) "__getattr__" = some none)
    (ea_BadTree : PySem.W.findIn K (.ref c_BadTree) "__class__" = some (some (.builtin "object.__class__")))
    (eo_BadTree : PySem.W.mroIn K c_BadTree (.type "object") = some true)
    (su_BadTree_UnknownName : PySem.W.subIn K (.ref c_BadTree) (.ref c_UnknownName) = some false)
    (z_all : PySem.W.nsIn K mainGlobals "all" = some none)
    (z_any : PySem.W.nsIn K mainGlobals "any" = some none)
    (z_bool : PySem.W.nsIn K mainGlobals "bool" = some none)
    (z_enumerate : PySem.W.nsIn K mainGlobals "enumerate" = some none)
    (z_int : PySem.W.nsIn K mainGlobals "int" = some none)
    (z_isinstance : PySem.W.nsIn K mainGlobals "isinstance" = some none)
    (z_iter : PySem.W.nsIn K mainGlobals "iter" = some none)
    (z_len : PySem.W.nsIn K mainGlobals "len" = some none)
    (z_list : PySem.W.nsIn K mainGlobals "list" = some none)
    (z_max : PySem.W.nsIn K mainGlobals "max" = some none)
    (z_min : PySem.W.nsIn K mainGlobals "min" = some none)
    (z_range : PySem.W.nsIn K mainGlobals "range" = some none)
    (z_sum : PySem.W.nsIn K mainGlobals "sum" = some none)
    (z_tuple : PySem.W.nsIn K mainGlobals "tuple" = some none)
    : ∃ fd : FuncData, (∀ (s : Shared) (v : Value), BindsTo s fd ⟨[v], []⟩ [("_law_script", v)]) ∧ ∀ base : Heap, K.In base → base.Ns mainGlobals mg → FnOk P Wd.w K mg base (L2.CX P Wd.w) 12 fa fd ["_law_script"] (spOf K lawSp) := by
  have e := hfa.symm.trans (PySem.W.mg_of X G a_law)
  cases e
  have cl_Tree : Cls K c_Tree := ⟨pg_Tree, hd_Tree, po_Tree, sa_Tree⟩
  have cl_Grammar : Cls K c_Grammar := ⟨pg_Grammar, hd_Grammar, po_Grammar, sa_Grammar⟩
  have T : Txt K mg ⟨c_LimitExceeded, c_UnknownName, c_BadGrammar, c_BadTree, c_Tree, c_Grammar, f__in_order, f__least_sizes, f__law_source, f__law_draw, f__law_by_depth, f__law_whole, m_LimitExceeded___init__, m_UnknownName___init__, m_BadGrammar___init__, m_BadTree___init__, m_Tree___iter__, f__law_read_r4, f__law_count_r4, m_Tree_least_r4, f__law_names, f__law_count_r3, f__check_fields, f__check_kinds, f__law_kinds, m_Grammar_kinds_of, m_Grammar__check_kind, f__law_read_r3, f__law_count_r2, m_Grammar___init__, m_Grammar_family_of, m_Grammar_children_of, m_Grammar_kind_size, m_Grammar_least_size, f__law_read_r2, f__law_count_r1, f__law_count, m_Tree___init__, f__law_read_r1, f__law_read, m_Tree_least_r3, m_Tree_least_r2, m_Tree_least_r1, m_Tree_least, f__law_sized, f__law_stranger, fa, q_Tree_least_r4, q_Tree_least_r3, q_Tree_least_r2, q_Tree_least_r1, q_Tree_least⟩ := { g__in_order := PySem.W.mg_of X G a__in_order, k__in_order := kk__in_order, g__least_sizes := PySem.W.mg_of X G a__least_sizes, k__least_sizes := kk__least_sizes, g__law_source := PySem.W.mg_of X G a__law_source, k__law_source := kk__law_source, g__law_draw := PySem.W.mg_of X G a__law_draw, k__law_draw := kk__law_draw, g__law_by_depth := PySem.W.mg_of X G a__law_by_depth, k__law_by_depth := kk__law_by_depth, g__law_whole := PySem.W.mg_of X G a__law_whole, k__law_whole := kk__law_whole, g__law_read_r4 := PySem.W.mg_of X G a__law_read_r4, k__law_read_r4 := kk__law_read_r4, g__law_count_r4 := PySem.W.mg_of X G a__law_count_r4, k__law_count_r4 := kk__law_count_r4, g__law_names := PySem.W.mg_of X G a__law_names, k__law_names := kk__law_names, g__law_count_r3 := PySem.W.mg_of X G a__law_count_r3, k__law_count_r3 := kk__law_count_r3, g__check_fields := PySem.W.mg_of X G a__check_fields, k__check_fields := kk__check_fields, g__check_kinds := PySem.W.mg_of X G a__check_kinds, k__check_kinds := kk__check_kinds, g__law_kinds := PySem.W.mg_of X G a__law_kinds, k__law_kinds := kk__law_kinds, g__law_read_r3 := PySem.W.mg_of X G a__law_read_r3, k__law_read_r3 := kk__law_read_r3, g__law_count_r2 := PySem.W.mg_of X G a__law_count_r2, k__law_count_r2 := kk__law_count_r2, g__law_read_r2 := PySem.W.mg_of X G a__law_read_r2, k__law_read_r2 := kk__law_read_r2, g__law_count_r1 := PySem.W.mg_of X G a__law_count_r1, k__law_count_r1 := kk__law_count_r1, g__law_count := PySem.W.mg_of X G a__law_count, k__law_count := kk__law_count, g__law_read_r1 := PySem.W.mg_of X G a__law_read_r1, k__law_read_r1 := kk__law_read_r1, g__law_read := PySem.W.mg_of X G a__law_read, k__law_read := kk__law_read, g__law_sized := PySem.W.mg_of X G a__law_sized, k__law_sized := kk__law_sized, g__law_stranger := PySem.W.mg_of X G a__law_stranger, k__law_stranger := kk__law_stranger, g_law := PySem.W.mg_of X G a_law, k_law := kk_law, g_LimitExceeded := PySem.W.mg_of X G a_LimitExceeded, ox_LimitExceeded := ⟨⟨_, _, _, _, _, _, _, _, _, _, _, _, _, _, _, x_LimitExceeded, rfl⟩, sa_LimitExceeded, hs_LimitExceeded, ht_LimitExceeded, hk_LimitExceeded⟩, ini_LimitExceeded := a_LimitExceeded___init__, ti_LimitExceeded := ti_LimitExceeded, g_UnknownName := PySem.W.mg_of X G a_UnknownName, ox_UnknownName := ⟨⟨_, _, _, _, _, _, _, _, _, _, _, _, _, _, _, x_UnknownName, rfl⟩, sa_UnknownName, hs_UnknownName, ht_UnknownName, hk_UnknownName⟩, ini_UnknownName := a_UnknownName___init__, ti_UnknownName := ti_UnknownName, g_BadGrammar := PySem.W.mg_of X G a_BadGrammar, ox_BadGrammar := ⟨⟨_, _, _, _, _, _, _, _, _, _, _, _, _, _, _, x_BadGrammar, rfl⟩, sa_BadGrammar, hs_BadGrammar, ht_BadGrammar, hk_BadGrammar⟩, ini_BadGrammar := a_BadGrammar___init__, ti_BadGrammar := ti_BadGrammar, g_BadTree := PySem.W.mg_of X G a_BadTree, ox_BadTree := ⟨⟨_, _, _, _, _, _, _, _, _, _, _, _, _, _, _, x_BadTree, rfl⟩, sa_BadTree, hs_BadTree, ht_BadTree, hk_BadTree⟩, ini_BadTree := a_BadTree___init__, ti_BadTree := ti_BadTree, g_Tree := PySem.W.mg_of X G a_Tree, cl_Tree := cl_Tree, mk_Tree := ⟨mk_Tree, a_Tree___init__, if_Tree___init__, hk_Tree⟩, rc_Tree := ⟨rd_Tree, ga_Tree⟩, it_Tree___iter__ := ⟨a_Tree___iter__, if_Tree___iter__⟩, me_Tree___iter__ := ⟨a_Tree___iter__, if_Tree___iter__, kk_Tree___iter__⟩, ow_Tree___iter__ := ⟨a_Tree___iter__, if_Tree___iter__, sf_Tree⟩, st_Tree_least_r4 := ⟨sm_Tree_least_r4, ⟨_, sr_Tree_least_r4⟩, kk_Tree_least_r4⟩, st_Tree_least_r3 := ⟨sm_Tree_least_r3, ⟨_, sr_Tree_least_r3⟩, kk_Tree_least_r3⟩, st_Tree_least_r2 := ⟨sm_Tree_least_r2, ⟨_, sr_Tree_least_r2⟩, kk_Tree_least_r2⟩, st_Tree_least_r1 := ⟨sm_Tree_least_r1, ⟨_, sr_Tree_least_r1⟩, kk_Tree_least_r1⟩, st_Tree_least := ⟨sm_Tree_least, ⟨_, sr_Tree_least⟩, kk_Tree_least⟩, g_Grammar := PySem.W.mg_of X G a_Grammar, cl_Grammar := cl_Grammar, mk_Grammar := ⟨mk_Grammar, a_Grammar___init__, if_Grammar___init__, hk_Grammar⟩, me_Grammar_kinds_of := ⟨a_Grammar_kinds_of, if_Grammar_kinds_of, kk_Grammar_kinds_of⟩, me_Grammar__check_kind := ⟨a_Grammar__check_kind, if_Grammar__check_kind, kk_Grammar__check_kind⟩, me_Grammar_family_of := ⟨a_Grammar_family_of, if_Grammar_family_of, kk_Grammar_family_of⟩, me_Grammar_children_of := ⟨a_Grammar_children_of, if_Grammar_children_of, kk_Grammar_children_of⟩, me_Grammar_kind_size := ⟨a_Grammar_kind_size, if_Grammar_kind_size, kk_Grammar_kind_size⟩, me_Grammar_least_size := ⟨a_Grammar_least_size, if_Grammar_least_size, kk_Grammar_least_size⟩, co_Tree_MOST_NODES := ⟨_, _, ⟨rd_Tree, ga_Tree⟩, ⟨co_Tree_MOST_NODES, ⟨_, rfl⟩⟩⟩, co_Tree_MOST_DEPTH := ⟨_, _, ⟨rd_Tree, ga_Tree⟩, ⟨co_Tree_MOST_DEPTH, ⟨_, rfl⟩⟩⟩, fo_Tree__children := ⟨cl_Tree, fo_Tree__children⟩, fo_Tree_depth := ⟨cl_Tree, fo_Tree_depth⟩, fo_Tree_family := ⟨cl_Tree, fo_Tree_family⟩, fo_Tree_kind := ⟨cl_Tree, fo_Tree_kind⟩, fo_Tree_size := ⟨cl_Tree, fo_Tree_size⟩, co_Grammar_MOST_FIELDS := ⟨_, _, ⟨rd_Grammar, ga_Grammar⟩, ⟨co_Grammar_MOST_FIELDS, ⟨_, rfl⟩⟩⟩, co_Grammar_MOST_KINDS := ⟨_, _, ⟨rd_Grammar, ga_Grammar⟩, ⟨co_Grammar_MOST_KINDS, ⟨_, rfl⟩⟩⟩, co_Grammar_MOST_CHILDREN := ⟨_, _, ⟨rd_Grammar, ga_Grammar⟩, ⟨co_Grammar_MOST_CHILDREN, ⟨_, rfl⟩⟩⟩, co_Grammar_MOST_FAMILIES := ⟨_, _, ⟨rd_Grammar, ga_Grammar⟩, ⟨co_Grammar_MOST_FAMILIES, ⟨_, rfl⟩⟩⟩, fo_Grammar__children := ⟨cl_Grammar, fo_Grammar__children⟩, fo_Grammar__families := ⟨cl_Grammar, fo_Grammar__families⟩, fo_Grammar__sizes := ⟨cl_Grammar, fo_Grammar__sizes⟩, fo_Grammar_families := ⟨cl_Grammar, fo_Grammar_families⟩, fo_Grammar_fields := ⟨cl_Grammar, fo_Grammar_fields⟩, fo_Grammar_kinds := ⟨cl_Grammar, fo_Grammar_kinds⟩, fo_Grammar_root := ⟨cl_Grammar, fo_Grammar_root⟩, nf_LimitExceeded_limit := nf_LimitExceeded_limit, xf_LimitExceeded := ⟨eg_LimitExceeded, eh_LimitExceeded, hs_LimitExceeded, hd_LimitExceeded⟩, ec_LimitExceeded := ⟨eg_LimitExceeded, eh_LimitExceeded, hs_LimitExceeded, hd_LimitExceeded, ea_LimitExceeded, oc_get, oc_tk, eo_LimitExceeded⟩, em_LimitExceeded_UnknownName := PySem.W.exm_ref hs_UnknownName hd_UnknownName ht_UnknownName su_LimitExceeded_UnknownName, nf_UnknownName_name := nf_UnknownName_name, xf_UnknownName := ⟨eg_UnknownName, eh_UnknownName, hs_UnknownName, hd_UnknownName⟩, ec_UnknownName := ⟨eg_UnknownName, eh_UnknownName, hs_UnknownName, hd_UnknownName, ea_UnknownName, oc_get, oc_tk, eo_UnknownName⟩, em_UnknownName_UnknownName := PySem.W.exm_ref hs_UnknownName hd_UnknownName ht_UnknownName su_UnknownName_UnknownName, nf_BadGrammar_part := nf_BadGrammar_part, xf_BadGrammar := ⟨eg_BadGrammar, eh_BadGrammar, hs_BadGrammar, hd_BadGrammar⟩, ec_BadGrammar := ⟨eg_BadGrammar, eh_BadGrammar, hs_BadGrammar, hd_BadGrammar, ea_BadGrammar, oc_get, oc_tk, eo_BadGrammar⟩, em_BadGrammar_UnknownName := PySem.W.exm_ref hs_UnknownName hd_UnknownName ht_UnknownName su_BadGrammar_UnknownName, nf_BadTree_path := nf_BadTree_path, xf_BadTree := ⟨eg_BadTree, eh_BadTree, hs_BadTree, hd_BadTree⟩, ec_BadTree := ⟨eg_BadTree, eh_BadTree, hs_BadTree, hd_BadTree, ea_BadTree, oc_get, oc_tk, eo_BadTree⟩, em_BadTree_UnknownName := PySem.W.exm_ref hs_UnknownName hd_UnknownName ht_UnknownName su_BadTree_UnknownName, z_all := PySem.W.mg_none_of X G z_all, z_any := PySem.W.mg_none_of X G z_any, z_bool := PySem.W.mg_none_of X G z_bool, z_enumerate := PySem.W.mg_none_of X G z_enumerate, z_int := PySem.W.mg_none_of X G z_int, z_isinstance := PySem.W.mg_none_of X G z_isinstance, z_iter := PySem.W.mg_none_of X G z_iter, z_len := PySem.W.mg_none_of X G z_len, z_list := PySem.W.mg_none_of X G z_list, z_max := PySem.W.mg_none_of X G z_max, z_min := PySem.W.mg_none_of X G z_min, z_range := PySem.W.mg_none_of X G z_range, z_sum := PySem.W.mg_none_of X G z_sum, z_tuple := PySem.W.mg_none_of X G z_tuple }
  have F__in_order := fun_mk (st := s__in_order) l__in_order cc__in_order kk__in_order
  have F__least_sizes := fun_mk (st := s__least_sizes) l__least_sizes cc__least_sizes kk__least_sizes
  have F__law_source := fun_mk (st := s__law_source) l__law_source cc__law_source kk__law_source
  have F__law_draw := fun_mk (st := s__law_draw) l__law_draw cc__law_draw kk__law_draw
  have F__law_by_depth := fun_mk (st := s__law_by_depth) l__law_by_depth cc__law_by_depth kk__law_by_depth
  have F__law_whole := fun_mk (st := s__law_whole) l__law_whole cc__law_whole kk__law_whole
  have F_LimitExceeded___init__ := fun_mk (st := s_LimitExceeded___init__) l_LimitExceeded___init__ cc_LimitExceeded___init__ kk_LimitExceeded___init__
  have F_UnknownName___init__ := fun_mk (st := s_UnknownName___init__) l_UnknownName___init__ cc_UnknownName___init__ kk_UnknownName___init__
  have F_BadGrammar___init__ := fun_mk (st := s_BadGrammar___init__) l_BadGrammar___init__ cc_BadGrammar___init__ kk_BadGrammar___init__
  have F_BadTree___init__ := fun_mk (st := s_BadTree___init__) l_BadTree___init__ cc_BadTree___init__ kk_BadTree___init__
  have F_Tree___iter__ := fun_mk (st := s_Tree___iter__) l_Tree___iter__ cc_Tree___iter__ kk_Tree___iter__
  have F__law_read_r4 := fun_mk (st := s__law_read_r4) l__law_read_r4 cc__law_read_r4 kk__law_read_r4
  have F__law_count_r4 := fun_mk (st := s__law_count_r4) l__law_count_r4 cc__law_count_r4 kk__law_count_r4
  have F_Tree_least_r4 := fun_mk (st := s_Tree_least_r4) l_Tree_least_r4 cc_Tree_least_r4 kk_Tree_least_r4
  have F__law_names := fun_mk (st := s__law_names) l__law_names cc__law_names kk__law_names
  have F__law_count_r3 := fun_mk (st := s__law_count_r3) l__law_count_r3 cc__law_count_r3 kk__law_count_r3
  have F__check_fields := fun_mk (st := s__check_fields) l__check_fields cc__check_fields kk__check_fields
  have F__check_kinds := fun_mk (st := s__check_kinds) l__check_kinds cc__check_kinds kk__check_kinds
  have F__law_kinds := fun_mk (st := s__law_kinds) l__law_kinds cc__law_kinds kk__law_kinds
  have F_Grammar_kinds_of := fun_mk (st := s_Grammar_kinds_of) l_Grammar_kinds_of cc_Grammar_kinds_of kk_Grammar_kinds_of
  have F_Grammar__check_kind := fun_mk (st := s_Grammar__check_kind) l_Grammar__check_kind cc_Grammar__check_kind kk_Grammar__check_kind
  have F__law_read_r3 := fun_mk (st := s__law_read_r3) l__law_read_r3 cc__law_read_r3 kk__law_read_r3
  have F__law_count_r2 := fun_mk (st := s__law_count_r2) l__law_count_r2 cc__law_count_r2 kk__law_count_r2
  have F_Grammar___init__ := fun_mk (st := s_Grammar___init__) l_Grammar___init__ cc_Grammar___init__ kk_Grammar___init__
  have F_Grammar_family_of := fun_mk (st := s_Grammar_family_of) l_Grammar_family_of cc_Grammar_family_of kk_Grammar_family_of
  have F_Grammar_children_of := fun_mk (st := s_Grammar_children_of) l_Grammar_children_of cc_Grammar_children_of kk_Grammar_children_of
  have F_Grammar_kind_size := fun_mk (st := s_Grammar_kind_size) l_Grammar_kind_size cc_Grammar_kind_size kk_Grammar_kind_size
  have F_Grammar_least_size := fun_mk (st := s_Grammar_least_size) l_Grammar_least_size cc_Grammar_least_size kk_Grammar_least_size
  have F__law_read_r2 := fun_mk (st := s__law_read_r2) l__law_read_r2 cc__law_read_r2 kk__law_read_r2
  have F__law_count_r1 := fun_mk (st := s__law_count_r1) l__law_count_r1 cc__law_count_r1 kk__law_count_r1
  have F__law_count := fun_mk (st := s__law_count) l__law_count cc__law_count kk__law_count
  have F_Tree___init__ := fun_mk (st := s_Tree___init__) l_Tree___init__ cc_Tree___init__ kk_Tree___init__
  have F__law_read_r1 := fun_mk (st := s__law_read_r1) l__law_read_r1 cc__law_read_r1 kk__law_read_r1
  have F__law_read := fun_mk (st := s__law_read) l__law_read cc__law_read kk__law_read
  have F_Tree_least_r3 := fun_mk (st := s_Tree_least_r3) l_Tree_least_r3 cc_Tree_least_r3 kk_Tree_least_r3
  have F_Tree_least_r2 := fun_mk (st := s_Tree_least_r2) l_Tree_least_r2 cc_Tree_least_r2 kk_Tree_least_r2
  have F_Tree_least_r1 := fun_mk (st := s_Tree_least_r1) l_Tree_least_r1 cc_Tree_least_r1 kk_Tree_least_r1
  have F_Tree_least := fun_mk (st := s_Tree_least) l_Tree_least cc_Tree_least kk_Tree_least
  have F__law_sized := fun_mk (st := s__law_sized) l__law_sized cc__law_sized kk__law_sized
  have F__law_stranger := fun_mk (st := s__law_stranger) l__law_stranger cc__law_stranger kk__law_stranger
  have F_law := fun_mk (st := s_law) l_law cc_law kk_law
  have b__in_order := F__in_order.binds (ps := ["names"]) fun _ _ _ _ _ _ us hl => match us, hl with | [_], _ => rfl
  have b__least_sizes := F__least_sizes.binds (ps := ["rows"]) fun _ _ _ _ _ _ us hl => match us, hl with | [_], _ => rfl
  have b__law_source := F__law_source.binds (ps := ["_law_script"]) fun _ _ _ _ _ _ us hl => match us, hl with | [_], _ => rfl
  have b__law_draw := F__law_draw.binds (ps := ["_law_source_here", "_law_many"]) fun _ _ _ _ _ _ us hl => match us, hl with | [_, _], _ => rfl
  have b__law_by_depth := F__law_by_depth.binds (ps := ["_law_kinds_here", "_law_families", "_law_depth"]) fun _ _ _ _ _ _ us hl => match us, hl with | [_, _, _], _ => rfl
  have b__law_whole := F__law_whole.binds (ps := ["_law_actual", "_law_due"]) fun _ _ _ _ _ _ us hl => match us, hl with | [_, _], _ => rfl
  have b_LimitExceeded___init__ := F_LimitExceeded___init__.binds (ps := ["self", "limit"]) fun _ _ _ _ _ _ us hl => match us, hl with | [_, _], _ => rfl
  have b_UnknownName___init__ := F_UnknownName___init__.binds (ps := ["self", "name"]) fun _ _ _ _ _ _ us hl => match us, hl with | [_, _], _ => rfl
  have b_BadGrammar___init__ := F_BadGrammar___init__.binds (ps := ["self", "part"]) fun _ _ _ _ _ _ us hl => match us, hl with | [_, _], _ => rfl
  have b_BadTree___init__ := F_BadTree___init__.binds (ps := ["self", "path"]) fun _ _ _ _ _ _ us hl => match us, hl with | [_, _], _ => rfl
  have b_Tree___iter__ := F_Tree___iter__.binds (ps := ["self"]) fun _ _ _ _ _ _ us hl => match us, hl with | [_], _ => rfl
  have b__law_read_r4 := F__law_read_r4.binds (ps := ["_law_tree"]) fun _ _ _ _ _ _ us hl => match us, hl with | [_], _ => rfl
  have b__law_count_r4 := F__law_count_r4.binds (ps := ["_law_kinds_here", "_law_family", "_law_node"]) fun _ _ _ _ _ _ us hl => match us, hl with | [_, _, _], _ => rfl
  have b_Tree_least_r4 := F_Tree_least_r4.binds (ps := ["grammar", "family"]) fun _ _ _ _ _ _ us hl => match us, hl with | [_, _], _ => rfl
  have b__law_names := F__law_names.binds (ps := ["_law_source_here", "_law_count_here"]) fun _ _ _ _ _ _ us hl => match us, hl with | [_, _], _ => rfl
  have b__law_count_r3 := F__law_count_r3.binds (ps := ["_law_kinds_here", "_law_family", "_law_node"]) fun _ _ _ _ _ _ us hl => match us, hl with | [_, _, _], _ => rfl
  have b__check_fields := F__check_fields.binds (ps := ["fields"]) fun _ _ _ _ _ _ us hl => match us, hl with | [_], _ => rfl
  have b__check_kinds := F__check_kinds.binds (ps := ["rows", "families"]) fun _ _ _ _ _ _ us hl => match us, hl with | [_, _], _ => rfl
  have b__law_kinds := F__law_kinds.binds (ps := ["_law_source_here", "_law_families", "_law_extra", "_law_width"]) fun _ _ _ _ _ _ us hl => match us, hl with | [_, _, _, _], _ => rfl
  have b_Grammar_kinds_of := F_Grammar_kinds_of.binds (ps := ["self", "family"]) fun _ _ _ _ _ _ us hl => match us, hl with | [_, _], _ => rfl
  have b_Grammar__check_kind := F_Grammar__check_kind.binds (ps := ["self", "kind"]) fun _ _ _ _ _ _ us hl => match us, hl with | [_, _], _ => rfl
  have b__law_read_r3 := F__law_read_r3.binds (ps := ["_law_tree"]) fun _ _ _ _ _ _ us hl => match us, hl with | [_], _ => rfl
  have b__law_count_r2 := F__law_count_r2.binds (ps := ["_law_kinds_here", "_law_family", "_law_node"]) fun _ _ _ _ _ _ us hl => match us, hl with | [_, _, _], _ => rfl
  have FD_Grammar___init__ : FunD K "__init__" "Grammar.__init__" (defArgs s_Grammar___init__) (defBody s_Grammar___init__) (defScope s_Grammar___init__) [] [("root", V.non)] m_Grammar___init__ _ := ⟨⟨_, _, .none, .ref kd_Grammar___init__, _, _, _, _, _, _, rfl, l_Grammar___init__, cc_Grammar___init__, .inl ⟨rfl, rfl⟩, .inr ⟨_, rfl, fun z hz => ⟨.none, by rw [List.mem_singleton.mp hz]; exact kr_Grammar___init__, by rw [List.mem_singleton.mp hz]; rfl⟩⟩⟩, kk_Grammar___init__⟩
  obtain ⟨ds_Grammar___init__, v_Grammar___init__, b_Grammar___init__⟩ := FD_Grammar___init__.binds0 (ps := ["self", "fields", "kinds", "root"]) 3 (by simp) rfl fun _ _ _ _ _ _ us ks h1 h2 => match us, h1, ks, h2 with | [_, _, _], _, [_], _ => ⟨_, _, _, _, _, _, rfl, rfl, rfl⟩
  obtain ⟨mv_Grammar___init__, kb_Grammar___init__⟩ := FD_Grammar___init__.kbinds0 (ps := ["self", "fields", "kinds", "root"]) 3 ["root"] [] (fun a _ c => a ++ c) (by simp) (fun _ h => nomatch h) (fun a _ c => a.append c) fun _ _ _ _ _ _ us mv ws h1 h2 h3 => match us, h1, mv, h2, ws, h3 with | [_, _, _], _, [], _, [_], _ => rfl
  have b_Grammar_family_of := F_Grammar_family_of.binds (ps := ["self", "kind"]) fun _ _ _ _ _ _ us hl => match us, hl with | [_, _], _ => rfl
  have b_Grammar_children_of := F_Grammar_children_of.binds (ps := ["self", "kind"]) fun _ _ _ _ _ _ us hl => match us, hl with | [_, _], _ => rfl
  have b_Grammar_kind_size := F_Grammar_kind_size.binds (ps := ["self", "kind"]) fun _ _ _ _ _ _ us hl => match us, hl with | [_, _], _ => rfl
  have b_Grammar_least_size := F_Grammar_least_size.binds (ps := ["self", "family"]) fun _ _ _ _ _ _ us hl => match us, hl with | [_, _], _ => rfl
  have b__law_read_r2 := F__law_read_r2.binds (ps := ["_law_tree"]) fun _ _ _ _ _ _ us hl => match us, hl with | [_], _ => rfl
  have b__law_count_r1 := F__law_count_r1.binds (ps := ["_law_kinds_here", "_law_family", "_law_node"]) fun _ _ _ _ _ _ us hl => match us, hl with | [_, _, _], _ => rfl
  have b__law_count := F__law_count.binds (ps := ["_law_kinds_here", "_law_family", "_law_node"]) fun _ _ _ _ _ _ us hl => match us, hl with | [_, _, _], _ => rfl
  have b__law_read_r1 := F__law_read_r1.binds (ps := ["_law_tree"]) fun _ _ _ _ _ _ us hl => match us, hl with | [_], _ => rfl
  have b__law_read := F__law_read.binds (ps := ["_law_tree"]) fun _ _ _ _ _ _ us hl => match us, hl with | [_], _ => rfl
  have b_Tree_least_r3 := F_Tree_least_r3.binds (ps := ["grammar", "family"]) fun _ _ _ _ _ _ us hl => match us, hl with | [_, _], _ => rfl
  have b_Tree_least_r2 := F_Tree_least_r2.binds (ps := ["grammar", "family"]) fun _ _ _ _ _ _ us hl => match us, hl with | [_, _], _ => rfl
  have b_Tree_least_r1 := F_Tree_least_r1.binds (ps := ["grammar", "family"]) fun _ _ _ _ _ _ us hl => match us, hl with | [_, _], _ => rfl
  have b_Tree_least := F_Tree_least.binds (ps := ["grammar", "family"]) fun _ _ _ _ _ _ us hl => match us, hl with | [_, _], _ => rfl
  have b__law_sized := F__law_sized.binds (ps := ["_law_grammar", "_law_kinds_here", "_law_families", "_law_sizes"]) fun _ _ _ _ _ _ us hl => match us, hl with | [_, _, _, _], _ => rfl
  have b__law_stranger := F__law_stranger.binds (ps := ["_law_grammar"]) fun _ _ _ _ _ _ us hl => match us, hl with | [_], _ => rfl
  have Ds : Defs K ⟨c_LimitExceeded, c_UnknownName, c_BadGrammar, c_BadTree, c_Tree, c_Grammar, f__in_order, f__least_sizes, f__law_source, f__law_draw, f__law_by_depth, f__law_whole, m_LimitExceeded___init__, m_UnknownName___init__, m_BadGrammar___init__, m_BadTree___init__, m_Tree___iter__, f__law_read_r4, f__law_count_r4, m_Tree_least_r4, f__law_names, f__law_count_r3, f__check_fields, f__check_kinds, f__law_kinds, m_Grammar_kinds_of, m_Grammar__check_kind, f__law_read_r3, f__law_count_r2, m_Grammar___init__, m_Grammar_family_of, m_Grammar_children_of, m_Grammar_kind_size, m_Grammar_least_size, f__law_read_r2, f__law_count_r1, f__law_count, m_Tree___init__, f__law_read_r1, f__law_read, m_Tree_least_r3, m_Tree_least_r2, m_Tree_least_r1, m_Tree_least, f__law_sized, f__law_stranger, fa, q_Tree_least_r4, q_Tree_least_r3, q_Tree_least_r2, q_Tree_least_r1, q_Tree_least⟩ := { fu__in_order := ⟨_, F__in_order, b__in_order⟩, fu__least_sizes := ⟨_, F__least_sizes, b__least_sizes⟩, fu__law_source := ⟨_, F__law_source, b__law_source⟩, fu__law_draw := ⟨_, F__law_draw, b__law_draw⟩, fu__law_by_depth := ⟨_, F__law_by_depth, b__law_by_depth⟩, fu__law_whole := ⟨_, F__law_whole, b__law_whole⟩, fu_LimitExceeded___init__ := ⟨_, F_LimitExceeded___init__, b_LimitExceeded___init__⟩, fu_UnknownName___init__ := ⟨_, F_UnknownName___init__, b_UnknownName___init__⟩, fu_BadGrammar___init__ := ⟨_, F_BadGrammar___init__, b_BadGrammar___init__⟩, fu_BadTree___init__ := ⟨_, F_BadTree___init__, b_BadTree___init__⟩, fu_Tree___iter__ := ⟨_, F_Tree___iter__, b_Tree___iter__⟩, fu__law_read_r4 := ⟨_, F__law_read_r4, b__law_read_r4⟩, fu__law_count_r4 := ⟨_, F__law_count_r4, b__law_count_r4⟩, fu_Tree_least_r4 := ⟨_, F_Tree_least_r4, b_Tree_least_r4⟩, fu__law_names := ⟨_, F__law_names, b__law_names⟩, fu__law_count_r3 := ⟨_, F__law_count_r3, b__law_count_r3⟩, fu__check_fields := ⟨_, F__check_fields, b__check_fields⟩, fu__check_kinds := ⟨_, F__check_kinds, b__check_kinds⟩, fu__law_kinds := ⟨_, F__law_kinds, b__law_kinds⟩, fu_Grammar_kinds_of := ⟨_, F_Grammar_kinds_of, b_Grammar_kinds_of⟩, fu_Grammar__check_kind := ⟨_, F_Grammar__check_kind, b_Grammar__check_kind⟩, fu__law_read_r3 := ⟨_, F__law_read_r3, b__law_read_r3⟩, fu__law_count_r2 := ⟨_, F__law_count_r2, b__law_count_r2⟩, fu_Grammar___init__ := ⟨_, _, F_Grammar___init__, v_Grammar___init__, b_Grammar___init__, kb_Grammar___init__⟩, fu_Grammar_family_of := ⟨_, F_Grammar_family_of, b_Grammar_family_of⟩, fu_Grammar_children_of := ⟨_, F_Grammar_children_of, b_Grammar_children_of⟩, fu_Grammar_kind_size := ⟨_, F_Grammar_kind_size, b_Grammar_kind_size⟩, fu_Grammar_least_size := ⟨_, F_Grammar_least_size, b_Grammar_least_size⟩, fu__law_read_r2 := ⟨_, F__law_read_r2, b__law_read_r2⟩, fu__law_count_r1 := ⟨_, F__law_count_r1, b__law_count_r1⟩, fu__law_count := ⟨_, F__law_count, b__law_count⟩, fu_Tree___init__ := ⟨_, F_Tree___init__⟩, fu__law_read_r1 := ⟨_, F__law_read_r1, b__law_read_r1⟩, fu__law_read := ⟨_, F__law_read, b__law_read⟩, fu_Tree_least_r3 := ⟨_, F_Tree_least_r3, b_Tree_least_r3⟩, fu_Tree_least_r2 := ⟨_, F_Tree_least_r2, b_Tree_least_r2⟩, fu_Tree_least_r1 := ⟨_, F_Tree_least_r1, b_Tree_least_r1⟩, fu_Tree_least := ⟨_, F_Tree_least, b_Tree_least⟩, fu__law_sized := ⟨_, F__law_sized, b__law_sized⟩, fu__law_stranger := ⟨_, F__law_stranger, b__law_stranger⟩ }
  exact ⟨_, fun s v => .of_eq rfl, fun base _ _ => all_ok T Ds F_law⟩

theorem reps_int {K : PySem.W.Frag} {F : Hp} : ∀ ns : List Int, Reps K F (ns.map V.int) (ns.map D.int)
  | [] => .nil
  | n :: ns => .cons (.int n) (reps_int ns)
theorem sp_start {K : PySem.W.Frag} {H : Hp} {a : Addr} {ns : List Int} (hl : ns.length ≤ 63) (hS : SqL K H a (ns.map V.int)) : spOf K lawSp [.ref a] H (fun v _ => v = .bl true) fun _ _ _ => False :=
  ⟨fun _ => none, [], H, [.rol (ns.map .int)], fun d _ => d = .bl true, fun _ _ _ => False, ⟨fun a o e => .inl e, fun a o e => (nomatch e), fun a m hm => (nomatch hm), List.nodup_nil⟩, .cons (.rol hS (reps_int ns)) .nil,
    ⟨ns, rfl, hl, List.nodup_nil, fun _ => rfl⟩, fun d M' F' v H' e s S r => by subst e; cases r; rfl, fun _ _ _ _ _ z => z.elim⟩
end Q
open PySem PySem.W PyProof.Rows
set_option maxRecDepth 100000 in
set_option maxHeartbeats 0 in
theorem PySem.Challenge.cw_fusewalks_k03_least_sizes_holds : PySem.Challenge.rw_fusewalks_k03_least_sizes.Holds := by
  w_on; o_law; k_head; (case hw => w_witness2)
  k_fill
  refine L2.walk_of (l := PySem.Challenge.rw_fusewalks_k03_least_sizes) (n := 63) (k := 12) (x := "_law_script") (CX := fun w => L2.CX PySem.Challenge.rw_fusewalks_k03_least_sizes.prog w) (sp := fun w => @DL.spOf ⟨w⟩ _ Q.lawSp) rfl (by decide) rfl ⟨rfl, by decide, by decide⟩ (fun w h Y => PySem.W.kIn_of Y) ?F (fun w _ a ns hl _ hS => @Q.sp_start ⟨w⟩ _ _ _ _ hl hS) fun _ _ _ _ _ z => by obtain ⟨_, _, _, _, _, _, _, _, _, _, _, _, z⟩ := z; exact z
  case F =>
    intro w mg fa h KX G hmg
    letI : DL.Wd := ⟨w⟩
    refine' Q.all_mk KX G hmg ?h_a_LimitExceeded ?h_a_UnknownName ?h_a_BadGrammar ?h_a_BadTree ?h_a_Tree ?h_a_Grammar ?h_a__in_order ?h_l__in_order ?h_cc__in_order ?h_kk__in_order ?h_a__least_sizes ?h_l__least_sizes ?h_cc__least_sizes ?h_kk__least_sizes ?h_a__law_source ?h_l__law_source ?h_cc__law_source ?h_kk__law_source ?h_a__law_draw ?h_l__law_draw ?h_cc__law_draw ?h_kk__law_draw ?h_a__law_by_depth ?h_l__law_by_depth ?h_cc__law_by_depth ?h_kk__law_by_depth ?h_a__law_whole ?h_l__law_whole ?h_cc__law_whole ?h_kk__law_whole ?h_a_LimitExceeded___init__ ?h_l_LimitExceeded___init__ ?h_cc_LimitExceeded___init__ ?h_kk_LimitExceeded___init__ ?h_a_UnknownName___init__ ?h_l_UnknownName___init__ ?h_cc_UnknownName___init__ ?h_kk_UnknownName___init__ ?h_a_BadGrammar___init__ ?h_l_BadGrammar___init__ ?h_cc_BadGrammar___init__ ?h_kk_BadGrammar___init__ ?h_a_BadTree___init__ ?h_l_BadTree___init__ ?h_cc_BadTree___init__ ?h_kk_BadTree___init__ ?h_a_Tree___iter__ ?h_l_Tree___iter__ ?h_cc_Tree___iter__ ?h_kk_Tree___iter__ ?h_a__law_read_r4 ?h_l__law_read_r4 ?h_cc__law_read_r4 ?h_kk__law_read_r4 ?h_a__law_count_r4 ?h_l__law_count_r4 ?h_cc__law_count_r4 ?h_kk__law_count_r4 ?h_sm_Tree_least_r4 ?h_sr_Tree_least_r4 ?h_l_Tree_least_r4 ?h_cc_Tree_least_r4 ?h_kk_Tree_least_r4 ?h_a__law_names ?h_l__law_names ?h_cc__law_names ?h_kk__law_names ?h_a__law_count_r3 ?h_l__law_count_r3 ?h_cc__law_count_r3 ?h_kk__law_count_r3 ?h_a__check_fields ?h_l__check_fields ?h_cc__check_fields ?h_kk__check_fields ?h_a__check_kinds ?h_l__check_kinds ?h_cc__check_kinds ?h_kk__check_kinds ?h_a__law_kinds ?h_l__law_kinds ?h_cc__law_kinds ?h_kk__law_kinds ?h_a_Grammar_kinds_of ?h_l_Grammar_kinds_of ?h_cc_Grammar_kinds_of ?h_kk_Grammar_kinds_of ?h_a_Grammar__check_kind ?h_l_Grammar__check_kind ?h_cc_Grammar__check_kind ?h_kk_Grammar__check_kind ?h_a__law_read_r3 ?h_l__law_read_r3 ?h_cc__law_read_r3 ?h_kk__law_read_r3 ?h_a__law_count_r2 ?h_l__law_count_r2 ?h_cc__law_count_r2 ?h_kk__law_count_r2 ?h_a_Grammar___init__ ?h_l_Grammar___init__ ?h_cc_Grammar___init__ ?h_kk_Grammar___init__ ?h_kr_Grammar___init__ ?h_a_Grammar_family_of ?h_l_Grammar_family_of ?h_cc_Grammar_family_of ?h_kk_Grammar_family_of ?h_a_Grammar_children_of ?h_l_Grammar_children_of ?h_cc_Grammar_children_of ?h_kk_Grammar_children_of ?h_a_Grammar_kind_size ?h_l_Grammar_kind_size ?h_cc_Grammar_kind_size ?h_kk_Grammar_kind_size ?h_a_Grammar_least_size ?h_l_Grammar_least_size ?h_cc_Grammar_least_size ?h_kk_Grammar_least_size ?h_a__law_read_r2 ?h_l__law_read_r2 ?h_cc__law_read_r2 ?h_kk__law_read_r2 ?h_a__law_count_r1 ?h_l__law_count_r1 ?h_cc__law_count_r1 ?h_kk__law_count_r1 ?h_a__law_count ?h_l__law_count ?h_cc__law_count ?h_kk__law_count ?h_a_Tree___init__ ?h_l_Tree___init__ ?h_cc_Tree___init__ ?h_kk_Tree___init__ ?h_a__law_read_r1 ?h_l__law_read_r1 ?h_cc__law_read_r1 ?h_kk__law_read_r1 ?h_a__law_read ?h_l__law_read ?h_cc__law_read ?h_kk__law_read ?h_sm_Tree_least_r3 ?h_sr_Tree_least_r3 ?h_l_Tree_least_r3 ?h_cc_Tree_least_r3 ?h_kk_Tree_least_r3 ?h_sm_Tree_least_r2 ?h_sr_Tree_least_r2 ?h_l_Tree_least_r2 ?h_cc_Tree_least_r2 ?h_kk_Tree_least_r2 ?h_sm_Tree_least_r1 ?h_sr_Tree_least_r1 ?h_l_Tree_least_r1 ?h_cc_Tree_least_r1 ?h_kk_Tree_least_r1 ?h_sm_Tree_least ?h_sr_Tree_least ?h_l_Tree_least ?h_cc_Tree_least ?h_kk_Tree_least ?h_a__law_sized ?h_l__law_sized ?h_cc__law_sized ?h_kk__law_sized ?h_a__law_stranger ?h_l__law_stranger ?h_cc__law_stranger ?h_kk__law_stranger ?h_a_law ?h_l_law ?h_cc_law ?h_kk_law ?h_x_LimitExceeded ?h_sa_LimitExceeded ?h_hs_LimitExceeded ?h_ht_LimitExceeded ?h_hk_LimitExceeded ?h_ti_LimitExceeded ?h_hd_LimitExceeded ?h_x_UnknownName ?h_sa_UnknownName ?h_hs_UnknownName ?h_ht_UnknownName ?h_hk_UnknownName ?h_ti_UnknownName ?h_hd_UnknownName ?h_x_BadGrammar ?h_sa_BadGrammar ?h_hs_BadGrammar ?h_ht_BadGrammar ?h_hk_BadGrammar ?h_ti_BadGrammar ?h_hd_BadGrammar ?h_x_BadTree ?h_sa_BadTree ?h_hs_BadTree ?h_ht_BadTree ?h_hk_BadTree ?h_ti_BadTree ?h_hd_BadTree ?h_pg_Tree ?h_hd_Tree ?h_po_Tree ?h_sa_Tree ?h_mk_Tree ?h_hk_Tree ?h_if_Tree___init__ ?h_rd_Tree ?h_ga_Tree ?h_if_Tree___iter__ ?h_sf_Tree ?h_pg_Grammar ?h_hd_Grammar ?h_po_Grammar ?h_sa_Grammar ?h_mk_Grammar ?h_hk_Grammar ?h_if_Grammar___init__ ?h_if_Grammar_kinds_of ?h_if_Grammar__check_kind ?h_if_Grammar_family_of ?h_if_Grammar_children_of ?h_if_Grammar_kind_size ?h_if_Grammar_least_size ?h_co_Tree_MOST_NODES ?h_co_Tree_MOST_DEPTH ?h_fo_Tree__children ?h_fo_Tree_depth ?h_fo_Tree_family ?h_fo_Tree_kind ?h_fo_Tree_size ?h_rd_Grammar ?h_ga_Grammar ?h_co_Grammar_MOST_FIELDS ?h_co_Grammar_MOST_KINDS ?h_co_Grammar_MOST_CHILDREN ?h_co_Grammar_MOST_FAMILIES ?h_fo_Grammar__children ?h_fo_Grammar__families ?h_fo_Grammar__sizes ?h_fo_Grammar_families ?h_fo_Grammar_fields ?h_fo_Grammar_kinds ?h_fo_Grammar_root ?h_oc_get ?h_oc_tk ?h_nf_LimitExceeded_limit ?h_eg_LimitExceeded ?h_eh_LimitExceeded ?h_ea_LimitExceeded ?h_eo_LimitExceeded ?h_su_LimitExceeded_UnknownName ?h_nf_UnknownName_name ?h_eg_UnknownName ?h_eh_UnknownName ?h_ea_UnknownName ?h_eo_UnknownName ?h_su_UnknownName_UnknownName ?h_nf_BadGrammar_part ?h_eg_BadGrammar ?h_eh_BadGrammar ?h_ea_BadGrammar ?h_eo_BadGrammar ?h_su_BadGrammar_UnknownName ?h_nf_BadTree_path ?h_eg_BadTree ?h_eh_BadTree ?h_ea_BadTree ?h_eo_BadTree ?h_su_BadTree_UnknownName ?h_z_all ?h_z_any ?h_z_bool ?h_z_enumerate ?h_z_int ?h_z_isinstance ?h_z_iter ?h_z_len ?h_z_list ?h_z_max ?h_z_min ?h_z_range ?h_z_sum ?h_z_tuple
    (case h_a_LimitExceeded => k_is)
    (case h_a_UnknownName => k_is)
    (case h_a_BadGrammar => k_is)
    (case h_a_BadTree => k_is)
    (case h_a_Tree => k_is)
    (case h_a_Grammar => k_is)
    (case h_a__in_order => k_is)
    (case h_l__in_order => k_is)
    (case h_cc__in_order => k_is)
    (case h_kk__in_order => k_is)
    (case h_a__least_sizes => k_is)
    (case h_l__least_sizes => k_is)
    (case h_cc__least_sizes => k_is)
    (case h_kk__least_sizes => k_is)
    (case h_a__law_source => k_is)
    (case h_l__law_source => k_is)
    (case h_cc__law_source => k_is)
    (case h_kk__law_source => k_is)
    (case h_a__law_draw => k_is)
    (case h_l__law_draw => k_is)
    (case h_cc__law_draw => k_is)
    (case h_kk__law_draw => k_is)
    (case h_a__law_by_depth => k_is)
    (case h_l__law_by_depth => k_is)
    (case h_cc__law_by_depth => k_is)
    (case h_kk__law_by_depth => k_is)
    (case h_a__law_whole => k_is)
    (case h_l__law_whole => k_is)
    (case h_cc__law_whole => k_is)
    (case h_kk__law_whole => k_is)
    (case h_a_LimitExceeded___init__ => k_is)
    (case h_l_LimitExceeded___init__ => k_is)
    (case h_cc_LimitExceeded___init__ => k_is)
    (case h_kk_LimitExceeded___init__ => k_is)
    (case h_a_UnknownName___init__ => k_is)
    (case h_l_UnknownName___init__ => k_is)
    (case h_cc_UnknownName___init__ => k_is)
    (case h_kk_UnknownName___init__ => k_is)
    (case h_a_BadGrammar___init__ => k_is)
    (case h_l_BadGrammar___init__ => k_is)
    (case h_cc_BadGrammar___init__ => k_is)
    (case h_kk_BadGrammar___init__ => k_is)
    (case h_a_BadTree___init__ => k_is)
    (case h_l_BadTree___init__ => k_is)
    (case h_cc_BadTree___init__ => k_is)
    (case h_kk_BadTree___init__ => k_is)
    (case h_a_Tree___iter__ => k_is)
    (case h_l_Tree___iter__ => k_is)
    (case h_cc_Tree___iter__ => k_is)
    (case h_kk_Tree___iter__ => k_is)
    (case h_a__law_read_r4 => k_is)
    (case h_l__law_read_r4 => k_is)
    (case h_cc__law_read_r4 => k_is)
    (case h_kk__law_read_r4 => k_is)
    (case h_a__law_count_r4 => k_is)
    (case h_l__law_count_r4 => k_is)
    (case h_cc__law_count_r4 => k_is)
    (case h_kk__law_count_r4 => k_is)
    (case h_sm_Tree_least_r4 => k_is)
    (case h_sr_Tree_least_r4 => k_is)
    (case h_l_Tree_least_r4 => k_is)
    (case h_cc_Tree_least_r4 => k_is)
    (case h_kk_Tree_least_r4 => k_is)
    (case h_a__law_names => k_is)
    (case h_l__law_names => k_is)
    (case h_cc__law_names => k_is)
    (case h_kk__law_names => k_is)
    (case h_a__law_count_r3 => k_is)
    (case h_l__law_count_r3 => k_is)
    (case h_cc__law_count_r3 => k_is)
    (case h_kk__law_count_r3 => k_is)
    (case h_a__check_fields => k_is)
    (case h_l__check_fields => k_is)
    (case h_cc__check_fields => k_is)
    (case h_kk__check_fields => k_is)
    (case h_a__check_kinds => k_is)
    (case h_l__check_kinds => k_is)
    (case h_cc__check_kinds => k_is)
    (case h_kk__check_kinds => k_is)
    (case h_a__law_kinds => k_is)
    (case h_l__law_kinds => k_is)
    (case h_cc__law_kinds => k_is)
    (case h_kk__law_kinds => k_is)
    (case h_a_Grammar_kinds_of => k_is)
    (case h_l_Grammar_kinds_of => k_is)
    (case h_cc_Grammar_kinds_of => k_is)
    (case h_kk_Grammar_kinds_of => k_is)
    (case h_a_Grammar__check_kind => k_is)
    (case h_l_Grammar__check_kind => k_is)
    (case h_cc_Grammar__check_kind => k_is)
    (case h_kk_Grammar__check_kind => k_is)
    (case h_a__law_read_r3 => k_is)
    (case h_l__law_read_r3 => k_is)
    (case h_cc__law_read_r3 => k_is)
    (case h_kk__law_read_r3 => k_is)
    (case h_a__law_count_r2 => k_is)
    (case h_l__law_count_r2 => k_is)
    (case h_cc__law_count_r2 => k_is)
    (case h_kk__law_count_r2 => k_is)
    (case h_a_Grammar___init__ => k_is)
    (case h_l_Grammar___init__ => k_is)
    (case h_cc_Grammar___init__ => k_is)
    (case h_kk_Grammar___init__ => k_is)
    (case h_kr_Grammar___init__ => k_is)
    (case h_a_Grammar_family_of => k_is)
    (case h_l_Grammar_family_of => k_is)
    (case h_cc_Grammar_family_of => k_is)
    (case h_kk_Grammar_family_of => k_is)
    (case h_a_Grammar_children_of => k_is)
    (case h_l_Grammar_children_of => k_is)
    (case h_cc_Grammar_children_of => k_is)
    (case h_kk_Grammar_children_of => k_is)
    (case h_a_Grammar_kind_size => k_is)
    (case h_l_Grammar_kind_size => k_is)
    (case h_cc_Grammar_kind_size => k_is)
    (case h_kk_Grammar_kind_size => k_is)
    (case h_a_Grammar_least_size => k_is)
    (case h_l_Grammar_least_size => k_is)
    (case h_cc_Grammar_least_size => k_is)
    (case h_kk_Grammar_least_size => k_is)
    (case h_a__law_read_r2 => k_is)
    (case h_l__law_read_r2 => k_is)
    (case h_cc__law_read_r2 => k_is)
    (case h_kk__law_read_r2 => k_is)
    (case h_a__law_count_r1 => k_is)
    (case h_l__law_count_r1 => k_is)
    (case h_cc__law_count_r1 => k_is)
    (case h_kk__law_count_r1 => k_is)
    (case h_a__law_count => k_is)
    (case h_l__law_count => k_is)
    (case h_cc__law_count => k_is)
    (case h_kk__law_count => k_is)
    (case h_a_Tree___init__ => k_is)
    (case h_l_Tree___init__ => k_is)
    (case h_cc_Tree___init__ => k_is)
    (case h_kk_Tree___init__ => k_is)
    (case h_a__law_read_r1 => k_is)
    (case h_l__law_read_r1 => k_is)
    (case h_cc__law_read_r1 => k_is)
    (case h_kk__law_read_r1 => k_is)
    (case h_a__law_read => k_is)
    (case h_l__law_read => k_is)
    (case h_cc__law_read => k_is)
    (case h_kk__law_read => k_is)
    (case h_sm_Tree_least_r3 => k_is)
    (case h_sr_Tree_least_r3 => k_is)
    (case h_l_Tree_least_r3 => k_is)
    (case h_cc_Tree_least_r3 => k_is)
    (case h_kk_Tree_least_r3 => k_is)
    (case h_sm_Tree_least_r2 => k_is)
    (case h_sr_Tree_least_r2 => k_is)
    (case h_l_Tree_least_r2 => k_is)
    (case h_cc_Tree_least_r2 => k_is)
    (case h_kk_Tree_least_r2 => k_is)
    (case h_sm_Tree_least_r1 => k_is)
    (case h_sr_Tree_least_r1 => k_is)
    (case h_l_Tree_least_r1 => k_is)
    (case h_cc_Tree_least_r1 => k_is)
    (case h_kk_Tree_least_r1 => k_is)
    (case h_sm_Tree_least => k_is)
    (case h_sr_Tree_least => k_is)
    (case h_l_Tree_least => k_is)
    (case h_cc_Tree_least => k_is)
    (case h_kk_Tree_least => k_is)
    (case h_a__law_sized => k_is)
    (case h_l__law_sized => k_is)
    (case h_cc__law_sized => k_is)
    (case h_kk__law_sized => k_is)
    (case h_a__law_stranger => k_is)
    (case h_l__law_stranger => k_is)
    (case h_cc__law_stranger => k_is)
    (case h_kk__law_stranger => k_is)
    (case h_a_law => k_is)
    (case h_l_law => k_is)
    (case h_cc_law => k_is)
    (case h_kk_law => k_is)
    (case h_x_LimitExceeded => k_is)
    (case h_sa_LimitExceeded => k_is)
    (case h_hs_LimitExceeded => k_is)
    (case h_ht_LimitExceeded => k_is)
    (case h_hk_LimitExceeded => k_is)
    (case h_ti_LimitExceeded => k_is)
    (case h_hd_LimitExceeded => k_is)
    (case h_x_UnknownName => k_is)
    (case h_sa_UnknownName => k_is)
    (case h_hs_UnknownName => k_is)
    (case h_ht_UnknownName => k_is)
    (case h_hk_UnknownName => k_is)
    (case h_ti_UnknownName => k_is)
    (case h_hd_UnknownName => k_is)
    (case h_x_BadGrammar => k_is)
    (case h_sa_BadGrammar => k_is)
    (case h_hs_BadGrammar => k_is)
    (case h_ht_BadGrammar => k_is)
    (case h_hk_BadGrammar => k_is)
    (case h_ti_BadGrammar => k_is)
    (case h_hd_BadGrammar => k_is)
    (case h_x_BadTree => k_is)
    (case h_sa_BadTree => k_is)
    (case h_hs_BadTree => k_is)
    (case h_ht_BadTree => k_is)
    (case h_hk_BadTree => k_is)
    (case h_ti_BadTree => k_is)
    (case h_hd_BadTree => k_is)
    (case h_pg_Tree => k_is)
    (case h_hd_Tree => k_is)
    (case h_po_Tree => k_is)
    (case h_sa_Tree => k_is)
    (case h_mk_Tree => k_is)
    (case h_hk_Tree => k_is)
    (case h_if_Tree___init__ => k_is)
    (case h_rd_Tree => k_is)
    (case h_ga_Tree => k_is)
    (case h_if_Tree___iter__ => k_is)
    (case h_sf_Tree => k_is)
    (case h_pg_Grammar => k_is)
    (case h_hd_Grammar => k_is)
    (case h_po_Grammar => k_is)
    (case h_sa_Grammar => k_is)
    (case h_mk_Grammar => k_is)
    (case h_hk_Grammar => k_is)
    (case h_if_Grammar___init__ => k_is)
    (case h_if_Grammar_kinds_of => k_is)
    (case h_if_Grammar__check_kind => k_is)
    (case h_if_Grammar_family_of => k_is)
    (case h_if_Grammar_children_of => k_is)
    (case h_if_Grammar_kind_size => k_is)
    (case h_if_Grammar_least_size => k_is)
    (case h_co_Tree_MOST_NODES => k_is)
    (case h_co_Tree_MOST_DEPTH => k_is)
    (case h_fo_Tree__children => k_is)
    (case h_fo_Tree_depth => k_is)
    (case h_fo_Tree_family => k_is)
    (case h_fo_Tree_kind => k_is)
    (case h_fo_Tree_size => k_is)
    (case h_rd_Grammar => k_is)
    (case h_ga_Grammar => k_is)
    (case h_co_Grammar_MOST_FIELDS => k_is)
    (case h_co_Grammar_MOST_KINDS => k_is)
    (case h_co_Grammar_MOST_CHILDREN => k_is)
    (case h_co_Grammar_MOST_FAMILIES => k_is)
    (case h_fo_Grammar__children => k_is)
    (case h_fo_Grammar__families => k_is)
    (case h_fo_Grammar__sizes => k_is)
    (case h_fo_Grammar_families => k_is)
    (case h_fo_Grammar_fields => k_is)
    (case h_fo_Grammar_kinds => k_is)
    (case h_fo_Grammar_root => k_is)
    (case h_oc_get => k_is)
    (case h_oc_tk => k_is)
    (case h_nf_LimitExceeded_limit => k_is)
    (case h_eg_LimitExceeded => k_is)
    (case h_eh_LimitExceeded => k_is)
    (case h_ea_LimitExceeded => k_is)
    (case h_eo_LimitExceeded => k_is)
    (case h_su_LimitExceeded_UnknownName => first | rfl | k_is)
    (case h_nf_UnknownName_name => k_is)
    (case h_eg_UnknownName => k_is)
    (case h_eh_UnknownName => k_is)
    (case h_ea_UnknownName => k_is)
    (case h_eo_UnknownName => k_is)
    (case h_su_UnknownName_UnknownName => first | rfl | k_is)
    (case h_nf_BadGrammar_part => k_is)
    (case h_eg_BadGrammar => k_is)
    (case h_eh_BadGrammar => k_is)
    (case h_ea_BadGrammar => k_is)
    (case h_eo_BadGrammar => k_is)
    (case h_su_BadGrammar_UnknownName => first | rfl | k_is)
    (case h_nf_BadTree_path => k_is)
    (case h_eg_BadTree => k_is)
    (case h_eh_BadTree => k_is)
    (case h_ea_BadTree => k_is)
    (case h_eo_BadTree => k_is)
    (case h_su_BadTree_UnknownName => first | rfl | k_is)
    (case h_z_all => k_is)
    (case h_z_any => k_is)
    (case h_z_bool => k_is)
    (case h_z_enumerate => k_is)
    (case h_z_int => k_is)
    (case h_z_isinstance => k_is)
    (case h_z_iter => k_is)
    (case h_z_len => k_is)
    (case h_z_list => k_is)
    (case h_z_max => k_is)
    (case h_z_min => k_is)
    (case h_z_range => k_is)
    (case h_z_sum => k_is)
    (case h_z_tuple => k_is)
