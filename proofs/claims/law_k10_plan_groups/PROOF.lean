import PyProof.Rows.All
import Wide.All
import OpenK.AllK
import Wide.FinOn
import HandS.ForMost
import HandS.ForExc
import HandS.Star
import HandS.Wide
import HandS.TupAny
import HandS.TupMul
import HandS.Deep
import HandS.TupLen
import HandS.TupLe
import HandS.IterNext
import KE.KOwnIter
import KE.KOpsOwn
import KE.KCallOwn
import HandS.More
import HandS.ExcInit
import HandS.ExcField
import HandS.ExcIs
import KE.KExcIs
import HandS.TryMany
import HandS.DictComp
import HandS.Small
import HandS.Property
import HandS.ClsMeth
import HandS.MakeKw
import HandS.MakeKwOnly
import HandS.DictTup
import HandS.Style
import HandS.Conv
import HandS.IsInst
import HandS.Codes
import HandS.MethStar
import HandS.GenCall
import HandS.Finally
import HandS.Iter
import HandS.SetFor
import HandS.Text
import KE.GoesEnumKw
import KE.KeyNested
import KE.KDictWalk
import KE.KDictDisplayH
import KE.DataMinMax
import HandS.SortKw
import PySem.Challenge.RW_fusewalks_k10_plan_groups
set_option Elab.async false
set_option linter.all false
set_option maxRecDepth 100000
set_option maxHeartbeats 4000000
namespace DL
open PySem L2

/-- the World that the text runs in -/
class Wd where
  w : World
variable [Wd]
/-! ### data -/
inductive D where
  | non | bl (b : Bool) | int (i : Int) | str (x : Str) | ty (n : String) | ptr (a : Addr)
  | tup (ds : List D) | lst (ds : List D) | rol (ds : List D) | dic (es : List (Key × D)) | dit (es : List (D × D)) | obj (C : Addr) (es : List (Str × D))

def allS {α β : Type} (f : α → Option β) : List α → Option (List β)
  | [] => some []
  | x :: xs => match f x, allS f xs with
    | some y, some ys => some (y :: ys)
    | _, _ => none
/-- a key, nested to a depth: 1 and True are one key -/
def toNK : Nat → D → Option NestedKey
  | _, .non => some .none
  | _, .bl b => some (.num (if b = true then 1 else 0))
  | _, .int i => some (.num i)
  | _, .str x => some (.text x)
  | n + 1, .tup ds => (allS (toNK n) ds).map .tup
  | _, _ => none
/-- a dict whose keys are tuples, nested: each entry by its key, the key's own object and the value -/
def hoN (a : Addr) (xs : List (NestedKey × Addr × Value)) : HO := .ext fun h => xs.length ≤ sizeLine ∧ (a == sysModules) = false ∧ (xs.map (·.1)).Nodup ∧
  ∃ o es ep, h.get? a = some o ∧ o.ExactDict ∧ o.data = .dict es ep ∧ es.toList = xs.map fun x => (⟨x.1.hash Wd.w, .ref x.2.1, x.2.2⟩ : DictEntry)
mutual
/-- the value v stands for the data d, in the frozen part F -/
inductive Rep (K : PySem.W.Frag) (F : Hp) : V → D → Prop
  | non : Rep K F .non .non
  | bl (b : Bool) : Rep K F (.bl b) (.bl b)
  | int (i : Int) : Rep K F (.int i) (.int i)
  | str (x : Str) : Rep K F (.str x) (.str x)
  | ty (n : String) : Rep K F (.ty n) (.ty n)
  | ptr (a : Addr) : Rep K F (.ref a) (.ptr a)
  | tup {a : Addr} {xs : List V} {ds : List D} : F a = some (.tup xs) → Reps K F xs ds → Rep K F (.ref a) (.tup ds)
  | lst {a : Addr} {xs : List V} {ds : List D} : F a = some (.lst xs) → Reps K F xs ds → Rep K F (.ref a) (.lst ds)
  | rol {a : Addr} {xs : List V} {ds : List D} : SqL K F a xs → Reps K F xs ds → Rep K F (.ref a) (.rol ds)
  | dic {a : Addr} {kvs : List (Key × V)} {es : List (Key × D)} : F a = some (.dK kvs) → kvs.map (·.1) = es.map (·.1) → Reps K F (kvs.map (·.2)) (es.map (·.2)) → Rep K F (.ref a) (.dic es)
  | dit {a : Addr} {xs : List (NestedKey × Addr × Value)} {vs : List V} {es : List (D × D)} : F a = some (hoN a xs) → (es.map fun e => toNK 8 e.1) = (xs.map fun x => some x.1) → Reps K F (xs.map fun x => V.ref x.2.1) (es.map (·.1)) → Vals vs (xs.map fun x => x.2.2) → Reps K F vs (es.map (·.2)) → Rep K F (.ref a) (.dit es)
  | obj {a C dx : Addr} {kvs : List (Str × V)} {es : List (Str × D)} : F a = some (.ins C dx kvs) → kvs.map (·.1) = es.map (·.1) → Reps K F (kvs.map (·.2)) (es.map (·.2)) → Rep K F (.ref a) (.obj C es)
inductive Reps (K : PySem.W.Frag) (F : Hp) : List V → List D → Prop
  | nil : Reps K F [] []
  | cons {v : V} {d : D} {xs : List V} {ds : List D} : Rep K F v d → Reps K F xs ds → Reps K F (v :: xs) (d :: ds)
end
theorem sqT_mono {F F' : Hp} {a : Addr} {xs : List V} (s : Same F F') (h : F a = some (.tup xs)) : F' a = some (.tup xs) := s _ _ h
mutual
theorem Rep.mono {K : PySem.W.Frag} {F F' : Hp} (s : Same F F') : ∀ {v : V} {d : D}, Rep K F v d → Rep K F' v d
  | _, _, .non => .non
  | _, _, .bl b => .bl b
  | _, _, .int i => .int i
  | _, _, .str x => .str x
  | _, _, .ty n => .ty n
  | _, _, .ptr a => .ptr a
  | _, _, .tup h r => .tup (sqT_mono s h) (Reps.mono s r)
  | _, _, .lst h r => .lst (s _ _ h) (Reps.mono s r)
  | _, _, .rol h r => .rol (s.seq h) (Reps.mono s r)
  | _, _, .dic h l r => .dic (s _ _ h) l (Reps.mono s r)
  | _, _, .dit h l r1 rv r2 => .dit (s _ _ h) l (Reps.mono s r1) rv (Reps.mono s r2)
  | _, _, .obj h l r => .obj (s _ _ h) l (Reps.mono s r)
theorem Reps.mono {K : PySem.W.Frag} {F F' : Hp} (s : Same F F') : ∀ {xs : List V} {ds : List D}, Reps K F xs ds → Reps K F' xs ds
  | _, _, .nil => .nil
  | _, _, .cons r t => .cons (Rep.mono s r) (Reps.mono s t)
end
theorem Reps.length {K : PySem.W.Frag} {F : Hp} : ∀ {xs : List V} {ds : List D}, Reps K F xs ds → xs.length = ds.length
  | _, _, .nil => rfl
  | _, _, .cons _ t => congrArg (· + 1) (Reps.length t)
theorem Reps.append {K : PySem.W.Frag} {F : Hp} : ∀ {xs ys : List V} {ds es : List D}, Reps K F xs ds → Reps K F ys es → Reps K F (xs ++ ys) (ds ++ es)
  | _, _, _, _, .nil, s => s
  | _, _, _, _, .cons r t, s => .cons r (Reps.append t s)
theorem Reps.get {K : PySem.W.Frag} {F : Hp} : ∀ {xs : List V} {ds : List D} {i : Nat} {d : D}, Reps K F xs ds → ds[i]? = some d → ∃ v, xs[i]? = some v ∧ Rep K F v d
  | _, _, _, _, .nil, e => by simp at e
  | _, _, 0, _, .cons r _, e => by simp at e; subst e; exact ⟨_, rfl, r⟩
  | _, _, i + 1, d, .cons _ t, e => by
    obtain ⟨v, h1, h2⟩ := Reps.get (i := i) (d := d) t (by simpa using e)
    exact ⟨v, by simpa using h1, h2⟩
theorem Reps.get' {K : PySem.W.Frag} {F : Hp} : ∀ {xs : List V} {ds : List D} {i : Nat} {v : V}, Reps K F xs ds → xs[i]? = some v → ∃ d, ds[i]? = some d ∧ Rep K F v d
  | _, _, _, _, .nil, e => by simp at e
  | _, _, 0, _, .cons r _, e => by simp at e; subst e; exact ⟨_, rfl, r⟩
  | _, _, i + 1, v, .cons _ t, e => by
    obtain ⟨d, h1, h2⟩ := Reps.get' (i := i) (v := v) t (by simpa using e)
    exact ⟨d, by simpa using h1, h2⟩
theorem Reps.take {K : PySem.W.Frag} {F : Hp} : ∀ {xs : List V} {ds : List D} (n : Nat), Reps K F xs ds → Reps K F (xs.take n) (ds.take n)
  | _, _, 0, _ => .nil
  | _, _, _ + 1, .nil => .nil
  | _, _, n + 1, .cons r t => .cons r (Reps.take n t)
theorem Reps.drop {K : PySem.W.Frag} {F : Hp} : ∀ {xs : List V} {ds : List D} (n : Nat), Reps K F xs ds → Reps K F (xs.drop n) (ds.drop n)
  | _, _, 0, r => r
  | _, _, _ + 1, .nil => .nil
  | _, _, n + 1, .cons _ t => Reps.drop n t
theorem Reps.set {K : PySem.W.Frag} {F : Hp} {v : V} {d : D} (r : Rep K F v d) : ∀ {xs : List V} {ds : List D} (i : Nat), Reps K F xs ds → Reps K F (xs.set i v) (ds.set i d)
  | _, _, _, .nil => .nil
  | _, _, 0, .cons _ t => .cons r t
  | _, _, i + 1, .cons q t => .cons q (Reps.set r i t)
theorem Reps.flat {K : PySem.W.Frag} {F : Hp} {xs : List V} {ds : List D} (r : Reps K F xs ds) : ∀ n : Nat, Reps K F (List.replicate n xs).flatten (List.replicate n ds).flatten
  | 0 => .nil
  | n + 1 => by
    rw [List.replicate_succ, List.replicate_succ, List.flatten_cons, List.flatten_cons]
    exact r.append (Reps.flat r n)

/-! ### what changes: by address -/
inductive MO where
  | lst (ds : List D) | dic (es : List (Key × D)) | dit (es : List (D × D)) | obj (C : Addr) (es : List (Str × D)) | xd (es : List (Str × D)) | exd (dx : Addr) (es : List (Str × D)) | raw (o : HO)
abbrev Mem := List (Addr × MO)
abbrev Rho := List (Option D)
/-- the entries of such a dict stand for the data -/
def Ents (K : PySem.W.Frag) (F : Hp) (xs : List (NestedKey × Addr × Value)) (es : List (D × D)) : Prop :=
  ∃ vs, (es.map fun e => toNK 8 e.1) = (xs.map fun x => some x.1) ∧ Reps K F (xs.map fun x => V.ref x.2.1) (es.map (·.1)) ∧ Vals vs (xs.map fun x => x.2.2) ∧ Reps K F vs (es.map (·.2))
theorem Ents.mono {K : PySem.W.Frag} {F F' : Hp} (s : Same F F') {xs : List (NestedKey × Addr × Value)} {es : List (D × D)} (h : Ents K F xs es) : Ents K F' xs es :=
  let ⟨vs, l, r1, rv, r2⟩ := h; ⟨vs, l, r1.mono s, rv, r2.mono s⟩
def RepM (K : PySem.W.Frag) (F : Hp) (a : Addr) (o : HO) : MO → Prop
  | .lst ds => ∃ xs, o = .lst xs ∧ Reps K F xs ds
  | .dic es => ∃ kvs, o = .dK kvs ∧ kvs.map (·.1) = es.map (·.1) ∧ Reps K F (kvs.map (·.2)) (es.map (·.2))
  | .dit es => ∃ xs, o = hoN a xs ∧ Ents K F xs es
  | .obj C es => ∃ dx kvs, o = .ins C dx kvs ∧ kvs.map (·.1) = es.map (·.1) ∧ Reps K F (kvs.map (·.2)) (es.map (·.2))
  | .xd es => ∃ kvs, o = .xd kvs ∧ kvs.map (·.1) = es.map (·.1) ∧ Reps K F (kvs.map (·.2)) (es.map (·.2))
  | .exd dx es => ∃ kvs, o = exd dx kvs ∧ kvs.map (·.1) = es.map (·.1) ∧ Reps K F (kvs.map (·.2)) (es.map (·.2))
  | .raw u => o = u
theorem RepM.mono {K : PySem.W.Frag} {F F' : Hp} (s : Same F F') {a : Addr} {o : HO} {m : MO} (h : RepM K F a o m) : RepM K F' a o m := by
  cases m with
  | lst ds => obtain ⟨xs, e, r⟩ := h; exact ⟨xs, e, r.mono s⟩
  | dic es => obtain ⟨xs, e, l, r⟩ := h; exact ⟨xs, e, l, r.mono s⟩
  | dit es => obtain ⟨xs, e, r⟩ := h; exact ⟨xs, e, r.mono s⟩
  | obj C es => obtain ⟨dx, xs, e, l, r⟩ := h; exact ⟨dx, xs, e, l, r.mono s⟩
  | xd es => obtain ⟨xs, e, l, r⟩ := h; exact ⟨xs, e, l, r.mono s⟩
  | exd dx es => obtain ⟨xs, e, l, r⟩ := h; exact ⟨xs, e, l, r.mono s⟩
  | raw u => exact h

def isDct : HO → Bool
  | .dK _ => true
  | .ext _ => true
  | _ => false
/-- the frozen part stands in the heap; a dict may be locked -/
def SubF (F H : Hp) : Prop := ∀ a o, F a = some o → H a = some o ∨ (isDct o = true ∧ ∃ z, H a = some (.frz z o))
/-- K: the written part; U: what others hold -/
structure G where
  K : PySem.W.Frag
  U : Hp
/-- what others hold is none of the frozen part, but for a dict that is locked -/
def Apart (F : Hp) (a : Addr) (o : HO) : Prop := F a = none ∨ ∃ z u, o = .frz z u ∧ F a = some u ∧ isDct u = true
structure Sta (g : G) (F : Hp) (M : Mem) (H : Hp) : Prop where
  sub : SubF F H
  out : ∀ a o, g.U a = some o → H a = some o ∧ Apart F a o ∧ ∀ m, (a, m) ∉ M
  mem : ∀ a m, (a, m) ∈ M → F a = none ∧ ∃ o, H a = some o ∧ RepM g.K F a o m
  nd : (M.map (·.1)).Nodup
def at_ : Rho → Nat → Option D
  | [], _ => none
  | x :: _, 0 => x
  | _ :: r, n + 1 => at_ r n
def put : Rho → Nat → Option D → Rho
  | [], _, _ => []
  | _ :: r, 0, y => y :: r
  | x :: r, n + 1, y => x :: put r n y
structure Enr (K : PySem.W.Frag) (F : Hp) (σ : L2.St) (ρ : Rho) : Prop where
  len : σ.length = ρ.length
  has : ∀ i d, at_ ρ i = some d → ∃ v, σ[i]? = some (some v) ∧ Rep K F v d
theorem put_length : ∀ (ρ : Rho) (i : Nat) (x : Option D), (put ρ i x).length = ρ.length
  | [], _, _ => rfl
  | _ :: _, 0, _ => rfl
  | _ :: r, n + 1, y => congrArg (· + 1) (put_length r n y)
theorem at_put_same : ∀ (ρ : Rho) (i : Nat) (x : Option D), i < ρ.length → at_ (put ρ i x) i = x
  | [], _, _, h => by simp at h
  | _ :: _, 0, _, _ => rfl
  | _ :: r, n + 1, y, h => at_put_same r n y (by simpa using h)
theorem at_put_ne : ∀ (ρ : Rho) (i j : Nat) (x : Option D), i ≠ j → at_ (put ρ i x) j = at_ ρ j
  | [], _, _, _, _ => rfl
  | _ :: _, 0, 0, _, h => absurd rfl h
  | _ :: _, 0, _ + 1, _, _ => rfl
  | _ :: _, _ + 1, 0, _, _ => rfl
  | _ :: r, n + 1, m + 1, y, h => at_put_ne r n m y (fun e => h (by rw [e]))
theorem at_lt : ∀ {ρ : Rho} {i : Nat} {d : D}, at_ ρ i = some d → i < ρ.length
  | [], _, _, h => by simp [at_] at h
  | _ :: _, 0, _, _ => Nat.succ_pos _
  | _ :: r, n + 1, _, h => Nat.succ_lt_succ (at_lt (ρ := r) h)
theorem Enr.mono {K : PySem.W.Frag} {F F' : Hp} {σ : L2.St} {ρ : Rho} (s : Same F F') (E : Enr K F σ ρ) : Enr K F' σ ρ :=
  ⟨E.len, fun i d h => let ⟨v, a, r⟩ := E.has i d h; ⟨v, a, r.mono s⟩⟩
theorem Enr.set {K : PySem.W.Frag} {F : Hp} {σ : L2.St} {ρ : Rho} (E : Enr K F σ ρ) (i : Nat) {v : V} {d : D} (r : Rep K F v d) : Enr K F (σ.set i (some v)) (put ρ i (some d)) := by
  refine ⟨by rw [List.length_set, put_length]; exact E.len, fun j e h => ?_⟩
  by_cases hij : i = j
  · subst hij
    have hl := at_lt h
    rw [put_length] at hl
    rw [at_put_same _ _ _ hl] at h
    cases h
    exact ⟨v, by rw [List.getElem?_set_self (by rw [E.len]; exact hl)], r⟩
  · rw [at_put_ne _ _ _ _ hij] at h
    obtain ⟨u, a, ru⟩ := E.has j e h
    exact ⟨u, by rw [List.getElem?_set_ne hij]; exact a, ru⟩
theorem Enr.unset {K : PySem.W.Frag} {F : Hp} {σ : L2.St} {ρ : Rho} (E : Enr K F σ ρ) (i : Nat) (x : Option V) : Enr K F (σ.set i x) (put ρ i none) := by
  refine ⟨by rw [List.length_set, put_length]; exact E.len, fun j e h => ?_⟩
  by_cases hij : i = j
  · subst hij
    have hl := at_lt h
    rw [put_length] at hl
    rw [at_put_same _ _ _ hl] at h
    cases h
  · rw [at_put_ne _ _ _ _ hij] at h
    obtain ⟨u, a, ru⟩ := E.has j e h
    exact ⟨u, by rw [List.getElem?_set_ne hij]; exact a, ru⟩

/-! ### what a step of the heap does to a state -/
section
variable {g : G} {F F' : Hp} {M : Mem} {H : Hp} {a : Addr} {o : HO}
theorem SubF.lst {xs : List V} (s : SubF F H) (h : F a = some (.lst xs)) : H a = some (.lst xs) := by
  rcases s a _ h with q | ⟨q, _⟩
  · exact q
  · cases q
theorem SubF.ins {C dx : Addr} {fs : List (Str × V)} (s : SubF F H) (h : F a = some (.ins C dx fs)) : H a = some (.ins C dx fs) := by
  rcases s a _ h with q | ⟨q, _⟩
  · exact q
  · cases q
theorem SubF.dK {kvs : List (Key × V)} (s : SubF F H) (h : F a = some (.dK kvs)) : Rd H a (.dK kvs) := by
  rcases s a _ h with q | ⟨_, z, q⟩
  · exact .inl q
  · exact .inr ⟨z, q⟩
theorem SubF.nk {xs : List (NestedKey × Addr × Value)} (s : SubF F H) (h : F a = some (hoN a xs)) : Rd H a (hoN a xs) := by
  rcases s a _ h with q | ⟨_, z, q⟩
  · exact .inl q
  · exact .inr ⟨z, q⟩
theorem SubF.tup {xs : List V} (s : SubF F H) (h : F a = some (.tup xs)) : H a = some (.tup xs) := by
  rcases s a _ h with q | ⟨q, _⟩
  · exact q
  · cases q
theorem SubF.sqL {K : PySem.W.Frag} {xs : List V} (s : SubF F H) (h : SqL K F a xs) : SqL K H a xs := by
  rcases h with (h | ⟨z, h⟩) | h
  · exact .inl (.inl (s.lst h))
  · refine .inl (.inr ⟨z, ?_⟩)
    rcases s a _ h with q | ⟨q, _⟩
    · exact q
    · cases q
  · exact .inr h
theorem SubF.sqT {K : PySem.W.Frag} {xs : List V} (s : SubF F H) (h : F a = some (.tup xs)) : SqT K H a xs := .of (s.tup h)
theorem SubF.none (s : SubF F H) (h : H a = none) : F a = none := by
  cases q : F a with
  | none => rfl
  | some o =>
    rcases s a o q with e | ⟨_, z, e⟩
    · rw [h] at e; cases e
    · rw [h] at e; cases e
theorem Sta.fresh (S : Sta g F M H) (h : H a = none) : ∀ m, (a, m) ∉ M := fun m hm => by
  obtain ⟨_, o, e, _⟩ := S.mem a m hm
  rw [h] at e; cases e
theorem Apart.ext {F F' : Hp} {a : Addr} {o : HO} (h : Apart F a o) (e : F' a = F a) : Apart F' a o := by
  unfold Apart
  rw [e]
  exact h
/-- a new object, frozen at once -/
theorem Sta.newF (S : Sta g F M H) (h : H a = none) : Same F (upd F a o) ∧ Sta g (upd F a o) M (upd H a o) := by
  have hF := S.sub.none h
  have s : Same F (upd F a o) := fun b u e => by
    rw [upd_ne (ne_of_none e hF)]; exact e
  refine ⟨s, ⟨fun b u e => ?_, fun b u e => ?_, fun b m hm => ?_, S.nd⟩⟩
  · by_cases hb : b = a
    · subst hb
      rw [upd_same] at e ⊢
      exact .inl e
    · rw [upd_ne hb] at e ⊢
      exact S.sub b u e
  · obtain ⟨h1, h2, h3⟩ := S.out b u e
    have hb : b ≠ a := ne_of_none h1 h
    exact ⟨by rw [upd_ne hb]; exact h1, h2.ext (upd_ne hb), h3⟩
  · obtain ⟨h1, u, h2, h3⟩ := S.mem b m hm
    have hb : b ≠ a := ne_of_none h2 h
    exact ⟨by rw [upd_ne hb]; exact h1, u, by rw [upd_ne hb]; exact h2, h3.mono s⟩
/-- a new object that may change -/
theorem Sta.newM (S : Sta g F M H) (h : H a = none) {m : MO} (r : RepM g.K F a o m) : Sta g F ((a, m) :: M) (upd H a o) := by
  have hF := S.sub.none h
  refine ⟨fun b u e => ?_, fun b u e => ?_, fun b n hm => ?_, ?_⟩
  · have hb : b ≠ a := ne_of_none e hF
    rw [upd_ne hb]
    exact S.sub b u e
  · obtain ⟨h1, h2, h3⟩ := S.out b u e
    have hb : b ≠ a := ne_of_none h1 h
    refine ⟨by rw [upd_ne hb]; exact h1, h2, fun n hn => ?_⟩
    rcases List.mem_cons.mp hn with z | z
    · cases z; exact hb rfl
    · exact h3 n z
  · rcases List.mem_cons.mp hm with z | z
    · cases z
      exact ⟨hF, o, upd_same, r⟩
    · obtain ⟨h1, u, h2, h3⟩ := S.mem b n z
      exact ⟨h1, u, by rw [upd_ne (ne_of_none h2 h)]; exact h2, h3⟩
  · refine List.nodup_cons.mpr ⟨fun z => ?_, S.nd⟩
    obtain ⟨q, hq, e⟩ := List.mem_map.mp z
    obtain ⟨b, n⟩ := q
    cases e
    exact S.fresh h n hq
/-- what H grows by is none of ours -/
theorem Sta.grow (S : Sta g F M H) (h : H a = none) : Sta g F M (upd H a o) := by
  have hF := S.sub.none h
  refine ⟨fun b u e => ?_, fun b u e => ?_, fun b n hm => ?_, S.nd⟩
  · rw [upd_ne (ne_of_none e hF)]; exact S.sub b u e
  · obtain ⟨h1, h2, h3⟩ := S.out b u e
    exact ⟨by rw [upd_ne (ne_of_none h1 h)]; exact h1, h2, h3⟩
  · obtain ⟨h1, u, h2, h3⟩ := S.mem b n hm
    exact ⟨h1, u, by rw [upd_ne (ne_of_none h2 h)]; exact h2, h3⟩
end

/-- a frozen dict is locked -/
theorem Sta.lock {K : PySem.W.Frag} {U F : Hp} {M : Mem} {H : Hp} {a : Addr} {u : HO} {z : Obj} (S : Sta ⟨K, U⟩ F M H) (hF : F a = some u) (hd : isDct u = true) (hH : H a = some u) : Sta ⟨K, upd U a (.frz z u)⟩ F M (upd H a (.frz z u)) ∧ U a = none := by
  have hU : U a = none := by
    cases e : U a with
    | none => rfl
    | some o =>
      obtain ⟨h1, h2, _⟩ := S.out a o e
      rcases h2 with h2 | ⟨z', u', h2, h3, h4⟩
      · rw [hF] at h2; cases h2
      · rw [hH] at h1
        cases h1
        subst h2
        rw [hF] at h3
        cases h3
  refine ⟨⟨fun b o e => ?_, fun b o e => ?_, fun b m hm => ?_, S.nd⟩, hU⟩
  · by_cases hb : b = a
    · subst hb
      rw [hF] at e
      cases e
      exact .inr ⟨hd, z, upd_same⟩
    · rw [upd_ne hb]
      exact S.sub b o e
  · by_cases hb : b = a
    · subst hb
      have e' : upd U b (.frz z u) b = some o := e
      rw [upd_same] at e'
      cases e'
      exact ⟨upd_same, .inr ⟨z, u, rfl, hF, hd⟩, fun m hm => by rw [(S.mem b m hm).1] at hF; cases hF⟩
    · have e' : upd U a (.frz z u) b = some o := e
      rw [upd_ne hb] at e'
      obtain ⟨h1, h2, h3⟩ := S.out b o e'
      exact ⟨by rw [upd_ne hb]; exact h1, h2, h3⟩
  · obtain ⟨h1, w, h2, h3⟩ := S.mem b m hm
    have hb : b ≠ a := fun q => by
      subst q
      rw [hF] at h1
      cases h1
    exact ⟨h1, w, by rw [upd_ne hb]; exact h2, h3⟩
theorem Sta.less {K : PySem.W.Frag} {U U' F : Hp} {M : Mem} {H : Hp} (S : Sta ⟨K, U'⟩ F M H) (h : Same U U') : Sta ⟨K, U⟩ F M H := ⟨S.sub, fun b o e => S.out b o (h b o e), S.mem, S.nd⟩

/-- M with n in the place of m at a -/
inductive Upd (a : Addr) (m n : MO) : Mem → Mem → Prop
  | head {r : Mem} : Upd a m n ((a, m) :: r) ((a, n) :: r)
  | tail {p : Addr × MO} {r r' : Mem} : Upd a m n r r' → Upd a m n (p :: r) (p :: r')
inductive Del (a : Addr) (m : MO) : Mem → Mem → Prop
  | head {r : Mem} : Del a m ((a, m) :: r) r
  | tail {p : Addr × MO} {r r' : Mem} : Del a m r r' → Del a m (p :: r) (p :: r')
theorem Upd.old {a : Addr} {m n : MO} : ∀ {M M' : Mem}, Upd a m n M M' → (a, m) ∈ M
  | _, _, .head => List.mem_cons_self
  | _, _, .tail h => List.mem_cons_of_mem _ (Upd.old h)
theorem Upd.keys {a : Addr} {m n : MO} : ∀ {M M' : Mem}, Upd a m n M M' → M'.map (·.1) = M.map (·.1)
  | _, _, .head => rfl
  | _, _, .tail h => by rw [List.map_cons, List.map_cons, Upd.keys h]
theorem Upd.mem {a : Addr} {m n : MO} : ∀ {M M' : Mem} {b : Addr} {x : MO}, Upd a m n M M' → (b, x) ∈ M' → (b = a ∧ x = n) ∨ (b, x) ∈ M
  | _, _, b, x, .head, h => by
    rcases List.mem_cons.mp h with z | z
    · cases z; exact .inl ⟨rfl, rfl⟩
    · exact .inr (List.mem_cons_of_mem _ z)
  | _, _, b, x, .tail u, h => by
    rcases List.mem_cons.mp h with z | z
    · rw [z]; exact .inr List.mem_cons_self
    · rcases Upd.mem u z with q | q
      · exact .inl q
      · exact .inr (List.mem_cons_of_mem _ q)
theorem Del.old {a : Addr} {m : MO} : ∀ {M M' : Mem}, Del a m M M' → (a, m) ∈ M
  | _, _, .head => List.mem_cons_self
  | _, _, .tail h => List.mem_cons_of_mem _ (Del.old h)
theorem Del.mem {a : Addr} {m : MO} : ∀ {M M' : Mem} {p : Addr × MO}, Del a m M M' → p ∈ M' → p ∈ M
  | _, _, _, .head, h => List.mem_cons_of_mem _ h
  | _, _, p, .tail u, h => by
    rcases List.mem_cons.mp h with z | z
    · rw [z]; exact List.mem_cons_self
    · exact List.mem_cons_of_mem _ (Del.mem u z)
theorem Del.sub {a : Addr} {m : MO} : ∀ {M M' : Mem}, Del a m M M' → (M'.map (·.1)).Sublist (M.map (·.1))
  | _, _, .head => List.Sublist.cons _ (List.Sublist.refl _)
  | _, _, .tail u => List.Sublist.cons_cons _ (Del.sub u)
theorem key_unique {M : Mem} (nd : (M.map (·.1)).Nodup) {a : Addr} {m n : MO} (h1 : (a, m) ∈ M) (h2 : (a, n) ∈ M) : m = n := by
  induction M with
  | nil => cases h1
  | cons p r ih =>
    obtain ⟨d1, d2⟩ := List.nodup_cons.mp nd
    rcases List.mem_cons.mp h1 with e1 | e1
    · rcases List.mem_cons.mp h2 with e2 | e2
      · rw [← e1] at e2; cases e2; rfl
      · subst e1
        exact absurd (List.mem_map.mpr ⟨(a, n), e2, rfl⟩) d1
    · rcases List.mem_cons.mp h2 with e2 | e2
      · subst e2
        exact absurd (List.mem_map.mpr ⟨(a, m), e1, rfl⟩) d1
      · exact ih d2 e1 e2
theorem Del.gone {a : Addr} {m : MO} : ∀ {M M' : Mem}, Del a m M M' → (M.map (·.1)).Nodup → ∀ n, (a, n) ∉ M'
  | _, _, .head, nd, n, h => (List.nodup_cons.mp nd).1 (List.mem_map.mpr ⟨(a, n), h, rfl⟩)
  | _, _, .tail (p := p) (r := r) u, nd, n, h => by
    obtain ⟨d1, d2⟩ := List.nodup_cons.mp nd
    rcases List.mem_cons.mp h with z | z
    · have e : p.1 = a := by rw [← z]
      exact d1 (List.mem_map.mpr ⟨(a, m), Del.old u, e.symm⟩)
    · exact Del.gone u d2 n z
section
variable {g : G} {F F' : Hp} {M M' : Mem} {H : Hp} {a : Addr} {o o' : HO} {m n : MO}
/-- the object at a is changed -/
theorem Sta.upd (S : Sta g F M H) (u : Upd a m n M M') (r : RepM g.K F a o n) : Sta g F M' (L2.upd H a o) := by
  obtain ⟨hF, _, hH, _⟩ := S.mem a m u.old
  refine ⟨fun b w e => ?_, fun b w e => ?_, fun b x hx => ?_, by rw [u.keys]; exact S.nd⟩
  · rw [upd_ne (ne_of_none e hF)]
    exact S.sub b w e
  · obtain ⟨h1, h2, h3⟩ := S.out b w e
    have hb : b ≠ a := fun z => by subst z; exact h3 m u.old
    refine ⟨by rw [upd_ne hb]; exact h1, h2, fun x hx => ?_⟩
    rcases u.mem hx with ⟨z, _⟩ | z
    · exact hb z
    · exact h3 x z
  · by_cases hb : b = a
    · subst hb
      have e : x = n := by
        have k : (b, n) ∈ M' := by
          clear r hF hH S hx
          induction u with
          | head => exact List.mem_cons_self
          | tail _ ih => exact List.mem_cons_of_mem _ ih
        exact key_unique (by rw [u.keys]; exact S.nd) hx k
      subst e
      exact ⟨hF, o, upd_same, r⟩
    · rcases u.mem hx with ⟨z, _⟩ | z
      · exact absurd z hb
      · obtain ⟨h1, w, h2, h3⟩ := S.mem b x z
        exact ⟨h1, w, by rw [upd_ne hb]; exact h2, h3⟩
/-- the object at a is frozen -/
theorem Sta.frz (S : Sta g F M H) (u : Del a m M M') (h : H a = some o) : Same F (L2.upd F a o) ∧ Sta g (L2.upd F a o) M' H := by
  obtain ⟨hF, _⟩ := S.mem a m u.old
  have s : Same F (L2.upd F a o) := fun b w e => by rw [upd_ne (ne_of_none e hF)]; exact e
  refine ⟨s, ⟨fun b w e => ?_, fun b w e => ?_, fun b x hx => ?_, S.nd.sublist u.sub⟩⟩
  · by_cases hb : b = a
    · subst hb
      rw [upd_same] at e
      cases e
      exact .inl h
    · rw [upd_ne hb] at e
      exact S.sub b w e
  · obtain ⟨h1, h2, h3⟩ := S.out b w e
    have hb : b ≠ a := fun z => by subst z; exact h3 m u.old
    exact ⟨h1, h2.ext (upd_ne hb), fun x hx => h3 x (u.mem hx)⟩
  · obtain ⟨h1, w, h2, h3⟩ := S.mem b x (u.mem hx)
    have hb : b ≠ a := fun z => by subst z; exact u.gone S.nd x hx
    exact ⟨by rw [upd_ne hb]; exact h1, w, h2, h3.mono s⟩
end
end DL
namespace DL
variable [Wd]
open PySem L2

abbrev XD := Addr → Addr → Mem → Prop
abbrev DE := Rho → Mem → (D → Mem → Prop) → XD → Prop
abbrev DT := Rho → Mem → (Bool → Mem → Prop) → XD → Prop
abbrev DA := Rho → Mem → (List D → Mem → Prop) → XD → Prop
abbrev NX := Rho → Mem → Prop
/-- next, return, break, continue, an exception (its class, its dict) -/
abbrev DS := NX → (D → Mem → Prop) → NX → NX → (Addr → Addr → Rho → Mem → Prop) → Rho → Mem → Prop
abbrev DG := D → Rho → Mem → NX → Prop
abbrev SpD := List D → Mem → (D → Mem → Prop) → XD → Prop

section
variable (g : G) (W : WX)
def liftE (de : DE) : TE := fun σ H k => ∃ ρ M F Q E, Sta g F M H ∧ Enr g.K F σ ρ ∧ de ρ M Q E ∧
  (∀ d M' F' v H', Q d M' → Same F F' → Sta g F' M' H' → Rep g.K F' v d → k v H') ∧ (∀ C dd M' F' H', E C dd M' → Same F F' → Sta g F' M' H' → W (.ref C) (some dd) σ H')
def liftT (dt : DT) : TT := fun σ H k => ∃ ρ M F Q E, Sta g F M H ∧ Enr g.K F σ ρ ∧ dt ρ M Q E ∧
  (∀ b M' F' H', Q b M' → Same F F' → Sta g F' M' H' → k b H') ∧ (∀ C dd M' F' H', E C dd M' → Same F F' → Sta g F' M' H' → W (.ref C) (some dd) σ H')
def liftA (da : DA) : TA := fun σ H k => ∃ ρ M F Q E, Sta g F M H ∧ Enr g.K F σ ρ ∧ da ρ M Q E ∧
  (∀ ds M' F' vs H', Q ds M' → Same F F' → Sta g F' M' H' → Reps g.K F' vs ds → k vs H') ∧ (∀ C dd M' F' H', E C dd M' → Same F F' → Sta g F' M' H' → W (.ref C) (some dd) σ H')
def liftS (ds : DS) : TS := fun D σ H => ∃ ρ M F nx rt bk ct ex, Sta g F M H ∧ Enr g.K F σ ρ ∧ ds nx rt bk ct ex ρ M ∧
  (∀ ρ' M' F' σ' H', nx ρ' M' → Same F F' → Sta g F' M' H' → Enr g.K F' σ' ρ' → D.nx σ' H') ∧
  (∀ d M' F' v H', rt d M' → Same F F' → Sta g F' M' H' → Rep g.K F' v d → D.rt v H') ∧
  (∀ ρ' M' F' σ' H', bk ρ' M' → Same F F' → Sta g F' M' H' → Enr g.K F' σ' ρ' → D.bk σ' H') ∧
  (∀ ρ' M' F' σ' H', ct ρ' M' → Same F F' → Sta g F' M' H' → Enr g.K F' σ' ρ' → D.ct σ' H') ∧
  (∀ C dd ρ' M' F' σ' H', ex C dd ρ' M' → Same F F' → Sta g F' M' H' → Enr g.K F' σ' ρ' → W (.ref C) (some dd) σ' H')
def liftG (dg : DG) : TG := fun x σ H k => ∃ ρ M F d Q, Sta g F M H ∧ Enr g.K F σ ρ ∧ Rep g.K F x d ∧ dg d ρ M Q ∧
  (∀ ρ' M' F' σ' H', Q ρ' M' → Same F F' → Sta g F' M' H' → Enr g.K F' σ' ρ' → k σ' H')
end
theorem _root_.L2.PE.imp {X : Cx} {e : Expr} {t t' : TE} (h : PE X e t) (i : ∀ σ H k, t' σ H k → t σ H k) : PE X e t' := ⟨fun pins s σ H k I q => h.run pins s σ H k I (i σ H k q)⟩
theorem _root_.L2.PT.imp {X : Cx} {e : Expr} {t t' : TT} (h : PT X e t) (i : ∀ σ H k, t' σ H k → t σ H k) : PT X e t' := ⟨fun pins s σ H k I q => h.run pins s σ H k I (i σ H k q)⟩
theorem _root_.L2.PA.imp {X : Cx} {e : List Expr} {t t' : TA} (h : PA X e t) (i : ∀ σ H k, t' σ H k → t σ H k) : PA X e t' := ⟨fun pos pins s σ H k I q => h.run pos pins s σ H k I (i σ H k q)⟩
theorem _root_.L2.PS.imp {X : Cx} {e : Stmt} {t t' : TS} (h : PS X e t) (i : ∀ D σ H, t' D σ H → t D σ H) : PS X e t' := ⟨fun pins s σ H D I q => h.run pins s σ H D I (i D σ H q)⟩
theorem _root_.L2.PSs.imp {X : Cx} {e : List Stmt} {t t' : TS} (h : PSs X e t) (i : ∀ D σ H, t' D σ H → t D σ H) : PSs X e t' := ⟨fun pins s σ H D I q => h.run pins s σ H D I (i D σ H q)⟩
theorem _root_.L2.PG.imp {X : Cx} {e : Expr} {t t' : TG} (h : PG X e t) (i : ∀ v σ H k, t' v σ H k → t v σ H k) : PG X e t' := ⟨fun pins s σ H v u k I r q => h.run pins s σ H v u k I r (i v σ H k q)⟩
theorem _root_.L2.Same.t {H H1 H2 : Hp} (a : Same H H1) (b : Same H1 H2) : Same H H2 := a.trans b
theorem _root_.L2.Same.r (H : Hp) : Same H H := Same.refl H

section
variable {X : Cx} {g : G} {W : WX} {pos : Pos} {a b c e : Expr} {es : List Expr} {da db dc de : DE} {dA : DA} {dt du : DT} {op : Operator}
/-! ### names and constants -/
def dVar (i : Nat) : DE := fun ρ M Q _ => ∃ d, at_ ρ i = some d ∧ Q d M
def dC (d : D) : DE := fun _ M Q _ => Q d M
theorem de_var (i : Nat) {x : Str} (hN : X.N[i]? = some x := by rfl) (hv : Vis X.env.scope x := by first | exact Or.inl rfl | exact Or.inr (Or.inl rfl) | exact Or.inr (Or.inr rfl)) (hd : (x == ("__debug__" : Str)) = false := by decide)
    (hcd : (x == ("__classdict__" : Str)) = false := by decide) : PE X (.Name x pos) (liftE g W (dVar i)) :=
  (pe_var hN hv hd hcd).imp fun σ H k ⟨ρ, M, F, Q, E, S, En, ⟨d, hd, q⟩, kQ, _⟩ => by
    obtain ⟨v, hv, r⟩ := En.has i d hd
    exact ⟨v, hv, kQ d M F v H q (Same.r F) S r⟩
theorem de_c {v : V} {d : D} (h : PE X e (tC v)) (r : ∀ F, Rep g.K F v d) : PE X e (liftE g W (dC d)) :=
  h.imp fun σ H k ⟨ρ, M, F, Q, E, S, En, q, kQ, _⟩ => kQ d M F v H q (Same.r F) S (r F)
theorem de_int {i : Int} {j : Nat} : PE X (.Constant (.int i) j pos) (liftE g W (dC (.int i))) := de_c pe_int fun _ => .int i
theorem de_bl {b : Bool} {j : Nat} : PE X (.Constant (.bool b) j pos) (liftE g W (dC (.bl b))) := de_c pe_bl fun _ => .bl b
theorem de_non {j : Nat} : PE X (.Constant .none j pos) (liftE g W (dC .non)) := de_c pe_non fun _ => .non
theorem de_str {x : Str} {j : Nat} : PE X (.Constant (.str x) j pos) (liftE g W (dC (.str x))) := de_c pe_str fun _ => .str x
/-! ### a value of another form by the same step: data frozen behind an expression -/
/-- d of M may be taken as d' of M' -/
def Fz (g : G) (d : D) (M : Mem) (d' : D) (M' : Mem) : Prop := ∀ F v H, Sta g F M H → Rep g.K F v d → ∃ F', Same F F' ∧ Sta g F' M' H ∧ Rep g.K F' v d'
theorem Fz.refl (d : D) (M : Mem) : Fz g d M d M := fun F _ _ S r => ⟨F, Same.r F, S, r⟩
def frzD : MO → Option D
  | .lst ds => some (.lst ds)
  | .dic es => some (.dic es)
  | .dit es => some (.dit es)
  | .obj C es => some (.obj C es)
  | _ => none
theorem rep_frz {K : PySem.W.Frag} {F : Hp} {p : Addr} {o : HO} {m : MO} {d : D} (h : frzD m = some d) (r : RepM K F p o m) (e : F p = some o) : Rep K F (.ref p) d := by
  cases m with
  | lst ds => cases h; obtain ⟨xs, rfl, r⟩ := r; exact .lst e r
  | dic es => cases h; obtain ⟨xs, rfl, l, r⟩ := r; exact .dic e l r
  | dit es => cases h; obtain ⟨xs, rfl, vs, l, r1, rv, r2⟩ := r; exact .dit e l r1 rv r2
  | obj C es => cases h; obtain ⟨dx, xs, rfl, l, r⟩ := r; exact .obj e l r
  | xd es => cases h
  | exd _ es => cases h
  | raw u => cases h
/-- what stands at p may be taken as the data itself -/
theorem Fz.one {p : Addr} {m : MO} {d : D} {M M' : Mem} (u : Del p m M M') (h : frzD m = some d) : Fz g (.ptr p) M d M' := fun F v H S r => by
  cases r
  obtain ⟨hF, o, ho, rm⟩ := S.mem p m u.old
  obtain ⟨s, S'⟩ := S.frz u ho
  exact ⟨_, s, S', rep_frz h (rm.mono s) upd_same⟩
/-! ### operators by values -/
abbrev DR2 := D → D → Mem → (D → Mem → Prop) → Prop
def liftR (g : G) (r : DR2) : R2 := fun x y H k => ∃ F M d e Q, Sta g F M H ∧ Rep g.K F x d ∧ Rep g.K F y e ∧ r d e M Q ∧ ∀ d' M' F' v H', Q d' M' → Same F F' → Sta g F' M' H' → Rep g.K F' v d' → k v H'
def OpD (X : Cx) (g : G) (f : Value → Value → Sem Value) (r : DR2) : Prop := OpR X f (liftR g r)
def dOp (r : DR2) (da db : DE) : DE := fun ρ M Q E => da ρ M (fun d M1 => db ρ M1 (fun e M2 => r d e M2 Q) E) E
theorem lift_op {r : DR2} {σ : L2.St} {H : Hp} {k : VK} (h : liftE g W (dOp r da db) σ H k) : tOp (liftR g r) (liftE g W da) (liftE g W db) σ H k := by
  obtain ⟨ρ, M, F, Q, E, S, En, q, kQ, kE⟩ := h
  refine ⟨ρ, M, F, _, E, S, En, q, fun d M1 F1 v H1 q1 s1 S1 r1 => ?_, kE⟩
  refine ⟨ρ, M1, F1, _, E, S1, En.mono s1, q1, fun e M2 F2 u H2 q2 s2 S2 r2 => ?_, fun C dd M' F' H' z s S' => kE C dd M' F' H' z (s1.t s) S'⟩
  exact ⟨F2, M2, d, e, Q, S2, r1.mono s2, r2, q2, fun d' M' F' w H' z s S' r => kQ d' M' F' w H' z ((s1.t s2).t s) S' r⟩
theorem de_op {r : DR2} (ho : OpD X g (binaryOp op) r) (ha : PE X a (liftE g W da)) (hb : PE X b (liftE g W db)) : PE X (.BinOp a op b pos) (liftE g W (dOp r da db)) :=
  (pe_op ho ha hb).imp fun _ _ _ h => lift_op h
theorem de_cmp {r : DR2} {cop : CmpOp} (ho : OpD X g (compareOp cop) r) (ha : PE X a (liftE g W da)) (hb : PE X b (liftE g W db)) (hm : behindInMarks cop b = false) : PE X (.Compare a [cop] [b] pos) (liftE g W (dOp r da db)) :=
  (pe_cmpR ho ha hb hm).imp fun _ _ _ h => lift_op h
theorem dt_cmp {r : DR2} {cop : CmpOp} (ho : OpD X g (compareOp cop) r) (ha : PE X a (liftE g W da)) (hb : PE X b (liftE g W db)) (hm : behindInMarks cop b = false) :
    PT X (.Compare a [cop] [b] pos) (liftT g W (fun ρ M Q E => dOp r da db ρ M (fun d M' => ∃ k, d = .bl k ∧ Q k M') E)) :=
  (pt_cmpR ho ha hb hm).imp fun σ H k ⟨ρ, M, F, Q, E, S, En, q, kQ, kE⟩ => lift_op (W := W) ⟨ρ, M, F, _, E, S, En, q, fun d M' F' v H' ⟨b, e, z⟩ s S' r => by
    subst e
    cases r
    exact ⟨b, rfl, kQ b M' F' H' z s S'⟩, kE⟩

/-! ### tests -/
/-- an expression that gives a bool, as a test -/
def dB (de : DE) : DT := fun ρ M Q E => de ρ M (fun d M' => ∃ k, d = .bl k ∧ Q k M') E
theorem dt_val (h : PE X e (liftE g W de)) (he : ∀ whole, isTrue e X.env whole = (do let v ← whole; standAt e.pos; holding [v] (truthy v)) := by intro _; rfl) : PT X e (liftT g W (dB de)) :=
  (pt_val h he).imp fun σ H k ⟨ρ, M, F, Q, E, S, En, q, kQ, kE⟩ => ⟨ρ, M, F, _, E, S, En, q, fun d M' F' v H' ⟨b, e, z⟩ s S' r => by
    subst e
    cases r
    exact ⟨b, rfl, kQ b M' F' H' z s S'⟩, kE⟩
def dOr (dt du : DT) : DT := fun ρ M Q E => dt ρ M (fun c M1 => if c = true then Q true M1 else du ρ M1 Q E) E
def dNot (dt : DT) : DT := fun ρ M Q E => dt ρ M (fun c M1 => Q (!c) M1) E
theorem dt_not (h : PT X a (liftT g W dt)) : PT X (.UnaryOp .Not a pos) (liftT g W (dNot dt)) :=
  (pt_not h).imp fun σ H k ⟨ρ, M, F, Q, E, S, En, q, kQ, kE⟩ => ⟨ρ, M, F, _, E, S, En, q, fun b M' F' H' z s S' => kQ _ M' F' H' z s S', kE⟩
structure PWd (X : Cx) (g : G) (W : WX) (e : Expr) (dt : DT) : Prop where
  pw : PW X e (liftT g W dt)
theorem _root_.L2.PW.imp {X : Cx} {e : Expr} {t t' : TT} (h : PW X e t) (i : ∀ σ H k, t' σ H k → t σ H k) : PW X e t' := ⟨fun w pins s σ H k I q => h.run w pins s σ H k I (i σ H k q)⟩
theorem dw_or1 (ha : PT X a (liftT g W dt)) : PWd X g W (.BoolOp .Or [a] pos) dt := ⟨pw_or1 ha⟩
theorem dw_or (ha : PT X a (liftT g W dt)) (hb : PWd X g W (.BoolOp .Or (b :: es) pos) du) : PWd X g W (.BoolOp .Or (a :: b :: es) pos) (dOr dt du) :=
  ⟨(pw_or ha hb.pw).imp fun σ H k ⟨ρ, M, F, Q, E, S, En, q, kQ, kE⟩ => ⟨ρ, M, F, _, E, S, En, q, fun c M' F' H' z s S' => by
    cases c with
    | true =>
      rw [if_pos rfl] at z ⊢
      exact kQ true M' F' H' z s S'
    | false =>
      rw [if_neg Bool.false_ne_true] at z ⊢
      exact ⟨ρ, M', F', Q, E, S', En.mono s, z, fun b M2 F2 H2 q2 s2 S2 => kQ b M2 F2 H2 q2 (s.t s2) S2, fun C dd M2 F2 H2 q2 s2 S2 => kE C dd M2 F2 H2 q2 (s.t s2) S2⟩, kE⟩⟩
theorem dt_w (h : PWd X g W e dt) : PT X e (liftT g W dt) := h.pw.pt
/-- and, or, not of bools as values -/
def dAndV (da db : DE) : DE := fun ρ M Q E => da ρ M (fun d M1 => ∃ c, d = .bl c ∧ if c = true then db ρ M1 Q E else Q (.bl false) M1) E
theorem de_one {bop : BoolOp} (h : PE X a (liftE g W da)) : PE X (.BoolOp bop [a] pos) (liftE g W da) := pe_one h
theorem de_and (ha : PE X a (liftE g W da)) (hb : PE X (.BoolOp .And (b :: es) pos) (liftE g W db)) : PE X (.BoolOp .And (a :: b :: es) pos) (liftE g W (dAndV da db)) :=
  (pe_and ha hb).imp fun σ H k ⟨ρ, M, F, Q, E, S, En, q, kQ, kE⟩ => ⟨ρ, M, F, _, E, S, En, q, fun d M' F' v H' ⟨c, ec, z⟩ s S' r => by
    subst ec
    cases r
    refine ⟨c, rfl, ?_⟩
    cases c with
    | true =>
      rw [if_pos rfl] at z ⊢
      exact ⟨ρ, M', F', Q, E, S', En.mono s, z, fun b M2 F2 v2 H2 q2 s2 S2 => kQ b M2 F2 v2 H2 q2 (s.t s2) S2, fun C dd M2 F2 H2 q2 s2 S2 => kE C dd M2 F2 H2 q2 (s.t s2) S2⟩
    | false =>
      rw [if_neg Bool.false_ne_true] at z ⊢
      exact kQ _ M' F' _ H' z s S' (.bl false), kE⟩
/-! ### arguments, displays -/
def dNil : DA := fun _ M Q _ => Q [] M
def dCons (de : DE) (dA : DA) : DA := fun ρ M Q E => de ρ M (fun d M1 => dA ρ M1 (fun ds M2 => Q (d :: ds) M2) E) E
theorem da_nil : PA X [] (liftA g W dNil) := (pa_nil).imp fun σ H k ⟨ρ, M, F, Q, E, S, En, q, kQ, kE⟩ => kQ [] M F [] H q (Same.r F) S .nil
theorem da_cons (ha : PE X e (liftE g W de)) (hr : PA X es (liftA g W dA)) (hs : starEach (e :: es) X.env = (false, eval e X.env) :: starEach es X.env := by rfl) : PA X (e :: es) (liftA g W (dCons de dA)) :=
  (pa_cons ha hr hs).imp fun σ H k ⟨ρ, M, F, Q, E, S, En, q, kQ, kE⟩ => ⟨ρ, M, F, _, E, S, En, q, fun d M1 F1 v H1 q1 s1 S1 r1 =>
    ⟨ρ, M1, F1, _, E, S1, En.mono s1, q1, fun ds M2 F2 vs H2 q2 s2 S2 r2 => kQ _ M2 F2 _ H2 q2 (s1.t s2) S2 (.cons (r1.mono s2) r2), fun C dd M2 F2 H2 q2 s2 S2 => kE C dd M2 F2 H2 q2 (s1.t s2) S2⟩, kE⟩
/-- (a, b, ..) -/
def dTup (dA : DA) : DE := fun ρ M Q E => dA ρ M (fun ds M' => ds.length ≤ sizeLine ∧ Q (.tup ds) M') E
theorem de_tup {x1} (h : PA X es (liftA g W dA)) : PE X (.Tuple es x1 pos) (liftE g W (dTup dA)) :=
  (pe_tup h).imp fun σ H k ⟨ρ, M, F, Q, E, S, En, q, kQ, kE⟩ => ⟨ρ, M, F, _, E, S, En, q, fun ds M1 F1 vs H1 ⟨hz, q1⟩ s1 S1 r1 => ⟨by rw [r1.length]; exact hz, fun p hp => by
    obtain ⟨s, S'⟩ := S1.newF (o := .tup vs) hp
    exact kQ _ M1 _ _ _ q1 (s1.t s) S' (.tup upd_same (r1.mono s))⟩, kE⟩
/-- a new list: frozen, or one that may change -/
def NewL (ds : List D) (M : Mem) (Q : D → Mem → Prop) : Prop := Q (.lst ds) M ∨ ∀ p, (∀ m, (p, m) ∉ M) → Q (.ptr p) ((p, .lst ds) :: M)
theorem NewL.to {ds : List D} {M : Mem} {Q : D → Mem → Prop} {F : Hp} {H : Hp} {xs : List V} {p : Addr} {k : Prop} (n : NewL ds M Q) (S : Sta g F M H) (hp : H p = none) (r : Reps g.K F xs ds)
    (h : ∀ d M' F', Q d M' → Same F F' → Sta g F' M' (upd H p (.lst xs)) → Rep g.K F' (.ref p) d → k) : k := by
  rcases n with q | q
  · obtain ⟨s, S'⟩ := S.newF (o := .lst xs) hp
    exact h _ _ _ q s S' (.lst upd_same (r.mono s))
  · exact h _ _ _ (q p (S.fresh hp)) (Same.r F) (S.newM (m := .lst ds) hp ⟨xs, rfl, r⟩) (.ptr p)
def dLst (dA : DA) : DE := fun ρ M Q E => dA ρ M (fun ds M' => ds.length ≤ sizeLine ∧ NewL ds M' Q) E
theorem de_lst (h : PA X es (liftA g W dA)) : PE X (.List es pos) (liftE g W (dLst dA)) :=
  (pe_lst h).imp fun σ H k ⟨ρ, M, F, Q, E, S, En, q, kQ, kE⟩ => ⟨ρ, M, F, _, E, S, En, q, fun ds M1 F1 vs H1 ⟨hz, q1⟩ s1 S1 r1 => ⟨by rw [r1.length]; exact hz, fun p hp =>
    q1.to S1 hp r1 fun d M' F' z s S' r => kQ d M' F' _ _ z (s1.t s) S' r⟩, kE⟩
end
end DL
namespace DL
variable [Wd]
open PySem L2
section
variable {X : Cx} {g : G} {W : WX} {pos : Pos} {a b c e : Expr} {es : List Expr} {da db dc de : DE} {dA : DA} {dt : DT} {ds du : DS} {dg : DG} {op : Operator} {st : Stmt} {sts body : List Stmt}
/-! ### statements -/
def sNext : DS := fun nx _ _ _ _ ρ M => nx ρ M
def sSeq (t u : DS) : DS := fun nx rt bk ct ex ρ M => t (u nx rt bk ct ex) rt bk ct ex ρ M
def sDrop (de : DE) : DS := fun nx _ _ _ ex ρ M => de ρ M (fun _ M' => nx ρ M') (fun C dd M' => ex C dd ρ M')
def sRet (de : DE) : DS := fun _ rt _ _ ex ρ M => de ρ M rt (fun C dd M' => ex C dd ρ M')
def sIf (dt : DT) (t u : DS) : DS := fun nx rt bk ct ex ρ M => dt ρ M (fun c M1 => if c = true then t nx rt bk ct ex ρ M1 else u nx rt bk ct ex ρ M1) (fun C dd M' => ex C dd ρ M')
def sAsg (de : DE) (dg : DG) : DS := fun nx _ _ _ ex ρ M => de ρ M (fun d M1 => dg d ρ M1 nx) (fun C dd M' => ex C dd ρ M')
theorem ds_next (h : PS X st tNext) : PS X st (liftS g W sNext) := h.imp fun D σ H ⟨ρ, M, F, nx, rt, bk, ct, ex, S, En, q, k1, k2, k3, k4, k5⟩ => k1 ρ M F σ H q (Same.r F) S En
theorem dss_nil : PSs X [] (liftS g W sNext) := pss_nil.imp fun D σ H ⟨ρ, M, F, nx, rt, bk, ct, ex, S, En, q, k1, k2, k3, k4, k5⟩ => k1 ρ M F σ H q (Same.r F) S En
theorem dss_one (h : PS X st (liftS g W ds)) : PSs X [st] (liftS g W ds) := pss_one h
theorem dss_cons (h : PS X st (liftS g W ds)) (h2 : PSs X sts (liftS g W du)) : PSs X (st :: sts) (liftS g W (sSeq ds du)) :=
  (pss_cons h h2).imp fun D σ H ⟨ρ, M, F, nx, rt, bk, ct, ex, S, En, q, k1, k2, k3, k4, k5⟩ =>
    ⟨ρ, M, F, _, rt, bk, ct, ex, S, En, q, fun ρ' M' F' σ' H' q' s S' En' => ⟨ρ', M', F', nx, rt, bk, ct, ex, S', En', q', fun a1 a2 a3 a4 a5 a6 a7 => k1 a1 a2 a3 a4 a5 a6 (s.t a7), fun a1 a2 a3 a4 a5 a6 a7 => k2 a1 a2 a3 a4 a5 a6 (s.t a7),
      fun a1 a2 a3 a4 a5 a6 a7 => k3 a1 a2 a3 a4 a5 a6 (s.t a7), fun a1 a2 a3 a4 a5 a6 a7 => k4 a1 a2 a3 a4 a5 a6 (s.t a7), fun a1 a2 a3 a4 a5 a6 a7 a8 a9 => k5 a1 a2 a3 a4 a5 a6 a7 a8 (s.t a9)⟩, k2, k3, k4, k5⟩
theorem ds_expr (h : PE X e (liftE g W de)) (hs : swapsWith e none pos.line X.env = pure false := by rfl) : PS X (.Expr e pos) (liftS g W (sDrop de)) :=
  (ps_expr h hs).imp fun D σ H ⟨ρ, M, F, nx, rt, bk, ct, ex, S, En, q, k1, k2, k3, k4, k5⟩ =>
    ⟨ρ, M, F, _, _, S, En, q, fun d M' F' v H' z s S' _ => k1 ρ M' F' σ H' z s S' (En.mono s), fun C dd M' F' H' z s S' => k5 C dd ρ M' F' σ H' z s S' (En.mono s)⟩
theorem ds_ret (h : PE X e (liftE g W de)) : PS X (.Return (some e) pos) (liftS g W (sRet de)) :=
  (ps_ret h).imp fun D σ H ⟨ρ, M, F, nx, rt, bk, ct, ex, S, En, q, k1, k2, k3, k4, k5⟩ =>
    ⟨ρ, M, F, _, _, S, En, q, k2, fun C dd M' F' H' z s S' => k5 C dd ρ M' F' σ H' z s S' (En.mono s)⟩
theorem liftS_ite {t u : DS} {D : Ends} {σ : L2.St} {H : Hp} {c : Bool} {ρ : Rho} {M : Mem} {F : Hp} {nx rt bk ct ex} (S : Sta g F M H) (En : Enr g.K F σ ρ)
    (q : if c = true then t nx rt bk ct ex ρ M else u nx rt bk ct ex ρ M)
    (k1 : ∀ ρ' M' F' σ' H', nx ρ' M' → Same F F' → Sta g F' M' H' → Enr g.K F' σ' ρ' → D.nx σ' H') (k2 : ∀ d M' F' v H', rt d M' → Same F F' → Sta g F' M' H' → Rep g.K F' v d → D.rt v H')
    (k3 : ∀ ρ' M' F' σ' H', bk ρ' M' → Same F F' → Sta g F' M' H' → Enr g.K F' σ' ρ' → D.bk σ' H') (k4 : ∀ ρ' M' F' σ' H', ct ρ' M' → Same F F' → Sta g F' M' H' → Enr g.K F' σ' ρ' → D.ct σ' H')
    (k5 : ∀ C dd ρ' M' F' σ' H', ex C dd ρ' M' → Same F F' → Sta g F' M' H' → Enr g.K F' σ' ρ' → W (.ref C) (some dd) σ' H') :
    if c = true then liftS g W t D σ H else liftS g W u D σ H := by
  cases c with
  | true =>
    rw [if_pos rfl] at q ⊢
    exact ⟨ρ, M, F, nx, rt, bk, ct, ex, S, En, q, k1, k2, k3, k4, k5⟩
  | false =>
    rw [if_neg Bool.false_ne_true] at q ⊢
    exact ⟨ρ, M, F, nx, rt, bk, ct, ex, S, En, q, k1, k2, k3, k4, k5⟩
theorem ds_if {x y : List Stmt} (hc : PT X c (liftT g W dt)) (ht : PSs X x (liftS g W ds)) (hu : PSs X y (liftS g W du)) : PS X (.If c x y pos) (liftS g W (sIf dt ds du)) :=
  (ps_if hc ht hu).imp fun D σ H ⟨ρ, M, F, nx, rt, bk, ct, ex, S, En, q, k1, k2, k3, k4, k5⟩ =>
    ⟨ρ, M, F, _, _, S, En, q, fun c M' F' H' z s S' => liftS_ite S' (En.mono s) z (fun a1 a2 a3 a4 a5 a6 a7 => k1 a1 a2 a3 a4 a5 a6 (s.t a7)) (fun a1 a2 a3 a4 a5 a6 a7 => k2 a1 a2 a3 a4 a5 a6 (s.t a7))
      (fun a1 a2 a3 a4 a5 a6 a7 => k3 a1 a2 a3 a4 a5 a6 (s.t a7)) (fun a1 a2 a3 a4 a5 a6 a7 => k4 a1 a2 a3 a4 a5 a6 (s.t a7)) (fun a1 a2 a3 a4 a5 a6 a7 a8 a9 => k5 a1 a2 a3 a4 a5 a6 a7 a8 (s.t a9)),
      fun C dd M' F' H' z s S' => k5 C dd ρ M' F' σ H' z s S' (En.mono s)⟩

/-! ### targets -/
def gNm (i : Nat) : DG := fun d ρ M Q => Q (put ρ i (some d)) M
theorem dg_name {i : Nat} {x : Str} (hN : X.N.Nodup) (hi : X.N[i]? = some x) (hx : Loc X.env.scope x) (hf : X.fn x = true ∨ X.env.scope.names.lookup x = some .local := by first | exact .inl rfl | exact .inr rfl | assumption) : PG X (.Name x pos) (liftG g (gNm i)) :=
  (pg_name hN hi hx hf).imp fun v σ H k ⟨ρ, M, F, d, Q, S, En, r, q, kQ⟩ => kQ _ M F _ H q (Same.r F) S (En.set i r)
theorem ds_asg {tg : Expr} (he : PE X e (liftE g W de)) (hg : PG X tg (liftG g dg)) (hs : swapsWithSole [tg] e pos.line X.env = pure false := by rfl) (hw : swappedStores [tg] e X.env = pure none := by rfl)
    (h1 : (assignEach [tg] X.env).map (·.2) = [assign tg X.env] := by rfl) : PS X (.Assign [tg] e pos) (liftS g W (sAsg de dg)) :=
  (ps_asg he hg hs hw h1).imp fun D σ H ⟨ρ, M, F, nx, rt, bk, ct, ex, S, En, q, k1, k2, k3, k4, k5⟩ =>
    ⟨ρ, M, F, _, _, S, En, q, fun d M' F' v H' z s S' r => ⟨ρ, M', F', d, nx, S', En.mono s, r, z, fun a1 a2 a3 a4 a5 a6 a7 => k1 a1 a2 a3 a4 a5 a6 (s.t a7)⟩, fun C dd M' F' H' z s S' => k5 C dd ρ M' F' σ H' z s S' (En.mono s)⟩
theorem ds_set {i : Nat} {x : Str} {pos' : Pos} (hN : X.N.Nodup) (hi : X.N[i]? = some x) (hx : Loc X.env.scope x) (he : PE X e (liftE g W de)) (hs : swapsWith e (some (.Name x pos')) pos.line X.env = pure false := by rfl)
    (hf : X.fn x = true ∨ X.env.scope.names.lookup x = some .local := by first | exact .inl rfl | exact .inr rfl | assumption) : PS X (.Assign [.Name x pos'] e pos) (liftS g W (sAsg de (gNm i))) :=
  (ps_set hN hi hx he hs hf).imp fun D σ H ⟨ρ, M, F, nx, rt, bk, ct, ex, S, En, q, k1, k2, k3, k4, k5⟩ =>
    ⟨ρ, M, F, _, _, S, En, q, fun d M' F' v H' z s S' r => k1 _ M' F' _ H' z s S' ((En.mono s).set i r), fun C dd M' F' H' z s S' => k5 C dd ρ M' F' σ H' z s S' (En.mono s)⟩
/-! ### what a loop walks -/
abbrev DI := Rho → Mem → (List D → (Mem → Prop) → Mem → Prop) → XD → Prop
def noH : Hp := fun _ => none
theorem same_no {U : Hp} : Same noH U := fun _ _ e => nomatch e
/-- J yields ds one after the other, as long as st holds -/
structure Yields (K : PySem.W.Frag) (V : Hp) (J : It) (F1 : Hp) (ds : List D) (st : Mem → Prop) : Prop where
  pl : ∀ b o, V b = some o → ∃ z u, o = HO.frz z u
  go : ∀ (i : Nat) (d : D) (U F : Hp) (M : Mem) (H : Hp), Same V U → Same F1 F → Sta ⟨K, U⟩ F M H → st M → ds[i]? = some d → J.go i H ∧ ∀ x H', J.yld i H x H' → ∃ F', Same F F' ∧ Sta ⟨K, U⟩ F' M H' ∧ Rep K F' x d
  stop : ∀ (i : Nat) (U F : Hp) (M : Mem) (H : Hp), Same V U → Same F1 F → Sta ⟨K, U⟩ F M H → st M → ds.length ≤ i → J.stop i H
def liftI (g : G) (W : WX) (di : DI) : TI := fun σ H R => ∃ ρ M F Q E, Sta g F M H ∧ Enr g.K F σ ρ ∧ di ρ M Q E ∧
  (∀ ds st M' U' V F' J H', Q ds st M' → Same g.U U' → Same V U' → Same F F' → Sta ⟨g.K, U'⟩ F' M' H' → Yields g.K V J F' ds st → R J H') ∧ (∀ C dd M' F' H', E C dd M' → Same F F' → Sta g F' M' H' → W (.ref C) (some dd) σ H')
theorem _root_.L2.PI.imp {X : Cx} {tg e : Expr} {t t' : TI} (h : PI X tg e t) (i : ∀ σ H k, t' σ H k → t σ H k) : PI X tg e t' := ⟨fun pins s σ H R I q => h.run pins s σ H R I (i σ H R q)⟩
/-- the items of a list: of a frozen one, or of one that stands in M -/
inductive IsL (M : Mem) : D → List D → (Mem → Prop) → Prop
  | lst (ds : List D) : IsL M (.lst ds) ds fun _ => True
  | rol (ds : List D) : IsL M (.rol ds) ds fun _ => True
  | ptr {p : Addr} {ds : List D} : (p, .lst ds) ∈ M → IsL M (.ptr p) ds fun M' => (p, .lst ds) ∈ M'
theorem IsL.sq {F : Hp} {M : Mem} {H : Hp} {v : V} {d : D} {ds : List D} {st : Mem → Prop} (h : IsL M d ds st) (S : Sta g F M H) (r : Rep g.K F v d) :
    ∃ a xs, v = .ref a ∧ SqL g.K H a xs ∧ Reps g.K F xs ds ∧ ∀ U F' M' H', Same F F' → Sta ⟨g.K, U⟩ F' M' H' → st M' → ∃ ys, SqL g.K H' a ys ∧ Reps g.K F' ys ds := by
  cases h with
  | lst => cases r with | lst e r => exact ⟨_, _, rfl, .of (S.sub.lst e), r, fun U F' M' H' s S' _ => ⟨_, .of (S'.sub.lst (s _ _ e)), r.mono s⟩⟩
  | rol => cases r with | rol e r => exact ⟨_, _, rfl, S.sub.sqL e, r, fun U F' M' H' s S' _ => ⟨_, S'.sub.sqL (s.seq e), r.mono s⟩⟩
  | ptr h =>
    cases r
    obtain ⟨_, o, ho, xs, rfl, r⟩ := S.mem _ _ h
    refine ⟨_, xs, rfl, .of ho, r, fun U F' M' H' s S' h' => ?_⟩
    obtain ⟨_, o', ho', ys, rfl, r'⟩ := S'.mem _ _ h'
    exact ⟨ys, .of ho', r'⟩
theorem yields_list {F : Hp} {a : Addr} {ds : List D} {st : Mem → Prop} (hK : g.K = X.K) (hr : ∀ U F' M' H', Same F F' → Sta ⟨g.K, U⟩ F' M' H' → st M' → ∃ ys, SqL g.K H' a ys ∧ Reps g.K F' ys ds) : Yields g.K noH (Itl X.K a) F ds st := by
  refine ⟨fun _ _ e => (nomatch e), fun i d U F' M H _ s S h e => ?_, fun i U F' M H _ s S h e => ?_⟩
  · obtain ⟨ys, hq, r⟩ := hr U F' M H s S h
    obtain ⟨v, hv, rv⟩ := r.get e
    refine ⟨⟨ys, v, by rw [← hK]; exact hq, hv⟩, fun x H' ⟨eH, y⟩ => ?_⟩
    subst eH
    have y' := y ys (by rw [← hK]; exact hq)
    rw [hv] at y'
    cases y'
    exact ⟨F', Same.r F', S, rv⟩
  · obtain ⟨ys, hq, r⟩ := hr U F' M H s S h
    exact ⟨ys, by rw [← hK]; exact hq, by rw [r.length]; exact e⟩
/-- over a tuple -/
def iTp (de : DE) : DI := fun ρ M Q E => de ρ M (fun d M' => ∃ ds, d = .tup ds ∧ Q ds (fun _ => True) M') E
theorem di_tup {tg : Expr} (hK : g.K = X.K) (h : PE X e (liftE g W de)) : PI X tg e (liftI g W (iTp de)) :=
  (pi_tup h).imp fun σ H k ⟨ρ, M, F, Q, E, S, En, q, kQ, kE⟩ => ⟨ρ, M, F, _, E, S, En, q, fun d M' F' v H' ⟨ds, ed, z⟩ s S' r => by
    subst ed
    cases r with
    | tup hs r =>
      refine ⟨_, rfl, ⟨_, by rw [← hK]; exact S'.sub.sqT hs⟩, kQ ds _ M' g.U noH F' _ H' z (Same.r _) same_no s S' ⟨fun _ _ e => (nomatch e), fun i d U F2 M2 H2 _ s2 S2 _ e => ?_, fun i U F2 M2 H2 _ s2 S2 _ e => ?_⟩⟩
      · obtain ⟨v, hv, rv⟩ := r.get e
        refine ⟨⟨_, v, by rw [← hK]; exact S2.sub.sqT (sqT_mono s2 hs), hv⟩, fun x H3 ⟨eH, y⟩ => ?_⟩
        subst eH
        have y' := y _ (by rw [← hK]; exact S2.sub.sqT (sqT_mono s2 hs))
        rw [hv] at y'
        cases y'
        exact ⟨F2, Same.r F2, S2, rv.mono s2⟩
      · exact ⟨_, by rw [← hK]; exact S2.sub.sqT (sqT_mono s2 hs), by rw [r.length]; exact e⟩, kE⟩
/-- range -/
def rng (lo : Int) (n : Nat) : List D := (List.range n).map fun (i : Nat) => D.int (lo + (i : Int))
theorem yields_rng {K : PySem.W.Frag} {F : Hp} {lo : Int} {n : Nat} : Yields K noH (Itr lo n) F (rng lo n) fun _ => True := by
  refine ⟨fun _ _ e => (nomatch e), fun i d U F' M H _ s S _ e => ?_, fun i U F' M H _ s S _ e => ?_⟩
  · unfold rng at e
    rw [List.getElem?_map] at e
    by_cases h : i < n
    · rw [List.getElem?_range h] at e
      cases e
      refine ⟨h, fun x H' ⟨eH, ex⟩ => ?_⟩
      subst eH ex
      exact ⟨F', Same.r F', S, .int _⟩
    · rw [List.getElem?_eq_none (by rw [List.length_range]; omega)] at e
      cases e
  · unfold rng at e
    rw [List.length_map, List.length_range] at e
    exact e
def iRg1 (dA : DA) : DI := fun ρ M Q E => dA ρ M (fun ds M' => ∃ j : Int, ds = [.int j] ∧ -(2 ^ 62) ≤ j ∧ j < 2 ^ 62 ∧ Q (rng 0 j.toNat) (fun _ => True) M') E
theorem di_range1 {tg : Expr} {p : Pos} (hg : Gl X "range") (hm : X.mg "range" = none) (ha : PA X [a] (liftA g W dA)) (hs : starEach [a] X.env = [(false, eval a X.env)] := by rfl) : PI X tg (.Call (.Name "range" p) [a] [] pos) (liftI g W (iRg1 dA)) :=
  (pi_range1 hg hm ha hs).imp fun σ H k ⟨ρ, M, F, Q, E, S, En, q, kQ, kE⟩ => ⟨ρ, M, F, _, E, S, En, q, fun ds M' F' vs H' ⟨j, e, h1, h2, z⟩ s S' r => by
    subst e
    cases r with
    | cons r1 r2 =>
      cases r2
      cases r1
      exact ⟨j, rfl, h1, h2, kQ _ _ M' g.U noH F' _ H' z (Same.r _) same_no s S' yields_rng⟩, kE⟩
/-- the turns of a loop -/
def goF (dg : DG) (body : DS) (st : Mem → Prop) (nx : NX) (rt : D → Mem → Prop) (ex : Addr → Addr → Rho → Mem → Prop) : List D → Rho → Mem → Prop
  | [], ρ, M => st M ∧ nx ρ M
  | d :: ds, ρ, M => st M ∧ dg d ρ M (fun ρ' M' => body (goF dg body st nx rt ex ds) rt nx (goF dg body st nx rt ex ds) ex ρ' M')
def sFor (di : DI) (dg : DG) (body : DS) : DS := fun nx rt _ _ ex ρ M => di ρ M (fun ds st M1 => goF dg body st nx rt ex ds ρ M1) (fun C dd M' => ex C dd ρ M')
theorem ds_for {tg iter : Expr} {di : DI} (hp : PassesOwn (model X.prog X.w) X.A X.env X.xe) (hc : X.calm = true) (hi : PI X tg iter (liftI g W di)) (hg : ∀ U, PG X tg (liftG ⟨g.K, U⟩ dg)) (hb : ∀ U, PSs X body (liftS ⟨g.K, U⟩ W ds))
    (hs : ∀ x, foldedSetIterable iter X.env x = pure x := by intro _; rfl) : PS X (.For tg iter body [] pos) (liftS g W (sFor di dg ds)) :=
  PS.imp (ps_for (g := fun v σ H k => ∃ U, liftG ⟨g.K, U⟩ dg v σ H k) (tb := fun D σ H => ∃ U, liftS ⟨g.K, U⟩ W ds D σ H) hp hc hi ⟨fun pins s σ H v u k I r ⟨U, q⟩ => (hg U).run pins s σ H v u k I r q⟩ ⟨fun pins s σ H D I ⟨U, q⟩ => (hb U).run pins s σ H D I q⟩ hs)
    fun D σ H ⟨ρ, M, F, nx, rt, bk, ct, ex, S, En, q, k1, k2, k3, k4, k5⟩ => by
    refine ⟨ρ, M, F, _, _, S, En, q, fun its st M1 U1 V F1 J H1 q1 su sv s1 S1 Y => ?_, fun C dd M' F' H' z s S' => k5 C dd ρ M' F' σ H' z s S' (En.mono s)⟩
    refine ⟨fun i m σ H => m = its.length - i ∧ i ≤ its.length ∧ ∃ ρ M F', Same F1 F' ∧ Sta ⟨g.K, U1⟩ F' M H ∧ Enr g.K F' σ ρ ∧ goF dg ds st nx rt ex (its.drop i) ρ M, ⟨_, rfl, Nat.zero_le _, ρ, M1, F1, Same.r F1, S1, En.mono s1, q1⟩, ?_⟩
    rintro i m σ2 H2 ⟨rfl, hi, ρ2, M2, F2, s2, S2, En2, q2⟩
    by_cases hlt : i < its.length
    · have e := List.drop_eq_getElem_cons hlt
      rw [e] at q2
      obtain ⟨hst, q3⟩ := q2
      obtain ⟨g1, g2⟩ := Y.go i its[i] U1 F2 M2 H2 sv s2 S2 hst (by simp [hlt])
      refine .inr ⟨g1, fun σ' H' => ∃ ρ M F', Same F1 F' ∧ Sta ⟨g.K, U1⟩ F' M H' ∧ Enr g.K F' σ' ρ ∧ goF dg ds st nx rt ex (its.drop (i + 1)) ρ M, fun σ' H' p => ⟨its.length - (i + 1), by omega, rfl, hlt, p⟩, fun x H' y => ?_⟩
      obtain ⟨F3, s3, S3, r3⟩ := g2 x H' y
      refine ⟨U1, ρ2, M2, F3, its[i], _, S3, En2.mono s3, r3, q3, fun ρ4 M4 F4 σ4 H4 q4 s4 S4 En4 => ?_⟩
      have s14 : Same F1 F4 := (s2.t s3).t s4
      have s04 : Same F F4 := s1.t s14
      exact ⟨U1, ρ4, M4, F4, _, rt, _, _, ex, S4, En4, q4, fun ρ5 M5 F5 σ5 H5 z s S' En' => ⟨ρ5, M5, F5, s14.t s, S', En', z⟩, fun a1 a2 a3 a4 a5 a6 a7 a8 => k2 a1 a2 a3 a4 a5 a6 (s04.t a7) (a8.less su),
        fun a1 a2 a3 a4 a5 a6 a7 a8 => k1 a1 a2 a3 a4 a5 a6 (s04.t a7) (a8.less su), fun ρ5 M5 F5 σ5 H5 z s S' En' => ⟨ρ5, M5, F5, s14.t s, S', En', z⟩, fun a1 a2 a3 a4 a5 a6 a7 a8 a9 a10 => k5 a1 a2 a3 a4 a5 a6 a7 a8 (s04.t a9) (a10.less su)⟩
    · have e : its.drop i = [] := List.drop_eq_nil_of_le (by omega)
      rw [e] at q2
      exact .inl ⟨Y.stop i U1 F2 M2 H2 sv s2 S2 q2.1 (by omega), k1 ρ2 M2 F2 σ2 H2 q2.2 (s1.t s2) (S2.less su) En2⟩
/-- by an invariant -/
theorem goF_inv {st : Mem → Prop} {nx : NX} {rt : D → Mem → Prop} {ex : Addr → Addr → Rho → Mem → Prop} {its : List D} (P : Nat → Rho → Mem → Prop)
    (hst : ∀ i ρ M, P i ρ M → st M) (hs : ∀ i d ρ M, its[i]? = some d → P i ρ M → ∀ (go : NX), (∀ ρ' M', P (i + 1) ρ' M' → go ρ' M') → dg d ρ M (fun ρ' M' => ds go rt nx go ex ρ' M'))
    (hd : ∀ ρ M, P its.length ρ M → nx ρ M) {ρ : Rho} {M : Mem} (h0 : P 0 ρ M) : goF dg ds st nx rt ex its ρ M := by
  have key : ∀ (n i : Nat) (ρ : Rho) (M : Mem), i + n = its.length → P i ρ M → goF dg ds st nx rt ex (its.drop i) ρ M := by
    intro n
    induction n with
    | zero =>
      intro i ρ M hi p
      have e : its.drop i = [] := List.drop_eq_nil_of_le (by omega)
      rw [e]
      have : i = its.length := by omega
      subst this
      exact ⟨hst _ _ _ p, hd _ _ p⟩
    | succ n ih =>
      intro i ρ M hi p
      have hlt : i < its.length := by omega
      rw [List.drop_eq_getElem_cons hlt]
      exact ⟨hst _ _ _ p, hs i its[i] ρ M (by simp [hlt]) p _ fun ρ' M' p' => ih (i + 1) ρ' M' (by omega) p'⟩
  have := key its.length 0 ρ M (by omega) h0
  rwa [List.drop_zero] at this
end
end DL
namespace DL
variable [Wd]
open PySem L2

/-! ### what is equal -/
mutual
def eqD : D → D → Bool
  | .non, .non => true
  | .bl a, .bl b => a == b
  | .bl a, .int j => (if a then 1 else 0) == j
  | .int i, .bl b => i == (if b then 1 else 0)
  | .int i, .int j => i == j
  | .str x, .str y => x == y
  | .tup xs, .tup ys => eqDs xs ys
  | .lst xs, .lst ys => eqDs xs ys
  | _, _ => false
def eqDs : List D → List D → Bool
  | [], [] => true
  | x :: xs, y :: ys => eqD x y && eqDs xs ys
  | _, _ => false
end
mutual
def pyD : D → PyData
  | .bl b => .bool b
  | .int i => .int i
  | .str x => .str x
  | .tup ds => .tuple (pyDs ds)
  | .lst ds => .list (pyDs ds)
  | _ => .none
def pyDs : List D → List PyData
  | [] => []
  | d :: ds => pyD d :: pyDs ds
end
/-- plain data of so small a depth -/
def okD : Nat → D → Bool
  | _, .non => true
  | _, .bl _ => true
  | _, .int _ => true
  | _, .str x => PyData.strOk x
  | n + 1, .tup ds => ds.all (okD n)
  | n + 1, .lst ds => ds.all (okD n)
  | _, _ => false
theorem okD_py : ∀ (n : Nat) (d : D), okD n d = true → (pyD d).canLay0 = true ∧ (pyD d).depth ≤ n
  | n, .non, _ => ⟨rfl, Nat.zero_le n⟩
  | n, .bl _, _ => ⟨rfl, Nat.zero_le n⟩
  | n, .int _, _ => ⟨rfl, Nat.zero_le n⟩
  | 0, .str x, h => ⟨h, Nat.zero_le 0⟩
  | n + 1, .str x, h => ⟨h, Nat.zero_le _⟩
  | 0, .tup ds, h => by simp [okD] at h
  | 0, .lst ds, h => by simp [okD] at h
  | n + 1, .tup ds, h => by
    have h' : ds.all (okD n) = true := h
    have k : ∀ es : List D, es.all (okD n) = true → PyData.canLayAll0 (pyDs es) = true ∧ PyData.depthAll (pyDs es) ≤ n := by
      intro es
      induction es with
      | nil => exact fun _ => ⟨rfl, Nat.zero_le n⟩
      | cons e es ih =>
        intro h
        rw [List.all_cons, Bool.and_eq_true] at h
        obtain ⟨a1, a2⟩ := okD_py n e h.1
        obtain ⟨b1, b2⟩ := ih h.2
        exact ⟨by show (PyData.canLay0 (pyD e) && PyData.canLayAll0 (pyDs es)) = true; rw [a1, b1]; rfl, by show max (pyD e).depth (PyData.depthAll (pyDs es)) ≤ n; omega⟩
    obtain ⟨a, b⟩ := k ds h'
    exact ⟨a, Nat.succ_le_succ b⟩
  | n + 1, .lst ds, h => by
    have h' : ds.all (okD n) = true := h
    have k : ∀ es : List D, es.all (okD n) = true → PyData.canLayAll0 (pyDs es) = true ∧ PyData.depthAll (pyDs es) ≤ n := by
      intro es
      induction es with
      | nil => exact fun _ => ⟨rfl, Nat.zero_le n⟩
      | cons e es ih =>
        intro h
        rw [List.all_cons, Bool.and_eq_true] at h
        obtain ⟨a1, a2⟩ := okD_py n e h.1
        obtain ⟨b1, b2⟩ := ih h.2
        exact ⟨by show (PyData.canLay0 (pyD e) && PyData.canLayAll0 (pyDs es)) = true; rw [a1, b1]; rfl, by show max (pyD e).depth (PyData.depthAll (pyDs es)) ≤ n; omega⟩
    obtain ⟨a, b⟩ := k ds h'
    exact ⟨a, Nat.succ_le_succ b⟩
  | 0, .ty _, h => by simp [okD] at h
  | 0, .ptr _, h => by simp [okD] at h
  | 0, .rol _, h => by simp [okD] at h
  | 0, .dic _, h => by simp [okD] at h
  | 0, .dit _, h => by simp [okD] at h
  | 0, .obj _ _, h => by simp [okD] at h
  | _ + 1, .ty _, h => by simp [okD] at h
  | _ + 1, .ptr _, h => by simp [okD] at h
  | _ + 1, .rol _, h => by simp [okD] at h
  | _ + 1, .dic _, h => by simp [okD] at h
  | _ + 1, .dit _, h => by simp [okD] at h
  | _ + 1, .obj _ _, h => by simp [okD] at h
theorem okD_shaped {n : Nat} {d : D} (h : okD n d = true) (hn : n ≤ 64 := by decide) : SeqAt.shaped (pyD d) = true := by
  obtain ⟨a, b⟩ := okD_py n d h
  unfold SeqAt.shaped
  rw [a, decide_eq_true (by omega)]
  rfl
mutual
theorem eqv_py : ∀ (n : Nat) (d e : D), okD n d = true → okD n e = true → PyData.eqv (pyD d) (pyD e) = eqD d e
  | n, d, e, hd, he => by
    cases d <;> cases e <;> first
      | rfl
      | (exfalso; cases n <;> simp [okD] at hd <;> done)
      | (exfalso; cases n <;> simp [okD] at he <;> done)
      | (cases n with
         | zero => simp [okD] at hd
         | succ n => exact eqvs_py n _ _ hd he)
theorem eqvs_py : ∀ (n : Nat) (ds es : List D), ds.all (okD n) = true → es.all (okD n) = true → PyData.eqvAll (pyDs ds) (pyDs es) = eqDs ds es
  | n, [], [], _, _ => rfl
  | n, [], _ :: _, _, _ => rfl
  | n, _ :: _, [], _, _ => rfl
  | n, d :: ds, e :: es, h1, h2 => by
    rw [List.all_cons, Bool.and_eq_true] at h1 h2
    show (PyData.eqv (pyD d) (pyD e) && PyData.eqvAll (pyDs ds) (pyDs es)) = (eqD d e && eqDs ds es)
    rw [eqv_py n d e h1.1 h2.1, eqvs_py n ds es h1.2 h2.2]
end
mutual
/-- the data behind the addresses -/
inductive Deref (M : Mem) : D → D → Prop
  | non : Deref M .non .non
  | bl (b : Bool) : Deref M (.bl b) (.bl b)
  | int (i : Int) : Deref M (.int i) (.int i)
  | str (x : Str) : Deref M (.str x) (.str x)
  | plain {d : D} {n : Nat} : okD n d = true → Deref M d d
  | rol {ds : List D} {n : Nat} : okD n (.lst ds) = true → Deref M (.rol ds) (.lst ds)
  | ptr {p : Addr} {ds : List D} {n : Nat} : (p, .lst ds) ∈ M → okD n (.lst ds) = true → Deref M (.ptr p) (.lst ds)
  | tupD {ds es : List D} : Derefs M ds es → Deref M (.tup ds) (.tup es)
  | lstD {ds es : List D} : Derefs M ds es → Deref M (.lst ds) (.lst es)
  | ptrD {p : Addr} {ds es : List D} : (p, .lst ds) ∈ M → Derefs M ds es → Deref M (.ptr p) (.lst es)
inductive Derefs (M : Mem) : List D → List D → Prop
  | nil : Derefs M [] []
  | cons {d e : D} {ds es : List D} : Deref M d e → Derefs M ds es → Derefs M (d :: ds) (e :: es)
end
section
variable {X : Cx} {g : G} {F : Hp} {M : Mem} {H : Hp}
mutual
theorem dp_of (S : Sta g F M H) : ∀ (n : Nat) (v : V) (d : D), Rep g.K F v d → okD n d = true → Dp g.K H v (pyD d)
  | n, _, _, .non, _ => .non
  | n, _, _, .bl b, _ => .bl b
  | n, _, _, .int i, _ => .int i
  | n, _, _, .str x, _ => .str x
  | n + 1, _, _, .tup h r, hd => .tup (S.sub.sqT h) (dps_of S n _ _ r hd)
  | n + 1, _, _, .lst h r, hd => .lst (.of (S.sub.lst h)) (dps_of S n _ _ r hd)
  | 0, _, _, .tup h r, hd => by simp [okD] at hd
  | 0, _, _, .lst h r, hd => by simp [okD] at hd
  | n, _, _, .ty _, hd => by cases n <;> simp [okD] at hd
  | n, _, _, .ptr _, hd => by cases n <;> simp [okD] at hd
  | n, _, _, .rol _ _, hd => by cases n <;> simp [okD] at hd
  | n, _, _, .dic _ _ _, hd => by cases n <;> simp [okD] at hd
  | n, _, _, .dit _ _ _ _ _, hd => by cases n <;> simp [okD] at hd
  | n, _, _, .obj _ _ _, hd => by cases n <;> simp [okD] at hd
theorem dps_of (S : Sta g F M H) : ∀ (n : Nat) (vs : List V) (ds : List D), Reps g.K F vs ds → ds.all (okD n) = true → DpAll g.K H vs (pyDs ds)
  | n, _, _, .nil, _ => .nil
  | n, _, _, .cons r t, h => by
    rw [List.all_cons, Bool.and_eq_true] at h
    exact .cons (dp_of S n _ _ r h.1) (dps_of S n _ _ t h.2)
end
mutual
theorem Deref.dp (S : Sta g F M H) : ∀ {v : V} {d d' : D}, Deref M d d' → Rep g.K F v d → Dp g.K H v (pyD d')
  | _, _, _, .non, r => by cases r; exact .non
  | _, _, _, .bl b, r => by cases r; exact .bl b
  | _, _, _, .int i, r => by cases r; exact .int i
  | _, _, _, .str x, r => by cases r; exact .str x
  | _, _, _, .plain h, r => dp_of S _ _ _ r h
  | _, _, _, .rol (n := n) h, r => by
    cases r with
    | rol e r =>
      cases n with
      | zero => simp [okD] at h
      | succ n => exact .lst (S.sub.sqL e) (dps_of S n _ _ r h)
  | _, _, _, .ptr (n := n) hm h, r => by
    cases r
    obtain ⟨_, o, ho, xs, rfl, r⟩ := S.mem _ _ hm
    cases n with
    | zero => simp [okD] at h
    | succ n => exact .lst (.of ho) (dps_of S n _ _ r h)
  | _, _, _, .tupD h, r => by cases r with | tup e r => exact .tup (S.sub.sqT e) (Derefs.dps S h r)
  | _, _, _, .lstD h, r => by cases r with | lst e r => exact .lst (.of (S.sub.lst e)) (Derefs.dps S h r)
  | _, _, _, .ptrD hm h, r => by
    cases r
    obtain ⟨_, o, ho, xs, rfl, r⟩ := S.mem _ _ hm
    exact .lst (.of ho) (Derefs.dps S h r)
theorem Derefs.dps (S : Sta g F M H) : ∀ {vs : List V} {ds es : List D}, Derefs M ds es → Reps g.K F vs ds → DpAll g.K H vs (pyDs es)
  | _, _, _, .nil, r => by cases r; exact .nil
  | _, _, _, .cons h t, r => by cases r with | cons r rs => exact .cons (Deref.dp S h r) (Derefs.dps S t rs)
end

/-! ### operators -/
/-- a list that is tracked: frozen, or in M -/
inductive IsM (M : Mem) : D → List D → Prop
  | lst (ds : List D) : IsM M (.lst ds) ds
  | ptr {p : Addr} {ds : List D} : (p, .lst ds) ∈ M → IsM M (.ptr p) ds
theorem IsM.to {v : V} {d : D} {ds : List D} (h : IsM M d ds) (S : Sta g F M H) (r : Rep g.K F v d) : ∃ a xs, v = .ref a ∧ H a = some (.lst xs) ∧ Reps g.K F xs ds := by
  cases h with
  | lst => cases r with | lst e r => exact ⟨_, _, rfl, S.sub.lst e, r⟩
  | ptr h =>
    cases r
    obtain ⟨_, o, ho, xs, rfl, r⟩ := S.mem _ _ h
    exact ⟨_, xs, rfl, ho, r⟩
/-- a list or a tuple, to be read -/
inductive IsS (M : Mem) : D → List D → Prop
  | lst (ds : List D) : IsS M (.lst ds) ds
  | rol (ds : List D) : IsS M (.rol ds) ds
  | tup (ds : List D) : IsS M (.tup ds) ds
  | ptr {p : Addr} {ds : List D} : (p, .lst ds) ∈ M → IsS M (.ptr p) ds
theorem IsS.to {v : V} {d : D} {ds : List D} (h : IsS M d ds) (S : Sta g F M H) (r : Rep g.K F v d) : ∃ a xs, v = .ref a ∧ (SqL g.K H a xs ∨ SqT g.K H a xs) ∧ Reps g.K F xs ds := by
  cases h with
  | lst => cases r with | lst e r => exact ⟨_, _, rfl, .inl (.of (S.sub.lst e)), r⟩
  | rol => cases r with | rol e r => exact ⟨_, _, rfl, .inl (S.sub.sqL e), r⟩
  | tup => cases r with | tup e r => exact ⟨_, _, rfl, .inr (S.sub.sqT e), r⟩
  | ptr h =>
    cases r
    obtain ⟨_, o, ho, xs, rfl, r⟩ := S.mem _ _ h
    exact ⟨_, xs, rfl, .inl (.of ho), r⟩
inductive AddR (M : Mem) (Q : D → Mem → Prop) : D → D → Prop
  | int {i j : Int} : Q (.int (i + j)) M → AddR M Q (.int i) (.int j)
  | str {x y : Str} : x.length + y.length ≤ sizeLine → Q (.str (x ++ y)) M → AddR M Q (.str x) (.str y)
  | lst {d e : D} {ds es : List D} : IsM M d ds → IsM M e es → ds.length + es.length ≤ sizeLine → NewL (ds ++ es) M Q → AddR M Q d e
  | tup {ds es : List D} : ds.length + es.length ≤ sizeLine → Q (.tup (ds ++ es)) M → AddR M Q (.tup ds) (.tup es)
theorem xs_nil {K : PySem.W.Frag} {xs : List V} {ds : List D} (r : Reps K F xs ds) : xs = [] ↔ ds = [] := by
  cases r with
  | nil => exact ⟨fun _ => rfl, fun _ => rfl⟩
  | cons _ _ => exact ⟨(fun h => nomatch h), (fun h => nomatch h)⟩
theorem od_add (hK : g.K = X.K) : OpD X g (binaryOp .Add) (fun d e M Q => AddR M Q d e) := by
  intro pins s σ H x y v u k I rx ry h
  obtain ⟨F, M, d, e, Q, S, r1, r2, ar, kQ⟩ := h
  cases ar with
  | int q => cases r1; cases r2; exact op_add pins s σ H _ _ v u k I rx ry ⟨_, _, rfl, rfl, kQ _ M F _ H q (Same.r F) S (.int _)⟩
  | str hz q => cases r1; cases r2; exact op_add_str pins s σ H _ _ v u k I rx ry ⟨_, _, rfl, rfl, hz, kQ _ M F _ H q (Same.r F) S (.str _)⟩
  | lst h1 h2 hz q =>
    obtain ⟨a, xs, rfl, ha, ra⟩ := h1.to S r1
    obtain ⟨b, ys, rfl, hb, rb⟩ := h2.to S r2
    exact op_cat pins s σ H _ _ v u k I rx ry ⟨a, b, xs, ys, rfl, rfl, ha, hb, by rw [ra.length, rb.length]; exact hz, fun p hp => q.to S hp (ra.append rb) fun d' M' F' z s S' r => kQ d' M' F' _ _ z s S' r⟩
  | tup hz q =>
    cases r1 with
    | tup h1 ra =>
      cases r2 with
      | tup h2 rb =>
        have k1 := S.sub.sqT (K := g.K) h1
        have k2 := S.sub.sqT (K := g.K) h2
        rw [hK] at k1 k2
        refine op_catA pins s σ H _ _ v u k I rx ry ⟨_, _, _, _, rfl, rfl, k1, k2, by rw [ra.length, rb.length]; exact hz, fun e => ?_, fun _ e => ?_, fun _ _ p hp => ?_⟩
        · have e' := (xs_nil ra).mp e
          subst e'
          exact kQ _ M F _ H q (Same.r F) S (.tup h2 rb)
        · have e' := (xs_nil rb).mp e
          subst e'
          exact kQ _ M F _ H q (Same.r F) S (.tup h1 (by rw [List.append_nil]; exact ra))
        · obtain ⟨s, S'⟩ := S.newF (o := .tup _) hp
          exact kQ _ M _ _ _ q s S' (.tup upd_same ((ra.append rb).mono s))
/-- n times the text -/
def repS (x : Str) (n : Int) : Str := ⟨(List.replicate n.toNat x.cps).foldl (· ++ ·) #[]⟩
inductive MulR (M : Mem) (Q : D → Mem → Prop) : D → D → Prop
  | int {i j : Int} : CMulW i j → Q (.int (i * j)) M → MulR M Q (.int i) (.int j)
  | str {x : Str} {n : Int} : x.length ≤ 1000 → 0 ≤ n → n ≤ 1000 → Q (.str (repS x n)) M → MulR M Q (.str x) (.int n)
  | lst {d : D} {ds : List D} {n : Int} : IsM M d ds → -(2 ^ 63) ≤ n → n < 2 ^ 63 → ds.length * n.toNat ≤ sizeLine → NewL (List.replicate n.toNat ds).flatten M Q → MulR M Q d (.int n)
theorem repS_one (x : Str) : repS x 1 = x := by
  obtain ⟨a⟩ := x
  show (⟨(List.replicate 1 a).foldl (· ++ ·) #[]⟩ : Str) = ⟨a⟩
  simp
theorem repS_nil {x : Str} (h : x.length = 0) (n : Int) : repS x n = x := by
  obtain ⟨a⟩ := x
  have ha : a = #[] := Array.eq_empty_of_size_eq_zero h
  subst ha
  unfold repS
  congr 1
  generalize n.toNat = m
  induction m with
  | zero => rfl
  | succ m ih => rw [List.replicate_succ, List.foldl_cons]; simpa using ih
theorem repS_length (x : Str) (n : Int) : (repS x n).length = x.length * n.toNat := by
  obtain ⟨a⟩ := x
  show ((List.replicate n.toNat a).foldl (· ++ ·) #[]).size = a.size * n.toNat
  generalize n.toNat = m
  have k : ∀ (m : Nat) (b : Array Nat), ((List.replicate m a).foldl (· ++ ·) b).size = b.size + a.size * m := by
    intro m
    induction m with
    | zero => intro b; rfl
    | succ m ih =>
      intro b
      rw [List.replicate_succ, List.foldl_cons, ih, Array.size_append, Nat.mul_succ]
      omega
  rw [k m #[]]
  exact Nat.zero_add _
theorem od_mul : OpD X g (binaryOp .Mult) (fun d e M Q => MulR M Q d e) := by
  intro pins s σ H x y v u k I rx ry h
  obtain ⟨F, M, d, e, Q, S, r1, r2, ar, kQ⟩ := h
  cases ar with
  | int hc q => cases r1; cases r2; exact op_mulW pins s σ H _ _ v u k I rx ry ⟨_, _, rfl, rfl, hc, kQ _ M F _ H q (Same.r F) S (.int _)⟩
  | str hx h0 h1 q =>
    cases r1; cases r2
    rename_i z n
    obtain ⟨t, rfl⟩ := rx
    obtain ⟨t', rfl⟩ := ry
    have hs : (sizeLine : Nat) = 16777216 := sizeLine_eq
    have fin : ∀ s' : Shared, Inv X pins σ H s' → ∀ tk, EP X pins σ k (.str (repS z n) tk) s' := fun s' I' tk => ⟨.str _, H, I', ⟨tk, rfl⟩, kQ _ M F _ H q (Same.r F) S (.str _)⟩
    refine P.mul_str (by rw [decide_eq_false (by omega), decide_eq_false (by omega)]; rfl) (fun hn _ => ?_) (fun hn _ => ?_) ?_
    · have hn1 : 1 ≤ n := by omega
      have h2 : (1000 : Int) ≤ (2 ^ 63 - 1) / n := by
        rw [Int.le_ediv_iff_mul_le (by omega)]
        have : 1000 * n ≤ 1000 * 1000 := by omega
        exact Int.le_trans this (by decide)
      omega
    · unfold PySem.Builtin.Str.tooLong
      have h3 : z.length * n.toNat ≤ 1000 * 1000 := Nat.mul_le_mul hx (by omega)
      simp only [decide_eq_false_iff_not, gt_iff_lt, Nat.not_lt] <;> omega
    · by_cases hn : n < 1
      · rw [if_pos hn]
        have hn0 : n = 0 := by omega
        subst hn0
        exact ⟨by decide, fin _ (I.tok _) _⟩
      · rw [if_neg hn]
        by_cases hq : (n == 1 || z.length == 0) = true
        · rw [if_pos hq]
          have e : repS z n = z := by
            rcases Bool.or_eq_true _ _ ▸ hq with e | e
            · have := eq_of_beq e
              subst this
              exact repS_one z
            · exact repS_nil (eq_of_beq e) n
          have f := fin s I t
          rw [e] at f
          exact f
        · rw [if_neg hq]
          refine ⟨?_, fin _ (I.tok _) _⟩
          have h3 : z.length * n.toNat ≤ 1000 * 1000 := Nat.mul_le_mul hx (by omega)
          have h4 := repS_length z n
          unfold repS at h4
          rw [h4]
          omega
  | lst h1 h2 h3 hz q =>
    cases r2
    obtain ⟨a, xs, rfl, ha, ra⟩ := h1.to S r1
    exact op_rep pins s σ H _ _ v u k I rx ry ⟨a, _, xs, rfl, rfl, ha, h2, h3, by rw [ra.length]; exact hz, fun p hp => q.to S hp (ra.flat _) fun d' M' F' z s S' r => kQ d' M' F' _ _ z s S' r⟩
inductive DivR (M : Mem) (Q : D → Mem → Prop) : D → D → Prop
  | int {i j : Int} : CDivW i j → Q (.int (i / j)) M → DivR M Q (.int i) (.int j)
theorem od_div : OpD X g (binaryOp .FloorDiv) (fun d e M Q => DivR M Q d e) := by
  intro pins s σ H x y v u k I rx ry h
  obtain ⟨F, M, d, e, Q, S, r1, r2, ar, kQ⟩ := h
  cases ar with
  | int hc q => cases r1; cases r2; exact op_fdivW pins s σ H _ _ v u k I rx ry ⟨_, _, rfl, rfl, hc, kQ _ M F _ H q (Same.r F) S (.int _)⟩
inductive ModR (M : Mem) (Q : D → Mem → Prop) : D → D → Prop
  | int {i j : Int} : 0 < j → Q (.int (i % j)) M → ModR M Q (.int i) (.int j)
theorem od_mod : OpD X g (binaryOp .Mod) (fun d e M Q => ModR M Q d e) := by
  intro pins s σ H x y v u k I rx ry h
  obtain ⟨F, M, d, e, Q, S, r1, r2, ar, kQ⟩ := h
  cases ar with
  | int hc q => cases r1; cases r2; exact op_mod pins s σ H _ _ v u k I rx ry ⟨_, _, rfl, rfl, hc, kQ _ M F _ H q (Same.r F) S (.int _)⟩
inductive PowR (M : Mem) (Q : D → Mem → Prop) : D → D → Prop
  | int {i j : Int} : CPow i j → Q (.int (i ^ j.toNat)) M → PowR M Q (.int i) (.int j)
theorem od_pow : OpD X g (binaryOp .Pow) (fun d e M Q => PowR M Q d e) := by
  intro pins s σ H x y v u k I rx ry h
  obtain ⟨F, M, d, e, Q, S, r1, r2, ar, kQ⟩ := h
  cases ar with
  | int hc q => cases r1; cases r2; exact op_pow pins s σ H _ _ v u k I rx ry ⟨_, _, rfl, rfl, hc, kQ _ M F _ H q (Same.r F) S (.int _)⟩
/-- comparisons of ints -/
inductive IntB (f : Int → Int → Bool) (M : Mem) (Q : D → Mem → Prop) : D → D → Prop
  | int {i j : Int} : Q (.bl (f i j)) M → IntB f M Q (.int i) (.int j)
theorem od_intB {f : Value → Value → Sem Value} {p : Int → Int → Bool} (ho : OpR X f (rI0 fun i j => .bl (p i j))) : OpD X g f (fun d e M Q => IntB p M Q d e) := by
  intro pins s σ H x y v u k I rx ry h
  obtain ⟨F, M, d, e, Q, S, r1, r2, ar, kQ⟩ := h
  cases ar with
  | int q => cases r1; cases r2; exact ho pins s σ H _ _ v u k I rx ry ⟨_, _, rfl, rfl, kQ _ M F _ H q (Same.r F) S (.bl _)⟩
theorem od_lt : OpD X g (compareOp .Lt) (fun d e M Q => IntB (fun i j => decide (i < j)) M Q d e) := od_intB op_lt
theorem od_gt : OpD X g (compareOp .Gt) (fun d e M Q => IntB (fun i j => decide (j < i)) M Q d e) := od_intB op_gt
theorem od_ge : OpD X g (compareOp .GtE) (fun d e M Q => IntB (fun i j => decide (j ≤ i)) M Q d e) := od_intB op_ge
/-- ==, != -/
inductive EqR (neg : Bool) (M : Mem) (Q : D → Mem → Prop) : D → D → Prop
  | dat {d e d' e' : D} : Deref M d d' → Deref M e e' → okD 60 d' = true → okD 60 e' = true → Q (.bl (eqD d' e' != neg)) M → EqR neg M Q d e
  | str {x y : Str} : Q (.bl (decide (x = y) != neg)) M → EqR neg M Q (.str x) (.str y)
  | int {x y : Int} : Q (.bl (decide (x = y) != neg)) M → EqR neg M Q (.int x) (.int y)
  | bl {x y : Bool} : Q (.bl ((x == y) != neg)) M → EqR neg M Q (.bl x) (.bl y)
theorem ne_false (b : Bool) : (b != false) = b := by cases b <;> rfl
theorem ne_true (b : Bool) : (b != true) = !b := by cases b <;> rfl
theorem dec_str {x y : Str} : decide (V.str x = V.str y) = decide (x = y) := by
  by_cases h : x = y
  · rw [decide_eq_true h, decide_eq_true (by rw [h])]
  · rw [decide_eq_false h, decide_eq_false (fun e => h (V.str.inj e))]
theorem dec_int {x y : Int} : decide (V.int x = V.int y) = decide (x = y) := by
  by_cases h : x = y
  · rw [decide_eq_true h, decide_eq_true (by rw [h])]
  · rw [decide_eq_false h, decide_eq_false (fun e => h (V.int.inj e))]
theorem dec_bl {x y : Bool} : decide (V.bl x = V.bl y) = (x == y) := by cases x <;> cases y <;> rfl
theorem od_eq (hK : g.K = X.K) (hu : X.A.units + 64 < cLine) : OpD X g (compareOp .Eq) (fun d e M Q => EqR false M Q d e) := by
  intro pins s σ H x y v u k I rx ry h
  obtain ⟨F, M, d, e, Q, S, r1, r2, ar, kQ⟩ := h
  cases ar with
  | dat h1 h2 o1 o2 q =>
    rw [ne_false] at q
    have k1 := Deref.dp S h1 r1
    have k2 := Deref.dp S h2 r2
    rw [hK] at k1 k2
    exact op_eqD hu pins s σ H _ _ v u k I rx ry ⟨_, _, k1, k2, okD_shaped o1, okD_shaped o2, by rw [eqv_py 60 _ _ o1 o2]; exact kQ _ M F _ H q (Same.r F) S (.bl _)⟩
  | str q => rw [ne_false] at q; cases r1; cases r2; exact op_eq pins s σ H _ _ v u k I rx ry ⟨rfl, by rw [dec_str]; exact kQ _ M F _ H q (Same.r F) S (.bl _)⟩
  | int q => rw [ne_false] at q; cases r1; cases r2; exact op_eq pins s σ H _ _ v u k I rx ry ⟨rfl, by rw [dec_int]; exact kQ _ M F _ H q (Same.r F) S (.bl _)⟩
  | bl q => rw [ne_false] at q; cases r1; cases r2; exact op_eq pins s σ H _ _ v u k I rx ry ⟨rfl, by rw [dec_bl]; exact kQ _ M F _ H q (Same.r F) S (.bl _)⟩
theorem od_ne (hK : g.K = X.K) (hu : X.A.units + 64 < cLine) : OpD X g (compareOp .NotEq) (fun d e M Q => EqR true M Q d e) := by
  intro pins s σ H x y v u k I rx ry h
  obtain ⟨F, M, d, e, Q, S, r1, r2, ar, kQ⟩ := h
  cases ar with
  | dat h1 h2 o1 o2 q =>
    rw [ne_true] at q
    have k1 := Deref.dp S h1 r1
    have k2 := Deref.dp S h2 r2
    rw [hK] at k1 k2
    exact op_neD hu pins s σ H _ _ v u k I rx ry ⟨_, _, k1, k2, okD_shaped o1, okD_shaped o2, by rw [eqv_py 60 _ _ o1 o2]; exact kQ _ M F _ H q (Same.r F) S (.bl _)⟩
  | str q => rw [ne_true] at q; cases r1; cases r2; exact op_ne pins s σ H _ _ v u k I rx ry ⟨rfl, by rw [dec_str]; exact kQ _ M F _ H q (Same.r F) S (.bl _)⟩
  | int q => rw [ne_true] at q; cases r1; cases r2; exact op_ne pins s σ H _ _ v u k I rx ry ⟨rfl, by rw [dec_int]; exact kQ _ M F _ H q (Same.r F) S (.bl _)⟩
  | bl q => rw [ne_true] at q; cases r1; cases r2; exact op_ne pins s σ H _ _ v u k I rx ry ⟨rfl, by rw [dec_bl]; exact kQ _ M F _ H q (Same.r F) S (.bl _)⟩
/-- is None, is not None -/
def isN : D → Bool
  | .non => true
  | _ => false
inductive IsR (neg : Bool) (M : Mem) (Q : D → Mem → Prop) : D → D → Prop
  | non {d : D} : Q (.bl (isN d != neg)) M → IsR neg M Q d .non
theorem isN_rep {K : PySem.W.Frag} {v : V} {d : D} (r : Rep K F v d) : decide (v = .non) = isN d := by
  cases r <;> first | rfl | exact decide_eq_false (fun e => nomatch e)
theorem od_is : OpD X g (compareOp .Is) (fun d e M Q => IsR false M Q d e) := by
  intro pins s σ H x y v u k I rx ry h
  obtain ⟨F, M, d, e, Q, S, r1, r2, ar, kQ⟩ := h
  cases ar with
  | non q => rw [ne_false] at q; cases r2; exact op_isN pins s σ H _ _ v u k I rx ry ⟨rfl, by rw [isN_rep r1]; exact kQ _ M F _ H q (Same.r F) S (.bl _)⟩
end
end DL
namespace DL
variable [Wd]
open PySem L2 PySem.Spec PyProof.Rows
/-! ### dicts whose keys are tuples, nested -/
inductive EntI (K : PySem.W.Frag) (F : Hp) : List (NestedKey × Addr × Value) → List (D × D) → Prop
  | nil : EntI K F [] []
  | cons {kd d : D} {k : NestedKey} {b : Addr} {u : Value} {v : V} {xs : List (NestedKey × Addr × Value)} {es : List (D × D)} : toNK 8 kd = some k → Rep K F (.ref b) kd → RelV v u → Rep K F v d → EntI K F xs es → EntI K F ((k, b, u) :: xs) ((kd, d) :: es)
theorem Ents.to {K : PySem.W.Frag} {F : Hp} : ∀ {xs : List (NestedKey × Addr × Value)} {es : List (D × D)}, Ents K F xs es → EntI K F xs es
  | [], [], _ => .nil
  | [], _ :: _, ⟨_, l, _⟩ => by cases l
  | _ :: _, [], ⟨_, l, _⟩ => by cases l
  | (k, b, u) :: xs, (kd, d) :: es, ⟨vs, l, r1, rv, r2⟩ => by
    cases r1 with
    | cons a1 t1 =>
      cases rv with
      | cons a2 t2 =>
        cases r2 with
        | cons a3 t3 => exact .cons (List.cons.inj l).1 a1 a2 a3 (Ents.to ⟨_, (List.cons.inj l).2, t1, t2, t3⟩)
theorem EntI.of {K : PySem.W.Frag} {F : Hp} {xs : List (NestedKey × Addr × Value)} {es : List (D × D)} (h : EntI K F xs es) : Ents K F xs es := by
  induction h with
  | nil => exact ⟨[], rfl, .nil, .nil, .nil⟩
  | cons a1 a2 a3 a4 _ ih =>
    obtain ⟨vs, l, r1, rv, r2⟩ := ih
    exact ⟨_ :: vs, by rw [List.map_cons, List.map_cons, l, a1], .cons a2 r1, .cons a3 rv, .cons a4 r2⟩
def lookT (es : List (D × D)) (k : NestedKey) : Option D := (es.find? fun e => decide (toNK 8 e.1 = some k)).map (·.2)
def putT (es : List (D × D)) (kd : D) (k : NestedKey) (d : D) : List (D × D) :=
  if (es.any fun e => decide (toNK 8 e.1 = some k)) = true then es.map (fun e => if toNK 8 e.1 = some k then (e.1, d) else e) else es ++ [(kd, d)]
theorem EntI.length {K : PySem.W.Frag} {F : Hp} {xs : List (NestedKey × Addr × Value)} {es : List (D × D)} (h : EntI K F xs es) : xs.length = es.length := by
  induction h with
  | nil => rfl
  | cons _ _ _ _ _ ih => rw [List.length_cons, List.length_cons, ih]
theorem EntI.look {K : PySem.W.Frag} {F : Hp} {xs : List (NestedKey × Addr × Value)} {es : List (D × D)} (h : EntI K F xs es) (k : NestedKey) :
    (lookT es k = none → atKey xs k = none) ∧ ∀ d, lookT es k = some d → ∃ b u v, atKey xs k = some (b, u) ∧ RelV v u ∧ Rep K F v d := by
  induction h with
  | nil => exact ⟨fun _ => rfl, fun d e => by cases e⟩
  | cons a1 a2 a3 a4 _ ih =>
    rename_i kd d k' b u v xs es h0
    unfold lookT atKey at ih ⊢
    rw [List.find?_cons, List.find?_cons, a1]
    by_cases q : k' = k
    · subst q
      simp only [decide_true]
      exact ⟨(fun z => nomatch z), fun d' e => ⟨b, u, v, rfl, a3, by cases e; exact a4⟩⟩
    · have q2 : ¬ (some k' = some k) := fun z => q (Option.some.inj z)
      simp only [decide_eq_false q2, decide_eq_false q]
      exact ih
theorem EntI.any {K : PySem.W.Frag} {F : Hp} {xs : List (NestedKey × Addr × Value)} {es : List (D × D)} (h : EntI K F xs es) (k : NestedKey) : (es.any fun e => decide (toNK 8 e.1 = some k)) = (atKey xs k).isSome := by
  induction h with
  | nil => rfl
  | cons a1 a2 a3 a4 _ ih =>
    rename_i kd d k' b u v xs es h0
    unfold atKey at ih ⊢
    rw [List.any_cons, ih, a1, List.find?_cons]
    by_cases q : k' = k
    · subst q; simp
    · have q2 : ¬ (some k' = some k) := fun z => q (Option.some.inj z)
      simp [q]
theorem EntI.append {K : PySem.W.Frag} {F : Hp} {xs ys : List (NestedKey × Addr × Value)} {es fs : List (D × D)} (h : EntI K F xs es) (h' : EntI K F ys fs) : EntI K F (xs ++ ys) (es ++ fs) := by
  induction h with
  | nil => exact h'
  | cons a1 a2 a3 a4 _ ih => exact .cons a1 a2 a3 a4 ih
theorem EntI.put {K : PySem.W.Frag} {F : Hp} {xs : List (NestedKey × Addr × Value)} {es : List (D × D)} (h : EntI K F xs es) {kd d : D} {k : NestedKey} {b : Addr} {u : Value} {v : V} (hk : toNK 8 kd = some k) (rk : Rep K F (.ref b) kd) (rv : RelV v u) (rd : Rep K F v d) :
    EntI K F (storedH xs k b u) (putT es kd k d) := by
  unfold storedH putT
  rw [h.any]
  by_cases q : (atKey xs k).isSome = true
  · rw [if_pos q, if_pos q]
    clear q
    induction h with
    | nil => exact .nil
    | cons a1 a2 a3 a4 _ ih =>
      rename_i kd' d' k' b' u' v' xs es h0
      rw [List.map_cons, List.map_cons, a1]
      by_cases z : k' = k
      · subst z
        rw [if_pos rfl]
        show EntI K F (putAt k' u (k', b', u') :: _) _
        unfold putAt
        rw [if_pos rfl]
        exact .cons a1 a2 rv rd ih
      · have z2 : ¬ (some k' = some k) := fun w => z (Option.some.inj w)
        rw [if_neg z2]
        show EntI K F (putAt k u (k', b', u') :: _) _
        unfold putAt
        rw [if_neg z]
        exact .cons a1 a2 a3 a4 ih
  · rw [if_neg q, if_neg q]
    exact h.append (.cons hk rk rv rd .nil)
section
variable {X : Cx} {g : G} {F : Hp} {M : Mem} {H : Hp} {pins : List (Addr × Obj)} {σ : L2.St} {s : Shared}
mutual
theorem rep_nk (I : Inv X pins σ H s) (S : Sta g F M H) : ∀ (n : Nat) (d : D) (k : NestedKey) (v : V) (u : Value), toNK n d = some k → Rep g.K F v d → RelV v u → NestedIs s.heap k u ∧ k.depth ≤ n
  | n, .non, k, v, u, e, r, ru => by
    have e' : some NestedKey.none = some k := by cases n <;> exact e
    cases e'; cases r
    obtain rfl : u = Value.none := ru
    exact ⟨.none, Nat.zero_le _⟩
  | n, .bl b, k, v, u, e, r, ru => by
    have e' : some (NestedKey.num (if b = true then 1 else 0)) = some k := by cases n <;> exact e
    cases e'; cases r
    obtain rfl : u = Value.bool b := ru
    exact ⟨.bool rfl, Nat.zero_le _⟩
  | n, .int i, k, v, u, e, r, ru => by
    have e' : some (NestedKey.num i) = some k := by cases n <;> exact e
    cases e'; cases r
    obtain ⟨t, rfl⟩ : ∃ t, u = Value.int i t := ru
    exact ⟨.int _ _, Nat.zero_le _⟩
  | n, .str x, k, v, u, e, r, ru => by
    have e' : some (NestedKey.text x) = some k := by cases n <;> exact e
    cases e'; cases r
    obtain ⟨t, rfl⟩ : ∃ t, u = Value.str x t := ru
    exact ⟨.text _ _, Nat.zero_le _⟩
  | n + 1, .tup ds, k, v, u, e, r, ru => by
    have e' : (allS (toNK n) ds).map NestedKey.tup = some k := e
    cases q : allS (toNK n) ds with
    | none => rw [q] at e'; cases e'
    | some ks =>
      rw [q] at e'
      cases e'
      cases r with
      | tup ha r =>
        rename_i a xs
        obtain rfl : u = Value.ref a := ru
        obtain ⟨_, its, rv, o, h1, h2, m, h3⟩ := (show ObjOk X.prog X.w H s.heap a (.tup xs) from I.hok a _ (S.sub.tup ha))
        obtain ⟨a1, a2⟩ := reps_nk I S n ds ks xs its q r rv
        refine ⟨.tup h1 h2 h3 (by simpa using a1), ?_⟩
        show NestedKey.depthAll ks + 1 ≤ n + 1
        omega
  | 0, .tup ds, _, _, _, e, _, _ => by cases e
  | n, .lst _, _, _, _, e, _, _ => by cases n <;> cases e
  | n, .ty _, _, _, _, e, _, _ => by cases n <;> cases e
  | n, .ptr _, _, _, _, e, _, _ => by cases n <;> cases e
  | n, .rol _, _, _, _, e, _, _ => by cases n <;> cases e
  | n, .dic _, _, _, _, e, _, _ => by cases n <;> cases e
  | n, .dit _, _, _, _, e, _, _ => by cases n <;> cases e
  | n, .obj _ _, _, _, _, e, _, _ => by cases n <;> cases e
theorem reps_nk (I : Inv X pins σ H s) (S : Sta g F M H) : ∀ (n : Nat) (ds : List D) (ks : List NestedKey) (xs : List V) (its : List Value), allS (toNK n) ds = some ks → Reps g.K F xs ds → Vals xs its → NestedAll s.heap ks its ∧ NestedKey.depthAll ks ≤ n
  | n, [], ks, xs, its, e, r, rv => by
    cases e; cases r; cases rv
    exact ⟨.nil, Nat.zero_le _⟩
  | n, d :: ds, ks, xs, its, e, r, rv => by
    have e' := e
    unfold allS at e'
    cases q1 : toNK n d with
    | none => rw [q1] at e'; cases e'
    | some y =>
      cases q2 : allS (toNK n) ds with
      | none => rw [q1, q2] at e'; cases e'
      | some ys =>
        rw [q1, q2] at e'
        cases e'
        cases r with
        | cons r1 r2 =>
          cases rv with
          | cons v1 v2 =>
            obtain ⟨a1, a2⟩ := rep_nk I S n d y _ _ q1 r1 v1
            obtain ⟨b1, b2⟩ := reps_nk I S n ds ys _ _ q2 r2 v2
            refine ⟨.cons a1 b1, ?_⟩
            show max (NestedKey.depth y) (NestedKey.depthAll ys) ≤ n
            omega
end
/-- the dict itself -/
theorem nk_dict (hw : X.w = Wd.w) (I : Inv X pins σ H s) (S : Sta g F M H) {a : Addr} {xs : List (NestedKey × Addr × Value)} {es : List (D × D)} (h : Rd H a (hoN a xs)) (e : EntI g.K F xs es) :
    s.heap.DictOfH (nestedKind X.prog X.w) a xs ∧ xs.length ≤ sizeLine ∧ (a == sysModules) = false := by
  obtain ⟨⟨z, y, nd, o, es', ep, h1, h2, h3, h4⟩, hr⟩ : ObjOk X.prog X.w H s.heap a (hoN a xs) := by
    rcases h with h | ⟨ob, h⟩
    · exact I.hok a _ h
    · exact (show ObjOk X.prog X.w H s.heap a (.frz ob (hoN a xs)) from I.hok a _ h).2
  refine ⟨⟨o, es', ep, h1, h2, h3, ?_, fun x hx => ?_, nd⟩, z, y⟩
  · rw [h4]
    refine List.map_congr_left fun x _ => ?_
    show _ = (⟨x.1.hash X.w, _, _⟩ : DictEntry)
    rw [hw]
  · clear h1 h2 h3 h4 z nd h hr
    induction e with
    | nil => cases hx
    | cons a1 a2 a3 a4 _ ih =>
      rcases List.mem_cons.mp hx with q | q
      · subst q
        obtain ⟨b1, b2⟩ := rep_nk I S 8 _ _ _ _ a1 a2 rfl
        exact ⟨b1, b2⟩
      · exact ih q
/-- what stands behind d[k] = v -/
theorem nk_new (hw : X.w = Wd.w) {H' : Hp} {h' : Heap} {a : Addr} {xs : List (NestedKey × Addr × Value)} (dd : h'.DictOfH (nestedKind X.prog X.w) a xs) (z : xs.length ≤ sizeLine) (y : (a == sysModules) = false) : ObjOk X.prog X.w H' h' a (hoN a xs) := by
  obtain ⟨o, es', ep, h1, h2, h3, h4, _, nd⟩ := dd
  refine ⟨⟨z, y, nd, o, es', ep, h1, h2, h3, ?_⟩, ⟨o, h1⟩, fun g1 g2 ⟨z1, y1, nd1, o1, es1, ep1, b1, b2, b3, b4⟩ kp => ⟨z1, y1, nd1, o1, es1, ep1, kp o1 b1, b2, b3, b4⟩⟩
  rw [h4]
  refine List.map_congr_left fun x _ => ?_
  show (⟨x.1.hash X.w, _, _⟩ : DictEntry) = _
  rw [hw]
end
end DL
namespace DL
variable [Wd]
open PySem L2
section
variable {X : Cx} {g : G} {W : WX} {pos : Pos} {a b c e o : Expr} {es : List Expr} {da db dc de : DE} {dA : DA} {x : Str} {p apos cpos : Pos}
/-! ### in -/
def flatD : D → Bool
  | .non => true
  | .bl _ => true
  | .int _ => true
  | .str _ => true
  | _ => false
theorem flat_rep {K : PySem.W.Frag} {F : Hp} {v : V} {d : D} (r : Rep K F v d) (h : flatD d = true) : flatV v = true := by
  cases r <;> first | rfl | (simp [flatD] at h)
theorem flats_rep {K : PySem.W.Frag} {F : Hp} : ∀ {vs : List V} {ds : List D}, Reps K F vs ds → ds.all flatD = true → vs.all flatV = true
  | _, _, .nil, _ => rfl
  | _, _, .cons r t, h => by
    rw [List.all_cons, Bool.and_eq_true] at h ⊢
    exact ⟨flat_rep r h.1, flats_rep t h.2⟩
theorem eqV_rep {K : PySem.W.Frag} {F : Hp} {v u : V} {d e : D} (r : Rep K F v d) (s : Rep K F u e) (h : flatD d = true) (h' : flatD e = true) : eqV v u = eqD d e := by
  cases r <;> cases s <;> first | rfl | (simp [flatD] at h) | (simp [flatD] at h')
theorem inV_rep {K : PySem.W.Frag} {F : Hp} {v : V} {d : D} (r : Rep K F v d) (h : flatD d = true) : ∀ {vs : List V} {ds : List D}, Reps K F vs ds → ds.all flatD = true → inV v vs = ds.any fun z => eqD z d
  | _, _, .nil, _ => rfl
  | _, _, .cons q t, h' => by
    rw [List.all_cons, Bool.and_eq_true] at h'
    have ih := inV_rep r h t h'.2
    unfold inV at ih ⊢
    rw [List.any_cons, List.any_cons, eqV_rep q r h'.1 h, ih]
inductive IsDic (M : Mem) : D → List (Key × D) → Prop
  | dic (es : List (Key × D)) : IsDic M (.dic es) es
  | ptr {p : Addr} {es : List (Key × D)} : (p, .dic es) ∈ M → IsDic M (.ptr p) es
inductive IsDit (M : Mem) : D → List (D × D) → Prop
  | dit (es : List (D × D)) : IsDit M (.dit es) es
  | ptr {p : Addr} {es : List (D × D)} : (p, .dit es) ∈ M → IsDit M (.ptr p) es
def keyD : Key → D
  | .inl i => .int i
  | .inr x => .str x
theorem key_rep {K : PySem.W.Frag} {F : Hp} {v : V} {k : Key} (r : Rep K F v (keyD k)) : v = kV k := by
  cases k <;> (cases r; rfl)
def lookD {κ : Type} [DecidableEq κ] (es : List (κ × D)) (k : κ) : Option D := (es.find? fun kv => decide (kv.1 = k)).map (·.2)
def putD {κ : Type} [DecidableEq κ] (es : List (κ × D)) (k : κ) (d : D) : List (κ × D) :=
  if (es.any fun kv => decide (kv.1 = k)) = true then es.map (fun kv => if kv.1 = k then (kv.1, d) else kv) else es ++ [(k, d)]
theorem look_rep {κ : Type} [DecidableEq κ] {K : PySem.W.Frag} {F : Hp} (k : κ) : ∀ {kvs : List (κ × V)} {es : List (κ × D)}, kvs.map (·.1) = es.map (·.1) → Reps K F (kvs.map (·.2)) (es.map (·.2)) →
    (lookD es k = none → valV kvs k = none) ∧ ∀ d, lookD es k = some d → ∃ v, valV kvs k = some v ∧ Rep K F v d
  | [], [], _, _ => ⟨fun _ => rfl, fun d h => by cases h⟩
  | (k1, v1) :: kvs, (k2, d2) :: es, hk, r => by
    have e1 : k1 = k2 := (List.cons.inj hk).1
    subst e1
    cases r with
    | cons r1 r2 =>
      have ih := look_rep k (kvs := kvs) (es := es) (List.cons.inj hk).2 r2
      by_cases h : k1 = k
      · have a1 : lookD ((k1, d2) :: es) k = some d2 := by simp [lookD, List.find?_cons, h]
        have a2 : valV ((k1, v1) :: kvs) k = some v1 := valV_pos h
        rw [a1, a2]
        exact ⟨(fun h => nomatch h), fun d e => ⟨v1, rfl, by cases e; exact r1⟩⟩
      · have a1 : lookD ((k1, d2) :: es) k = lookD es k := by simp [lookD, List.find?_cons, h]
        rw [a1, valV_neg h]
        exact ih
theorem any_rep {κ : Type} [DecidableEq κ] (k : κ) : ∀ {kvs : List (κ × V)} {es : List (κ × D)}, kvs.map (·.1) = es.map (·.1) → (kvs.any fun kv => decide (kv.1 = k)) = es.any fun kv => decide (kv.1 = k)
  | [], [], _ => rfl
  | (k1, v1) :: kvs, (k2, d2) :: es, hk => by
    rw [List.any_cons, List.any_cons, any_rep k (List.cons.inj hk).2, show k1 = k2 from (List.cons.inj hk).1]
theorem put_rep {κ : Type} [DecidableEq κ] {K : PySem.W.Frag} {F : Hp} {v : V} {d : D} (k : κ) {kvs : List (κ × V)} {es : List (κ × D)} (hk : kvs.map (·.1) = es.map (·.1)) (r : Reps K F (kvs.map (·.2)) (es.map (·.2))) (rv : Rep K F v d) :
    (putK kvs k v).map (·.1) = (putD es k d).map (·.1) ∧ Reps K F ((putK kvs k v).map (·.2)) ((putD es k d).map (·.2)) := by
  unfold putK putD
  rw [any_rep k hk]
  by_cases h : (es.any fun kv => decide (kv.1 = k)) = true
  · rw [if_pos h, if_pos h]
    clear h
    induction kvs generalizing es with
    | nil =>
      cases es with
      | nil => exact ⟨rfl, .nil⟩
      | cons _ _ => cases hk
    | cons p kvs ih =>
      obtain ⟨k1, v1⟩ := p
      cases es with
      | nil => cases hk
      | cons q es =>
        obtain ⟨k2, d2⟩ := q
        have e1 : k1 = k2 := (List.cons.inj hk).1
        subst e1
        cases r with
        | cons r1 r2 =>
          obtain ⟨i1, i2⟩ := ih (List.cons.inj hk).2 r2
          by_cases e : k1 = k
          · simp only [List.map_cons, if_pos e]
            exact ⟨by rw [i1], .cons rv i2⟩
          · simp only [List.map_cons, if_neg e]
            exact ⟨by rw [i1], .cons r1 i2⟩
  · rw [if_neg h, if_neg h, List.map_append, List.map_append, List.map_append, List.map_append, hk]
    exact ⟨rfl, r.append (.cons rv .nil)⟩
section
variable {F : Hp} {M : Mem} {H : Hp}
theorem IsDic.to {v : V} {d : D} {es : List (Key × D)} (h : IsDic M d es) (S : Sta g F M H) (r : Rep g.K F v d) : ∃ a kvs, v = .ref a ∧ Rd H a (.dK kvs) ∧ kvs.map (·.1) = es.map (·.1) ∧ Reps g.K F (kvs.map (·.2)) (es.map (·.2)) := by
  cases h with
  | dic => cases r with | dic e l r => exact ⟨_, _, rfl, S.sub.dK e, l, r⟩
  | ptr h =>
    cases r
    obtain ⟨_, o, ho, kvs, rfl, l, r⟩ := S.mem _ _ h
    exact ⟨_, kvs, rfl, .inl ho, l, r⟩
theorem IsDit.to {v : V} {d : D} {es : List (D × D)} (h : IsDit M d es) (S : Sta g F M H) (r : Rep g.K F v d) : ∃ a xs, v = .ref a ∧ Rd H a (hoN a xs) ∧ EntI g.K F xs es := by
  cases h with
  | dit =>
    cases r with
    | dit e l r1 rv r2 => exact ⟨_, _, rfl, S.sub.nk e, Ents.to ⟨_, l, r1, rv, r2⟩⟩
  | ptr h =>
    cases r
    obtain ⟨_, o, ho, xs, rfl, r⟩ := S.mem _ _ h
    exact ⟨_, xs, rfl, .inl ho, r.to⟩
theorem EntI.isSome {K : PySem.W.Frag} {xs : List (NestedKey × Addr × Value)} {es : List (D × D)} (h : EntI K F xs es) (k : NestedKey) : (atKey xs k).isSome = (lookT es k).isSome := by
  obtain ⟨a, b⟩ := h.look k
  cases q : lookT es k with
  | none => rw [a q]; rfl
  | some d =>
    obtain ⟨_, _, _, e, _⟩ := b d q
    rw [e]; rfl
theorem room_in1 {A : Around} (hu : A.units + 64 < cLine) : A.in1.units + 8 < cLine := by
  have e : A.in1.units = A.units + 1 := rfl
  omega
end
inductive InR (neg : Bool) (M : Mem) (Q : D → Mem → Prop) : D → D → Prop
  | seq {d e : D} {ds : List D} : IsS M e ds → flatD d = true → ds.all flatD = true → Q (.bl ((ds.any fun z => eqD z d) != neg)) M → InR neg M Q d e
  | dic {k : Key} {e : D} {es : List (Key × D)} : IsDic M e es → Q (.bl ((lookD es k).isSome != neg)) M → InR neg M Q (keyD k) e
  | dit {e : D} {ds : List D} {k : NestedKey} {es : List (D × D)} : IsDit M e es → toNK 8 (.tup ds) = some k → Q (.bl ((lookT es k).isSome != neg)) M → InR neg M Q (.tup ds) e
  | deep {d d' e e' : D} {ds : List D} : Deref M d d' → Deref M e (.lst ds) → okD 60 d' = true → okD 60 (.lst ds) = true → Q (.bl ((ds.any fun z => eqD z d') != neg)) M → InR neg M Q d e
theorem look_some {o : Option D} {o' : Option V} (h1 : o = none → o' = none) (h2 : ∀ d, o = some d → ∃ v, o' = some v) : o'.isSome = o.isSome := by
  cases o with
  | none => rw [h1 rfl]; rfl
  | some d => obtain ⟨v, e⟩ := h2 d rfl; rw [e]; rfl
theorem okD_up : ∀ (n : Nat) (d : D), okD n d = true → okD (n + 1) d = true
  | n, .non, _ => rfl
  | n, .bl _, _ => rfl
  | n, .int _, _ => rfl
  | 0, .str x, h => h
  | n + 1, .str x, h => h
  | n + 1, .tup ds, h => List.all_eq_true.mpr fun e he => okD_up n e (List.all_eq_true.mp h e he)
  | n + 1, .lst ds, h => List.all_eq_true.mpr fun e he => okD_up n e (List.all_eq_true.mp h e he)
  | 0, .tup ds, h => by simp [okD] at h
  | 0, .lst ds, h => by simp [okD] at h
  | n, .ty _, h => by cases n <;> simp [okD] at h
  | n, .ptr _, h => by cases n <;> simp [okD] at h
  | n, .rol _, h => by cases n <;> simp [okD] at h
  | n, .dic _, h => by cases n <;> simp [okD] at h
  | n, .dit _, h => by cases n <;> simp [okD] at h
  | n, .obj _ _, h => by cases n <;> simp [okD] at h
theorem od_in (hw : X.w = Wd.w) (hK : g.K = X.K) (hu : X.A.units + 65 < cLine) : OpD X g (compareOp .In) (fun d e M Q => InR false M Q d e) := by
  intro pins s σ H x y v u k I rx ry h
  obtain ⟨F, M, d, e, Q, S, r1, r2, ar, kQ⟩ := h
  cases ar with
  | seq hs h1 h2 q =>
    rw [ne_false] at q
    obtain ⟨a, xs, rfl, ha, ra⟩ := hs.to S r2
    rw [hK] at ha
    refine op_in_seq pins s σ H _ _ v u k I rx ry ⟨a, xs, rfl, ha, flat_rep r1 h1, flats_rep ra h2, ?_⟩
    rw [if_neg Bool.false_ne_true, inV_rep r1 h1 ra h2]
    exact kQ _ M F _ H q (Same.r F) S (.bl _)
  | dic hs q =>
    rw [ne_false] at q
    obtain ⟨a, kvs, rfl, ha, l, ra⟩ := hs.to S r2
    obtain rfl := key_rep r1
    cases ry
    obtain ⟨l1, l2⟩ := look_rep _ l ra
    refine d_in (o := valV kvs _) (by omega) I (.inl ⟨kvs, _, ha, rfl, rfl⟩) rx fun s' I' => ⟨.bl _, H, I', rfl, ?_⟩
    rw [look_some l1 fun d e => let ⟨v, a, _⟩ := l2 d e; ⟨v, a⟩]
    exact kQ _ M F _ H q (Same.r F) S (.bl _)
  | dit hs hk q =>
    rw [ne_false] at q
    obtain ⟨a, xs, rfl, ha, en⟩ := hs.to S r2
    obtain ⟨hm, hz, hy⟩ := nk_dict hw I S ha en
    cases ry
    cases r1 with
    | tup hb rb =>
      cases rx
      obtain ⟨b1, b2⟩ := rep_nk I S 8 _ _ _ _ hk (.tup hb rb) rfl
      refine wpAny_in_heap (knd := nestedKind X.prog X.w) (room_in1 (by omega)) ⟨b1, b2⟩ hy hm ⟨.bl _, H, I.tok _, rfl, ?_⟩
      rw [en.isSome]
      exact kQ _ M F _ H q (Same.r F) S (.bl _)
  | deep h1 h2 o1 o2 q =>
    rw [ne_false] at q
    have k1 := Deref.dp S h1 r1
    have k2 := Deref.dp S h2 r2
    rw [hK] at k1 k2
    refine op_inD hu pins s σ H _ _ v u k I rx ry ⟨_, _, k1, k2, okD_shaped o1, okD_shaped o2, ?_⟩
    rename_i d' e' ds
    have e1 : ((pyDs ds).any fun z => PyData.eqv z (pyD d')) = ds.any fun z => eqD z d' := by
      have o1' := okD_up 60 d' o1
      have o2' : ds.all (okD 60) = true := List.all_eq_true.mpr fun z hz => okD_up 59 z (List.all_eq_true.mp o2 z hz)
      clear q k2 h2 o2
      induction ds with
      | nil => rfl
      | cons z zs ih =>
        rw [List.all_cons, Bool.and_eq_true] at o2'
        show (PyData.eqv (pyD z) (pyD d') || (pyDs zs).any fun z => PyData.eqv z (pyD d')) = (eqD z d' || zs.any fun z => eqD z d')
        rw [eqv_py 60 z d' o2'.1 o1, ih o2'.2]
    rw [e1]
    exact kQ _ M F _ H q (Same.r F) S (.bl _)
/-! ### subscripts -/
def IxD (X : Cx) (g : G) (r : DR2) : Prop := IxR X (liftR g r)
theorem de_ix {r : DR2} (hr : IxD X g r) (ha : PE X a (liftE g W da)) (hb : PE X b (liftE g W db)) (hs : PlainIx b := by exact fun _ _ => rfl) : PE X (.Subscript a b pos) (liftE g W (dOp r da db)) :=
  PE.imp (pe_ix hr ha hb hs) fun _ _ _ h => lift_op h
inductive IxQ (M : Mem) (Q : D → Mem → Prop) : D → D → Prop
  | seq {d e : D} {ds : List D} {i : Int} : IsS M d ds → atI ds i = some e → Q e M → IxQ M Q d (.int i)
  | str {z : Str} {i : Int} {c : Nat} : z.length ≤ sizeLine → atI z.cps.toList i = some c → Q (.str ⟨#[c]⟩) M → IxQ M Q (.str z) (.int i)
  | dic {k : Key} {d e : D} {es : List (Key × D)} : IsDic M d es → lookD es k = some e → Q e M → IxQ M Q d (keyD k)
  | dit {d e : D} {ds : List D} {k : NestedKey} {es : List (D × D)} : IsDit M d es → toNK 8 (.tup ds) = some k → lookT es k = some e → Q e M → IxQ M Q d (.tup ds)
theorem atI_rep {K : PySem.W.Frag} {F : Hp} {vs : List V} {ds : List D} {i : Int} {d : D} (r : Reps K F vs ds) (h : atI ds i = some d) : ∃ v, atI vs i = some v ∧ Rep K F v d := by
  unfold atI at h ⊢
  rw [r.length]
  cases e : ixN ds.length i with
  | none => rw [e] at h; cases h
  | some j =>
    rw [e] at h
    exact r.get h
theorem ix_gen {value slice : Expr} {pins : List (Addr × Obj)} {s : Shared} {σ : L2.St} {u : Value} {Q : VK} {a : Addr} (hT : s.TypeIs (.ref a) "dict") (hs : subscripted slice false (.ref a) u = operate [.ref a, u] (getItem (.ref a) u))
    (h : wpAny (model X.prog X.w) X.A (getItem (.ref a) u) (EP X pins σ Q) X.xe s) : wpAny (model X.prog X.w) X.A (PyProof.Rows.subscriptTail value slice (.ref a) u) (EP X pins σ Q) X.xe s := by
  unfold PyProof.Rows.subscriptTail
  refine wpAny_bind ?_
  rw [getitemInPython_of_ne hT.not_modules]
  refine wpAny_bind (wpAny_specialOf hT PySem.F.slot_dict_getitem.lookup ?_)
  have fin : wpAny (model X.prog X.w) X.A (subscripted slice false (.ref a) u) (fun r s₃ => wpAny (model X.prog X.w) X.A (letTemporaryGo value (.ref a) r >>= fun _ => pure r) (EP X pins σ Q) X.xe s₃) X.xe s := by
    rw [hs]
    exact wpAny_operating (wpAny_mono h (fun r s₃ h₃ => wpAny_bind (wpAny_letTemporaryGo (wpAny_pure h₃))) fun _ _ x => x)
  first
    | exact wpAny_pure (wpAny_bind fin)
    | exact wpAny_bind (wpAny_pure (wpAny_bind fin))
    | exact wpAny_bind fin
theorem ix_dic (hu : X.A.units + 1 < cLine) : IxR X (fun x y H Q => ∃ a v, x = .ref a ∧ DGet H a y (some v) ∧ Q v H) := by
  intro value slice pins s σ H x y v u Q I rx ry h hs
  obtain ⟨a, z, rfl, gt, q⟩ := h
  cases rx
  have hT := dict_typeIs I gt
  unfold PyProof.Rows.subscriptTail
  refine wpAny_bind ?_
  rw [getitemInPython_of_ne hT.not_modules]
  refine wpAny_bind (wpAny_specialOf hT PySem.F.slot_dict_getitem.lookup ?_)
  have fin : wpAny (model X.prog X.w) X.A (subscripted slice false (.ref a) u) (fun r s₃ => wpAny (model X.prog X.w) X.A (letTemporaryGo value (.ref a) r >>= fun _ => pure r) (EP X pins σ Q) X.xe s₃) X.xe s := by
    rw [hs]
    exact wpAny_operating (wpAny_mono (d_getItem (Q := fun w s' => ∃ z' H', Inv X pins σ H' s' ∧ RelV z' w ∧ Q z' H') hu I gt ry fun w' s3 I3 rw' => ⟨z, H, I3, rw', q⟩) (fun r s₃ h₃ => wpAny_bind (wpAny_letTemporaryGo (wpAny_pure h₃))) fun _ _ x => x)
  first
    | exact wpAny_pure (wpAny_bind fin)
    | exact wpAny_bind (wpAny_pure (wpAny_bind fin))
    | exact wpAny_bind fin
theorem od_ix (hw : X.w = Wd.w) (hK : g.K = X.K) (hu : X.A.units + 64 < cLine) : IxD X g (fun d e M Q => IxQ M Q d e) := by
  intro value slice pins s σ H x y v u k I rx ry h hs
  obtain ⟨F, M, d, e, Q, S, r1, r2, ar, kQ⟩ := h
  cases ar with
  | seq h1 h2 q =>
    obtain ⟨a, xs, rfl, ha, ra⟩ := h1.to S r1
    cases r2
    obtain ⟨w, hw, rw_⟩ := atI_rep ra h2
    rw [hK] at ha
    rcases ha with ha | ha
    · exact ix_list value slice pins s σ H _ _ v u k I rx ry ⟨a, xs, _, w, rfl, rfl, ha, hw, kQ _ M F _ H q (Same.r F) S rw_⟩ hs
    · exact ix_tup value slice pins s σ H _ _ v u k I rx ry ⟨a, xs, _, w, rfl, rfl, ha, hw, kQ _ M F _ H q (Same.r F) S rw_⟩ hs
  | str hz h2 q =>
    cases r1; cases r2
    exact ix_str value slice pins s σ H _ _ v u k I rx ry ⟨_, _, _, rfl, rfl, hz, h2, kQ _ M F _ H q (Same.r F) S (.str _)⟩ hs
  | dic h1 h2 q =>
    obtain ⟨a, kvs, rfl, ha, l, ra⟩ := h1.to S r1
    obtain rfl := key_rep r2
    obtain ⟨_, l2⟩ := look_rep _ l ra
    obtain ⟨w, hw, rw_⟩ := l2 _ h2
    exact ix_dic (by omega) value slice pins s σ H _ _ v u k I rx ry ⟨a, w, rfl, .inl ⟨kvs, _, ha, rfl, hw.symm⟩, kQ _ M F _ H q (Same.r F) S rw_⟩ hs
  | dit hd hk h2 q =>
    obtain ⟨a, xs, rfl, ha, en⟩ := hd.to S r1
    obtain ⟨hm, hz, hy⟩ := nk_dict hw I S ha en
    obtain ⟨_, l2⟩ := en.look _
    obtain ⟨b', u', v', e1, e2, e3⟩ := l2 _ h2
    cases rx
    cases r2 with
    | tup hb rb =>
      cases ry
      obtain ⟨b1, b2⟩ := rep_nk I S 8 _ _ _ _ hk (.tup hb rb) rfl
      exact ix_gen hm.typeIs hs (wpAny_getItem_heap (knd := nestedKind X.prog X.w) (room_in1 hu) ⟨b1, b2⟩ hm e1 ⟨v', H, I.tok _, e2, kQ _ M F _ H q (Same.r F) S e3⟩)
/-! ### slices -/
abbrev DO := Rho → Mem → (Option Int → Mem → Prop) → XD → Prop
def liftO (g : G) (W : WX) (dt : DO) : TO := fun σ H k => ∃ ρ M F Q E, Sta g F M H ∧ Enr g.K F σ ρ ∧ dt ρ M Q E ∧
  (∀ b M' F' H', Q b M' → Same F F' → Sta g F' M' H' → k b H') ∧ (∀ C dd M' F' H', E C dd M' → Same F F' → Sta g F' M' H' → W (.ref C) (some dd) σ H')
theorem _root_.L2.PO.imp {X : Cx} {e : Option Expr} {t t' : TO} (h : PO X e t) (i : ∀ σ H k, t' σ H k → t σ H k) : PO X e t' := ⟨fun pins s σ H k I q => h.run pins s σ H k I (i σ H k q)⟩
def oNone : DO := fun _ M Q _ => Q none M
def oSome (de : DE) : DO := fun ρ M Q E => de ρ M (fun d M' => ∃ i, d = .int i ∧ Q (some i) M') E
theorem do_none : PO X none (liftO g W oNone) := PO.imp po_none fun σ H k ⟨ρ, M, F, Q, E, S, En, q, kQ, kE⟩ => kQ none M F H q (Same.r F) S
theorem do_some (h : PE X e (liftE g W de)) : PO X (some e) (liftO g W (oSome de)) :=
  PO.imp (po_some h) fun σ H k ⟨ρ, M, F, Q, E, S, En, q, kQ, kE⟩ => ⟨ρ, M, F, _, E, S, En, q, fun d M' F' v H' ⟨i, ed, z⟩ s S' r => by
    subst ed
    cases r
    exact ⟨i, rfl, kQ _ M' F' H' z s S'⟩, kE⟩
def cutD (xs : List D) (lo hi : Option Int) : List D := (xs.drop (HT.sIx xs.length 0 lo)).take (HT.sIx xs.length xs.length hi - HT.sIx xs.length 0 lo)
theorem cut_rep {K : PySem.W.Frag} {F : Hp} {vs : List V} {ds : List D} (r : Reps K F vs ds) (lo hi : Option Int) : Reps K F (cutV vs lo hi) (cutD ds lo hi) := by
  unfold cutV cutD
  rw [r.length]
  exact (r.drop _).take _
inductive SlQ (M : Mem) (Q : D → Mem → Prop) (lo hi : Option Int) : D → Prop
  | lst {d : D} {ds : List D} {st : Mem → Prop} : IsL M d ds st → NewL (cutD ds lo hi) M Q → SlQ M Q lo hi d
  | tup {ds : List D} : Q (.tup (cutD ds lo hi)) M → SlQ M Q lo hi (.tup ds)
def dSl (de : DE) (l h : DO) : DE := fun ρ M Q E => de ρ M (fun d M1 => l ρ M1 (fun lo M2 => h ρ M2 (fun hi M3 => SlQ M3 Q lo hi d) E) E) E
theorem cut_all {xs : List V} {lo hi : Option Int} (h1 : HT.sIx xs.length 0 lo = 0) (h2 : HT.sIx xs.length xs.length hi = xs.length) : cutV xs lo hi = xs := by
  unfold cutV
  rw [h1, h2, List.drop_zero, Nat.sub_zero, List.take_length]
theorem sl_any (hK : g.K = X.K) : SlR X (fun x lo hi H k => ∃ F M d Q, Sta g F M H ∧ Rep g.K F x d ∧ SlQ M Q lo hi d ∧ ∀ d' M' F' v H', Q d' M' → Same F F' → Sta g F' M' H' → Rep g.K F' v d' → k v H') := by
  intro pins s σ H x v vl vu lo hi sl k I rx hs pl pu h
  obtain ⟨F, M, d, Q, S, r, q, kQ⟩ := h
  cases q with
  | lst hl q =>
    obtain ⟨a, xs, rfl, ha, ra, _⟩ := hl.sq S r
    rw [hK] at ha
    exact sl_list pins s σ H _ v vl vu lo hi sl k I rx hs pl pu ⟨a, xs, rfl, ha, fun p hp => q.to S hp (cut_rep ra lo hi) fun d' M' F' z s S' r => kQ d' M' F' _ _ z s S' r⟩
  | tup q =>
    cases r with
    | tup ht ra =>
      have k1 := S.sub.sqT (K := g.K) ht
      rw [hK] at k1
      refine sl_tupA pins s σ H _ v vl vu lo hi sl k I rx hs pl pu ⟨_, _, rfl, k1, fun ⟨e1, e2⟩ => ?_, fun _ p hp => ?_⟩
      · have e := cut_rep ra lo hi
        rw [cut_all e1 e2] at e
        exact kQ _ M F _ H q (Same.r F) S (.tup ht e)
      · obtain ⟨s, S'⟩ := S.newF (o := .tup _) hp
        exact kQ _ M _ _ _ q s S' (.tup upd_same ((cut_rep ra lo hi).mono s))
theorem de_slice {lo hi : Option Expr} {l h : DO} {p2 : Pos} (hK : g.K = X.K) (he : PE X e (liftE g W de)) (hl : PO X lo (liftO g W l)) (hu : PO X hi (liftO g W h)) : PE X (.Subscript e (.Slice lo hi none p2) pos) (liftE g W (dSl de l h)) :=
  PE.imp (pe_slice (sl_any hK) he hl hu) fun σ H k ⟨ρ, M, F, Q, E, S, En, q, kQ, kE⟩ => by
    refine ⟨ρ, M, F, _, E, S, En, q, fun d M1 F1 v H1 q1 s1 S1 r1 => ?_, kE⟩
    refine ⟨ρ, M1, F1, _, E, S1, En.mono s1, q1, fun lo M2 F2 H2 q2 s2 S2 => ?_, fun C dd M' F' H' z s S' => kE C dd M' F' H' z (s1.t s) S'⟩
    refine ⟨ρ, M2, F2, _, E, S2, En.mono (s1.t s2), q2, fun hi M3 F3 H3 q3 s3 S3 => ?_, fun C dd M' F' H' z s S' => kE C dd M' F' H' z ((s1.t s2).t s) S'⟩
    exact ⟨F3, M3, d, Q, S3, r1.mono (s2.t s3), q3, fun d' M' F' w H' z s S' r => kQ d' M' F' w H' z (((s1.t s2).t s3).t s) S' r⟩
end
end DL
namespace DL
variable [Wd]
open PySem L2 PySem.Spec PyProof.Rows
/-! ### tuple(d) of a dict: its keys -/
section
variable {prog : Program} {w : World} {A : Around} {E : Value → Shared → Prop} {s : Shared} {T : String} {r d : Addr} {n : Nat} {P : Nat → Value → Prop} {OK : Heap → Prop}
/-- what stands behind a walk over the source -/
structure Took (P : Nat → Value → Prop) (n : Nat) (s s' : Shared) (acc : Array Value) : Prop where
  ex : ∃ (h' : Heap) (tk : Nat), s' = { s with heap := h', toks := tk } ∧ ∀ b o, s.heap.get? b = some o → h'.get? b = some o
  it : ItemsOf P acc n
theorem took_src {Q : List Value → Shared → Prop} (src : PySem.W.KdlSrc prog w T r d n P OK) (hh : A.handled = none) (hok : OK s.heap) (hn : n ≤ sizeLine) (hQ : ∀ s' acc, Took P n s s' acc → Q acc.toList s') :
    wpAny (model prog w) A (collect (.ref r)) Q E s := by
  have lt := src.there _ hok
  let L : Addr := s.heap.objs.size
  let s0 : Shared := { s with heap := s.heap.push { cls := .type "list", data := .seq ([] : List Value).toArray } }
  have at0 : s0.heap.get? L = some { cls := .type "list", data := .seq #[] 0 } := Heap.get?_push_size _ rfl
  have ok0 : OK s0.heap := src.keep _ _ hok fun b _ o e => Heap.get?_push_of_some _ e
  let R : Result → Shared → Prop := fun rr s' => rr = .ok (.ret (.ref L)) ∧ ∃ acc c', s'.heap.get? L = some { cls := .type "list", dict := none, data := .seq acc c', slots := #[] } ∧ Took P n s s' acc
  have main := PySem.W.kdl_extend (A := A) (R := R) (s := s0) src hh ok0 L (Nat.ne_of_gt lt.1) (Nat.ne_of_gt lt.2) (.ref L) 0 at0
    (fun h' tk acc' c' hk hS hi => ⟨rfl, acc', c', hS, ⟨h', tk, rfl, fun b o q => hk b o (Nat.ne_of_lt (Heap.lt_size q)) (Heap.get?_push_of_some _ q)⟩, hi⟩) hn
  have back : ∀ rr s', R rr s' → ∃ acc, rr = .ok (.ret (.ref L)) ∧ wpAny (model prog w) A (load L) (fun o s2 => s2 = s' ∧ ∃ c', o = { cls := .type "list", dict := none, data := .seq acc c', slots := #[] }) E s' ∧ Took P n s s' acc := fun rr s' ⟨e, acc, c', hS, tk⟩ =>
    ⟨acc, e, wpAny_load hS ⟨rfl, c', rfl⟩, tk⟩
  unfold collect
  refine wpAny_bind (wpAny_runValue (codeAny_builtin F.entry_proto_collect ?_))
  rw [Around.under_plainId F.plain_proto_collect _]
  refine wpAny_bind (m := newList []) (wpAny_newObj_type ?_)
  refine wpAny_pure ⟨plainId_quiet F.plain_list_iadd _, codeAny_builtin F.entry_list_iadd ?_⟩
  rw [Around.under_plainId F.plain_list_iadd _]
  refine wpAny_mono main (fun fin s' h => ?_) fun e s' h => nomatch h.1
  cases fin with
  | done f =>
    obtain ⟨acc, e, ld, tk⟩ := back _ _ h
    cases e
    exact wpAny_bind (m := load L) (wpAny_mono ld (fun o s2 ⟨es, c', eo⟩ => by subst es eo; exact wpAny_pure (hQ _ _ tk)) fun _ _ z => z)
  | again c' =>
    refine ⟨h.1, codeAny_mono h.2 fun rr s2 h2 => ?_⟩
    obtain ⟨acc, e, ld, tk⟩ := back _ _ h2
    subst e
    exact wpAny_bind (m := load L) (wpAny_mono ld (fun o s2 ⟨es, c', eo⟩ => by subst es eo; exact wpAny_pure (hQ _ _ tk)) fun _ _ z => z)
theorem new_tup_src {Q₁ : Value → Shared → Prop} (src : PySem.W.KdlSrc prog w T r d n P OK) (hh : A.handled = none) (hok : OK s.heap) (hn : n ≤ sizeLine)
    (h : ∀ s' acc, Took P n s s' acc → Q₁ (.ref s'.heap.objs.size) { s' with heap := s'.heap.push { cls := .type "tuple", data := .seq acc } }) :
    codeAny (model prog w) A (.call (.builtin "tuple.__new__") ⟨[.type "tuple", .ref r], []⟩) (wants Q₁ E) s := by
  have e1 := F.newCall_tuple_1 (.ref r)
  have sT := sub_tuple_self
  have iT := init_tuple_lookup
  have mT := madeHere_tuple
  have ty := src.type s hok
  refine codeAny_of_tree (wpAny_bind (m := checkBuiltinCall "tuple.__new__" ⟨[.type "tuple", .ref r], []⟩) (wpAny_of_eq e1 (wpAny_pure ⟨plainId_quiet F.plain_tuple_new _, codeAny_builtin F.entry_tuple_new ?_⟩)))
  rw [Around.under_plainId F.plain_tuple_new _]
  have hh1 : A.in1.handled = none := hh
  wp_walk using wpAny_typeOf ty
  rw [if_neg (by rw [src.notTuple]; exact Bool.false_ne_true)]
  refine wpAny_bind (took_src (A := A.in1) src hh1 hok hn fun s' acc tk => ?_)
  show wpAny _ _ (Builtin.Tuple.tupleExact acc.toList.toArray >>= fun v => ret v) _ _ _
  rw [Array.toArray_toList]
  unfold Builtin.Tuple.tupleExact
  exact wpAny_bind (wpAny_newObj_type (wpAny_pure (h s' acc tk)) (by show acc.size ≤ sizeLine; rw [tk.it.1]; exact hn))
theorem tup_src {Q : Value → Shared → Prop} (src : PySem.W.KdlSrc prog w T r d n P OK) (hh : A.handled = none) (hok : OK s.heap) (hn : n ≤ sizeLine)
    (h : ∀ s' acc, Took P n s s' acc → Q (.ref s'.heap.objs.size) { s' with heap := s'.heap.push { cls := .type "tuple", data := .seq acc } }) : wpAny (model prog w) A (call (.type "tuple") [.ref r]) Q E s := by
  refine callType_codes (Q₁ := fun o s₁ => s₁.TypeIs o "tuple" ∧ Q o s₁) F.called_tuple (F.typeCall_tuple_1 _) F.entry_object_init
    (new_tup_src (A := A.in1) src hh hok hn fun s' acc tk => ⟨⟨_, Heap.get?_push_size _ rfl, rfl⟩, h s' acc tk⟩) fun o s₁ h₁ => ?_
  refine ⟨h₁.1, F.args_object_init_2 o _, object_init_meets F.called_tuple.init.lookup F.called_tuple.made (by decide) prog w A.in1 _ s₁ ?_⟩
  exact ⟨h₁.1, rfl, h₁.2⟩
/-- tuple(d) -/
theorem call_tupD {X : Cx} (hc : X.calm = true) : CallR X (.type "tuple") (fun xs H Q => ∃ (a : Addr) (kvs : List (Key × V)), xs = [.ref a] ∧ Rd H a (.dK kvs) ∧ ∀ p, H p = none → Q (.ref p) (upd H p (.tup (kvs.map fun kv => kV kv.1)))) := by
  intro pins s σ H xs us Q I r q
  obtain ⟨a, kvs, rfl, hd, q⟩ := q
  obtain ⟨u, rfl, rx⟩ := vals1 r
  cases rx
  obtain ⟨z, lo, vs, rel, dd⟩ := dk_rd I.hok hd
  obtain ⟨ep, at1⟩ := dd.dictAt
  have z' : vs.length ≤ sizeLine := by rw [← rel.length]; exact z
  refine tup_src (PySem.W.kdl_dict (knd := mixKind X.prog X.w) (kvs := vs) (ep := ep) lo) (I.ok.hd hc) at1 z' fun s' acc tk => ?_
  obtain ⟨⟨h', tk', rfl, hk⟩, it⟩ := tk
  have I1 : Inv X pins σ H { s with heap := h', toks := tk' } := I.kept hk
  have hv : Vals (vs.map fun p => kV p.1) acc.toList := keys_at (by rw [Array.length_toList]; exact it.1) fun j v e => it.2 j v (by rw [← Array.getElem?_toList]; exact e)
  have ek : (kvs.map fun kv => kV kv.1) = vs.map fun p => kV p.1 := by
    have e := congrArg (List.map kV) rel.keys
    rwa [List.map_map, List.map_map] at e
  have hv' : Vals (kvs.map fun kv => kV kv.1) acc.toList := by rw [ek]; exact hv
  have hz : (kvs.map fun kv => kV kv.1).length ≤ sizeLine := by rw [List.length_map]; exact z
  have tp : IsTup (h'.push { cls := .type "tuple", data := .seq acc }) h'.objs.size acc.toList.toArray := by rw [Array.toArray_toList]; exact IsTup.new _ _
  have ob : ObjOk X.prog X.w (upd H h'.objs.size (.tup (kvs.map fun kv => kV kv.1))) (h'.push { cls := .type "tuple", data := .seq acc }) h'.objs.size (.tup (kvs.map fun kv => kV kv.1)) := ⟨hz, acc.toList, hv', tp⟩
  exact ⟨.ref h'.objs.size, _, I1.laid (t' := tk') (fun b o e => Heap.get?_push_of_some _ e) (Nat.le_refl _) ob, rfl, q _ (I1.hok.fresh (Nat.le_refl _))⟩
end
end DL
namespace DL
variable [Wd]
open PySem L2
section
variable {X : Cx} {g : G} {W : WX} {pos : Pos} {a b c e o : Expr} {es : List Expr} {da db dc de : DE} {dA : DA} {x f : Str} {p apos cpos : Pos}
/-! ### built-ins by name -/
abbrev DC := List D → Mem → (D → Mem → Prop) → Prop
def liftC (g : G) (r : DC) : List V → Hp → VK → Prop := fun vs H k => ∃ F M ds Q, Sta g F M H ∧ Reps g.K F vs ds ∧ r ds M Q ∧ ∀ d' M' F' v H', Q d' M' → Same F F' → Sta g F' M' H' → Rep g.K F' v d' → k v H'
def CallD (X : Cx) (g : G) (f : Value) (r : DC) : Prop := CallR X f (liftC g r)
def dCB (r : DC) (dA : DA) : DE := fun ρ M Q E => dA ρ M (fun ds M1 => r ds M1 Q) E
theorem lift_cb {r : DC} {σ : L2.St} {H : Hp} {k : VK} (h : liftE g W (dCB r dA) σ H k) : tCB (liftC g r) (liftA g W dA) σ H k := by
  obtain ⟨ρ, M, F, Q, E, S, En, q, kQ, kE⟩ := h
  exact ⟨ρ, M, F, _, E, S, En, q, fun ds M1 F1 vs H1 q1 s1 S1 r1 => ⟨F1, M1, ds, Q, S1, r1, q1, fun d' M' F' v H' z s S' r => kQ d' M' F' v H' z (s1.t s) S' r⟩, kE⟩
theorem de_callB {r : DC} {id : String} (hc : CallD X g (.builtin id) r) (hg : Gl X x) (hm : X.mg x = none) (hv : bootBuiltins x = some (.builtin id)) (ha : PA X (e :: es) (liftA g W dA)) (hn : x ≠ "__name__" := by decide) (hdb : (x == ("__debug__" : Str)) = false := by decide)
    (he : starEach (e :: es) X.env = (false, eval e X.env) :: starEach es X.env := by rfl) (hpl : (backTo pos (starEach es X.env)).any (·.1) = false := by rfl) : PE X (.Call (.Name x p) (e :: es) [] pos) (liftE g W (dCB r dA)) :=
  PE.imp (pe_callB hc hg hm hv ha hn hdb he hpl) fun _ _ _ h => lift_cb h
theorem de_callTy {r : DC} {T : String} (hc : CallD X g (.type T) r) (hg : Gl X x) (hm : X.mg x = none) (hv : bootBuiltins x = some (.type T)) (ha : PA X (e :: es) (liftA g W dA)) (hn : x ≠ "__name__" := by decide) (hdb : (x == ("__debug__" : Str)) = false := by decide)
    (he : starEach (e :: es) X.env = (false, eval e X.env) :: starEach es X.env := by rfl) (hpl : (backTo pos (starEach es X.env)).any (·.1) = false := by rfl) : PE X (.Call (.Name x p) (e :: es) [] pos) (liftE g W (dCB r dA)) :=
  PE.imp (pe_callTy hc hg hm hv ha hn hdb he hpl) fun _ _ _ h => lift_cb h
inductive LenC (M : Mem) (Q : D → Mem → Prop) : List D → Prop
  | seq {d : D} {ds : List D} : IsS M d ds → Q (.int (ds.length : Nat)) M → LenC M Q [d]
  | str {z : Str} : z.length ≤ sizeLine → Q (.int (z.length : Nat)) M → LenC M Q [.str z]
  | dic {d : D} {es : List (Key × D)} : IsDic M d es → Q (.int (es.length : Nat)) M → LenC M Q [d]
  | dit {d : D} {es : List (D × D)} : IsDit M d es → Q (.int (es.length : Nat)) M → LenC M Q [d]
theorem cd_len (hw : X.w = Wd.w) (hK : g.K = X.K) : CallD X g (.builtin "len") (fun ds M Q => LenC M Q ds) := by
  intro pins s σ H vs us k I r h
  obtain ⟨F, M, ds, Q, S, r1, q, kQ⟩ := h
  cases q with
  | seq hs q =>
    cases r1 with
    | cons r1 rn =>
      cases rn
      obtain ⟨a, xs, rfl, ha, ra⟩ := hs.to S r1
      rw [hK] at ha
      have ev : ∀ d : D, d = .int (xs.length : Nat) → d = .int ((_ : List D).length : Nat) := fun d e => by rw [e, ra.length]
      refine call_len pins s σ H _ us k I r ⟨_, xs.length, rfl, ?_, ?_⟩
      · rcases ha with ha | ha
        · exact .inl ⟨xs, ha, rfl⟩
        · exact .inr ⟨xs, ha, rfl⟩
      · rw [ra.length]
        exact kQ _ M F _ H q (Same.r F) S (.int _)
  | str hz q =>
    cases r1 with
    | cons r1 rn =>
      cases rn
      cases r1
      exact call_len pins s σ H _ us k I r ⟨_, _, rfl, ⟨hz, rfl⟩, kQ _ M F _ H q (Same.r F) S (.int _)⟩
  | dic hm q =>
    cases r1 with
    | cons r1 rn =>
      cases rn
      obtain ⟨a, kvs, rfl, ha, l, rr⟩ := hm.to S r1
      obtain ⟨u, eu, rx⟩ := vals1 r
      subst eu
      cases rx
      refine d_len I ha fun t s' I' => ⟨.int (kvs.length : Nat), H, I', ⟨t, rfl⟩, ?_⟩
      have e := congrArg List.length l
      rw [List.length_map, List.length_map] at e
      rw [e]
      exact kQ _ M F _ H q (Same.r F) S (.int _)
  | dit hm q =>
    cases r1 with
    | cons r1 rn =>
      cases rn
      obtain ⟨a, xs, rfl, ha, en⟩ := hm.to S r1
      obtain ⟨u, eu, rx⟩ := vals1 r
      subst eu
      cases rx
      obtain ⟨dd, hz, hy⟩ := nk_dict hw I S ha en
      have hs : (sizeLine : Nat) = 16777216 := sizeLine_eq
      refine call_len_dictH hy dd (by omega) ⟨.int (xs.length : Nat), H, (I.tok _).tok _, ⟨_, rfl⟩, ?_⟩
      rw [en.length]
      exact kQ _ M F _ H q (Same.r F) S (.int _)
inductive ListC (M : Mem) (Q : D → Mem → Prop) : List D → Prop
  | seq {d : D} {ds : List D} : IsS M d ds → NewL ds M Q → ListC M Q [d]
  | dic {d : D} {es : List (Key × D)} : IsDic M d es → NewL (es.map fun kv => keyD kv.1) M Q → ListC M Q [d]
  | dit {d : D} {es : List (D × D)} : IsDit M d es → NewL (es.map (·.1)) M Q → ListC M Q [d]
theorem EntI.keys {K : PySem.W.Frag} {F : Hp} {xs : List (NestedKey × Addr × Value)} {es : List (D × D)} (h : EntI K F xs es) : Reps K F (xs.map fun x => V.ref x.2.1) (es.map (·.1)) := by
  induction h with
  | nil => exact .nil
  | cons _ a2 _ _ _ ih => exact .cons a2 ih
theorem vals_ref : ∀ bs : List Addr, Vals (bs.map V.ref) (bs.map Value.ref)
  | [] => .nil
  | _ :: r => .cons rfl (vals_ref r)
/-- list(d), its keys tuples -/
theorem call_listN (hw : X.w = Wd.w) (hc : X.calm = true) {pins : List (Addr × Obj)} {s : Shared} {σ : L2.St} {H : Hp} {a : Addr} {xs : List (NestedKey × Addr × Value)} {k : VK} (I : Inv X pins σ H s) (h : Rd H a (hoN a xs)) (q : ∀ p, H p = none → k (.ref p) (upd H p (.lst (xs.map fun x => V.ref x.2.1)))) :
    wpAny (model X.prog X.w) X.A (call (.type "list") [.ref a]) (EP X pins σ k) X.xe s := by
  obtain ⟨⟨z, y, nd, o, es', ep, h1, h2, h3, h4⟩, _⟩ : ObjOk X.prog X.w H s.heap a (hoN a xs) := by
    rcases h with h | ⟨ob, h⟩
    · exact I.hok a _ h
    · exact (show ObjOk X.prog X.w H s.heap a (.frz ob (hoN a xs)) from I.hok a _ h).2
  have hsz : es'.size = xs.length := by rw [← Array.length_toList, h4, List.length_map]
  refine PySem.W.kdl_call (kdl_raw y h2 h3) (I.ok.hd hc) h1 (by omega) fun h' tk acc c kp e it => ?_
  have ea : acc.toList = (xs.map fun x => x.2.1).map Value.ref := by
    refine List.ext_getElem? fun j => ?_
    rw [Array.getElem?_toList, List.getElem?_map, List.getElem?_map]
    cases hj : acc[j]? with
    | none =>
      have := it.1
      have h5 := Array.getElem?_eq_none_iff.mp hj
      rw [List.getElem?_eq_none (show xs.length ≤ j by omega)]
      rfl
    | some v =>
      obtain ⟨en, hen, hv⟩ := it.2 j v hj
      rw [← Array.getElem?_toList, h4, List.getElem?_map] at hen
      cases hx : xs[j]? with
      | none => rw [hx] at hen; cases hen
      | some x =>
        rw [hx] at hen
        cases hen
        rw [hv]
        rfl
  have rv : Vals (xs.map fun x => V.ref x.2.1) acc.toList := by
    rw [ea]
    have := vals_ref (xs.map fun x => x.2.1)
    rwa [List.map_map] at this
  refine ⟨.ref s.heap.objs.size, _, I.laid (t' := tk) (o := .lst (xs.map fun x => V.ref x.2.1)) kp (Nat.le_refl _) ?_, rfl, q _ (I.hok.fresh (Nat.le_refl _))⟩
  exact ⟨by rw [List.length_map]; exact z, acc.toList, c, rv, by rw [Array.toArray_toList]; exact e⟩
theorem keys_reps {K : PySem.W.Frag} {F : Hp} {kvs : List (Key × V)} {es : List (Key × D)} (l : kvs.map (·.1) = es.map (·.1)) : Reps K F (kvs.map fun kv => kV kv.1) (es.map fun kv => keyD kv.1) := by
  have g : ∀ ks : List Key, Reps K F (ks.map kV) (ks.map keyD) := fun ks => by
    induction ks with
    | nil => exact .nil
    | cons q ks ih => exact .cons (by cases q <;> first | exact .int _ | exact .str _) ih
  have h := g (kvs.map (·.1))
  rw [List.map_map] at h
  rw [l, List.map_map] at h
  exact h
theorem cd_list (hw : X.w = Wd.w) (hK : g.K = X.K) (hc : X.calm = true) : CallD X g (.type "list") (fun ds M Q => ListC M Q ds) := by
  intro pins s σ H vs us k I r h
  obtain ⟨F, M, ds, Q, S, r1, q, kQ⟩ := h
  cases q with
  | seq hs q =>
    cases r1 with
    | cons r1 rn =>
      cases rn
      obtain ⟨a, xs, rfl, ha, ra⟩ := hs.to S r1
      rw [hK] at ha
      exact call_list_of pins s σ H _ us k I r ⟨a, xs, rfl, ha, fun p hp => q.to S hp ra fun d' M' F' z s S' r => kQ d' M' F' _ _ z s S' r⟩
  | dic hs q =>
    cases r1 with
    | cons r1 rn =>
      cases rn
      obtain ⟨a, kvs, rfl, ha, l, rr⟩ := hs.to S r1
      exact call_listD hc pins s σ H _ us k I r ⟨a, kvs, rfl, ha, fun p hp => q.to S hp (keys_reps l) fun d' M' F' z s S' r => kQ d' M' F' _ _ z s S' r⟩
  | dit hs q =>
    cases r1 with
    | cons r1 rn =>
      cases rn
      obtain ⟨a, xs, rfl, ha, en⟩ := hs.to S r1
      obtain ⟨u, eu, rx⟩ := vals1 r
      subst eu
      cases rx
      exact call_listN hw hc I ha fun p hp => q.to S hp en.keys fun d' M' F' z s S' r => kQ d' M' F' _ _ z s S' r
inductive TupC (M : Mem) (Q : D → Mem → Prop) : List D → Prop
  | lst {d : D} {ds : List D} {st : Mem → Prop} : IsL M d ds st → Q (.tup ds) M → TupC M Q [d]
  | tup {ds : List D} : Q (.tup ds) M → TupC M Q [.tup ds]
  | dic {d : D} {es : List (Key × D)} : IsDic M d es → Q (.tup (es.map fun kv => keyD kv.1)) M → TupC M Q [d]
theorem cd_tuple (hK : g.K = X.K) (hc : X.calm = true) : CallD X g (.type "tuple") (fun ds M Q => TupC M Q ds) := by
  intro pins s σ H vs us k I r h
  obtain ⟨F, M, ds, Q, S, r1, q, kQ⟩ := h
  cases q with
  | lst hs q =>
    cases r1 with
    | cons r1 rn =>
      cases rn
      obtain ⟨a, xs, rfl, ha, ra, _⟩ := hs.sq S r1
      rw [hK] at ha
      refine call_tuple_of pins s σ H _ us k I r ⟨a, xs, rfl, .inl ⟨ha, fun p hp => ?_⟩⟩
      obtain ⟨s, S'⟩ := S.newF (o := .tup xs) hp
      exact kQ _ M _ _ _ q s S' (.tup upd_same (ra.mono s))
  | tup q =>
    cases r1 with
    | cons r1 rn =>
      cases rn
      cases r1 with
      | tup ht ra =>
        have k1 := S.sub.sqT (K := g.K) ht
        rw [hK] at k1
        exact call_tuple_of pins s σ H _ us k I r ⟨_, _, rfl, .inr ⟨k1, kQ _ M F _ H q (Same.r F) S (.tup ht ra)⟩⟩
  | dic hs q =>
    cases r1 with
    | cons r1 rn =>
      cases rn
      obtain ⟨a, kvs, rfl, ha, l, rr⟩ := hs.to S r1
      refine call_tupD hc pins s σ H _ us k I r ⟨a, kvs, rfl, ha, fun p hp => ?_⟩
      obtain ⟨s, S'⟩ := S.newF (o := .tup (kvs.map fun kv => kV kv.1)) hp
      exact kQ _ M _ _ _ q s S' (.tup upd_same ((keys_reps l).mono s))
inductive IntC (M : Mem) (Q : D → Mem → Prop) : List D → Prop
  | int {i : Int} : Q (.int i) M → IntC M Q [.int i]
  | bl {b : Bool} : Q (.int (if b then 1 else 0)) M → IntC M Q [.bl b]
theorem cd_int : CallD X g (.type "int") (fun ds M Q => IntC M Q ds) := by
  intro pins s σ H vs us k I r h
  obtain ⟨F, M, ds, Q, S, r1, q, kQ⟩ := h
  cases q with
  | int q =>
    cases r1 with
    | cons r1 rn =>
      cases rn; cases r1
      exact call_int1 pins s σ H _ us k I r (.inl ⟨_, rfl, kQ _ M F _ H q (Same.r F) S (.int _)⟩)
  | bl q =>
    cases r1 with
    | cons r1 rn =>
      cases rn; cases r1
      exact call_int1 pins s σ H _ us k I r (.inr ⟨_, rfl, kQ _ M F _ H q (Same.r F) S (.int _)⟩)
theorem ints_rep {K : PySem.W.Frag} {F : Hp} : ∀ {vs : List V} {ns : List Int}, Reps K F vs (ns.map .int) → vs = ns.map V.int
  | _, [], .nil => rfl
  | _, _ :: _, .cons r t => by cases r; rw [ints_rep t]; rfl
theorem bls_rep {K : PySem.W.Frag} {F : Hp} : ∀ {vs : List V} {ns : List Bool}, Reps K F vs (ns.map .bl) → vs = ns.map V.bl
  | _, [], .nil => rfl
  | _, _ :: _, .cons r t => by cases r; rw [bls_rep t]; rfl
theorem strs_rep {K : PySem.W.Frag} {F : Hp} : ∀ {vs : List V} {ns : List Str}, Reps K F vs (ns.map .str) → vs = ns.map V.str
  | _, [], .nil => rfl
  | _, _ :: _, .cons r t => by cases r; rw [strs_rep t]; rfl
inductive SumC (M : Mem) (Q : D → Mem → Prop) : List D → Prop
  | lst {d : D} {ns : List Int} {st : Mem → Prop} : IsL M d (ns.map .int) st → Q (.int ns.sum) M → SumC M Q [d]
theorem cd_sum (hK : g.K = X.K) (hc : X.calm = true) : CallD X g (.builtin "sum") (fun ds M Q => SumC M Q ds) := by
  intro pins s σ H vs us k I r h
  obtain ⟨F, M, ds, Q, S, r1, q, kQ⟩ := h
  cases q with
  | lst hs q =>
    cases r1 with
    | cons r1 rn =>
      cases rn
      obtain ⟨a, xs, rfl, ha, ra, _⟩ := hs.sq S r1
      rw [hK] at ha
      rw [ints_rep ra] at ha
      exact cr_sum hc pins s σ H _ us k I r ⟨a, _, rfl, ha, kQ _ M F _ H q (Same.r F) S (.int _)⟩
inductive AnyC (all : Bool) (M : Mem) (Q : D → Mem → Prop) : List D → Prop
  | lst {d : D} {bs : List Bool} {st : Mem → Prop} : IsL M d (bs.map .bl) st → Q (.bl (if all then bs.all id else bs.any id)) M → AnyC all M Q [d]
theorem cd_any (hK : g.K = X.K) (hc : X.calm = true) : CallD X g (.builtin "any") (fun ds M Q => AnyC false M Q ds) := by
  intro pins s σ H vs us k I r h
  obtain ⟨F, M, ds, Q, S, r1, q, kQ⟩ := h
  cases q with
  | lst hs q =>
    cases r1 with
    | cons r1 rn =>
      cases rn
      obtain ⟨a, xs, rfl, ha, ra, _⟩ := hs.sq S r1
      rw [hK] at ha
      rw [bls_rep ra] at ha
      exact cr_any hc pins s σ H _ us k I r ⟨a, _, rfl, ha, kQ _ M F _ H q (Same.r F) S (.bl _)⟩
/-! ### methods of built-in types -/
abbrev DM := D → List D → Mem → (D → Mem → Prop) → Prop
def liftM (g : G) (r : DM) : V → List V → Hp → VK → Prop := fun x vs H k => ∃ F M d ds Q, Sta g F M H ∧ Rep g.K F x d ∧ Reps g.K F vs ds ∧ r d ds M Q ∧ ∀ d' M' F' v H', Q d' M' → Same F F' → Sta g F' M' H' → Rep g.K F' v d' → k v H'
def MtD (X : Cx) (g : G) (id : String) (r : DM) : Prop := MtR X id (liftM g r)
inductive TyD : String → Mem → D → Prop
  | lst {M : Mem} {d : D} {ds : List D} {st : Mem → Prop} : IsL M d ds st → TyD "list" M d
  | str {M : Mem} {z : Str} : TyD "str" M (.str z)
  | dic {M : Mem} {q : Addr} {es : List (Key × D)} : (q, .dic es) ∈ M → TyD "dict" M (.ptr q)
theorem TyD.to {T : String} {F : Hp} {M : Mem} {H : Hp} {v : V} {d : D} (t : TyD T M d) (S : Sta g F M H) (r : Rep g.K F v d) : tyV g.K T v H := by
  cases t with
  | lst hs =>
    obtain ⟨a, xs, rfl, ha, _, _⟩ := hs.sq S r
    exact .inl ⟨rfl, xs, ha⟩
  | str => cases r; exact rfl
  | dic hm =>
    cases r
    obtain ⟨_, o, ho, kvs, rfl, l, rr⟩ := S.mem _ _ hm
    exact .inr (.inr (.inl ⟨rfl, .inl ⟨kvs, ho⟩⟩))
def dBM (T : String) (r : DM) (do_ : DE) (dA : DA) : DE := fun ρ M Q E => do_ ρ M (fun d M1 => TyD T M1 d ∧ dA ρ M1 (fun ds M2 => r d ds M2 Q) E) E
theorem de_bm {T id : String} {name : Str} {r : DM} {do_ : DE} (pa : PlainAttrs T) (slot : Slot T name id) (hty : typeOf (.builtin id) = pure (.type "method_descriptor")) (hK : g.K = X.K) (hm : MtD X g id r) (ho : PE X o (liftE g W do_)) (ha : PA X (e :: es) (liftA g W dA))
    (hbase : attributeBase o name X.env (eval o X.env) = eval o X.env := by rfl)
    (hfew : ((backTo cpos (starEach (e :: es) X.env)).all (fun x => !x.1) && (backToKw cpos (keywordEach [] X.env)).all (fun x => x.1.isSome)
      && decide ((e :: es).length + ([] : List Keyword).length + (if ([] : List Keyword).isEmpty then 0 else 1) < 30)) = true := by rfl)
    (hline : (apos.endLine == cpos.line) = true := by rfl) (hs : starEach (e :: es) X.env = (false, eval e X.env) :: starEach es X.env := by rfl) (hplain : (backTo cpos (starEach es X.env)).any (·.1) = false := by rfl) :
    PE X (.Call (.Attribute o name apos) (e :: es) [] cpos) (liftE g W (dBM T r do_ dA)) :=
  PE.imp (pe_bm pa slot hty hm ho ha hbase hfew hline hs hplain) fun σ H k ⟨ρ, M, F, Q, E, S, En, q, kQ, kE⟩ =>
    ⟨ρ, M, F, _, E, S, En, q, fun d M1 F1 v H1 ⟨t, q1⟩ s1 S1 r1 => ⟨by rw [← hK]; exact t.to S1 r1, ρ, M1, F1, _, E, S1, En.mono s1, q1, fun ds M2 F2 vs H2 q2 s2 S2 r2 =>
      ⟨F2, M2, d, ds, Q, S2, r1.mono s2, r2, q2, fun d' M' F' w H' z s S' r => kQ d' M' F' w H' z ((s1.t s2).t s) S' r⟩, fun C dd M' F' H' z s S' => kE C dd M' F' H' z (s1.t s) S'⟩, kE⟩
inductive AppM (M : Mem) (Q : D → Mem → Prop) : D → List D → Prop
  | ptr {q : Addr} {ds : List D} {d : D} {M' : Mem} : Upd q (.lst ds) (.lst (ds ++ [d])) M M' → ds.length < sizeLine → Q .non M' → AppM M Q (.ptr q) [d]
theorem md_append : MtD X g "list.append" (fun d ds M Q => AppM M Q d ds) := by
  intro pins s σ H x vs v us k I rx rv h
  obtain ⟨F, M, d, ds, Q, S, r1, r2, q, kQ⟩ := h
  cases q with
  | ptr u hz q =>
    cases r1
    cases r2 with
    | cons r2 rn =>
      cases rn
      obtain ⟨_, o, ho, xs, rfl, rr⟩ := S.mem _ _ u.old
      exact mt_append pins s σ H _ _ v us k I rx rv ⟨_, xs, _, rfl, rfl, ho, by rw [rr.length]; exact hz, kQ _ _ F _ _ q (Same.r F) (S.upd u ⟨_, rfl, rr.append (.cons r2 .nil)⟩) .non⟩
end
end DL
namespace DL
variable [Wd]
open PySem L2
section
variable {X : Cx} {g : G} {W : WX} {pos : Pos} {a b c e o : Expr} {es : List Expr} {da db dc de : DE} {dA : DA} {x f m : Str} {p apos cpos : Pos}
/-! ### instances -/
inductive Has : List (Str × D) → Str → D → Prop
  | head {f : Str} {d : D} {r : List (Str × D)} : Has ((f, d) :: r) f d
  | tail {f f' : Str} {d e : D} {r : List (Str × D)} : f' ≠ f → Has r f d → Has ((f', e) :: r) f d
inductive Put : List (Str × D) → Str → D → List (Str × D) → Prop
  | nil {f : Str} {d : D} : Put [] f d [(f, d)]
  | head {f : Str} {d e : D} {r : List (Str × D)} : Put ((f, e) :: r) f d ((f, d) :: r)
  | tail {f f' : Str} {d e : D} {r r' : List (Str × D)} : f' ≠ f → Put r f d r' → Put ((f', e) :: r) f d ((f', e) :: r')
inductive NoF (m : Str) : List (Str × D) → Prop
  | nil : NoF m []
  | cons {f : Str} {d : D} {r : List (Str × D)} : f ≠ m → NoF m r → NoF m ((f, d) :: r)
theorem lookup_hd {f : Str} {v : V} {r : List (Str × V)} : ((f, v) :: r).lookup f = some v := by simp [List.lookup]
theorem lookup_tl {f f' : Str} {v : V} {r : List (Str × V)} (h : f' ≠ f) : ((f', v) :: r).lookup f = r.lookup f := by
  have e : (f == f') = false := by simpa using fun z => h z.symm
  simp [List.lookup, e]
theorem Has.rep {K : PySem.W.Frag} {F : Hp} {es : List (Str × D)} {f : Str} {d : D} (h : Has es f d) : ∀ {kvs : List (Str × V)}, kvs.map (·.1) = es.map (·.1) → Reps K F (kvs.map (·.2)) (es.map (·.2)) → ∃ v, kvs.lookup f = some v ∧ Rep K F v d := by
  induction h with
  | head =>
    intro kvs hk r
    cases kvs with
    | nil => cases hk
    | cons q kvs =>
      obtain ⟨k, v⟩ := q
      have e := (List.cons.inj hk).1
      simp only at e
      subst e
      cases r with
      | cons r _ => exact ⟨v, lookup_hd, r⟩
  | tail ne _ ih =>
    intro kvs hk r
    cases kvs with
    | nil => cases hk
    | cons q kvs =>
      obtain ⟨k, v⟩ := q
      have e := (List.cons.inj hk).1
      simp only at e
      subst e
      cases r with
      | cons _ r =>
        obtain ⟨u, h1, h2⟩ := ih (List.cons.inj hk).2 r
        exact ⟨u, by rw [lookup_tl ne]; exact h1, h2⟩
theorem putF_hd {f : Str} {v w : V} {r : List (Str × V)} : putF f v ((f, w) :: r) = (f, v) :: r := by
  show (if f = f then _ else _) = _
  rw [if_pos rfl]
theorem putF_tl {f f' : Str} {v w : V} {r : List (Str × V)} (h : f' ≠ f) : putF f v ((f', w) :: r) = (f', w) :: putF f v r := by
  show (if f' = f then _ else _) = _
  rw [if_neg h]
theorem Put.rep {K : PySem.W.Frag} {F : Hp} {es es' : List (Str × D)} {f : Str} {d : D} (h : Put es f d es') {v : V} (rv : Rep K F v d) : ∀ {kvs : List (Str × V)}, kvs.map (·.1) = es.map (·.1) → Reps K F (kvs.map (·.2)) (es.map (·.2)) →
    (putF f v kvs).map (·.1) = es'.map (·.1) ∧ Reps K F ((putF f v kvs).map (·.2)) (es'.map (·.2)) := by
  induction h with
  | nil =>
    intro kvs hk r
    cases kvs with
    | nil => exact ⟨rfl, .cons rv .nil⟩
    | cons _ _ => cases hk
  | head =>
    intro kvs hk r
    cases kvs with
    | nil => cases hk
    | cons q kvs =>
      obtain ⟨k, w⟩ := q
      have e := (List.cons.inj hk).1
      simp only at e
      subst e
      rw [putF_hd]
      cases r with
      | cons _ r => exact ⟨congrArg _ (List.cons.inj hk).2, .cons rv r⟩
  | tail ne _ ih =>
    intro kvs hk r
    cases kvs with
    | nil => cases hk
    | cons q kvs =>
      obtain ⟨k, w⟩ := q
      have e := (List.cons.inj hk).1
      simp only at e
      subst e
      rw [putF_tl ne]
      cases r with
      | cons r1 r =>
        obtain ⟨i1, i2⟩ := ih rv (List.cons.inj hk).2 r
        exact ⟨congrArg _ i1, .cons r1 i2⟩
inductive IsO (M : Mem) : D → Addr → List (Str × D) → Prop
  | obj (C : Addr) (es : List (Str × D)) : IsO M (.obj C es) C es
  | ptr {q C : Addr} {es : List (Str × D)} : (q, .obj C es) ∈ M → IsO M (.ptr q) C es
theorem IsO.to {F : Hp} {M : Mem} {H : Hp} {v : V} {d : D} {C : Addr} {es : List (Str × D)} (h : IsO M d C es) (S : Sta g F M H) (r : Rep g.K F v d) :
    ∃ a dx kvs, v = .ref a ∧ H a = some (.ins C dx kvs) ∧ kvs.map (·.1) = es.map (·.1) ∧ Reps g.K F (kvs.map (·.2)) (es.map (·.2)) := by
  cases h with
  | obj => cases r with | obj e l r => exact ⟨_, _, _, rfl, S.sub.ins e, l, r⟩
  | ptr h =>
    cases r
    obtain ⟨_, o, ho, dx, kvs, rfl, l, r⟩ := S.mem _ _ h
    exact ⟨_, dx, kvs, rfl, ho, l, r⟩
/-- f is a plain attribute of the instances of the class at C -/
structure FldOk (K : PySem.W.Frag) (C : Addr) (f : Str) : Prop where
  cl : Cls K C
  no : NoAttr K C f
def dFld (K : PySem.W.Frag) (de : DE) (f : Str) : DE := fun ρ M Q E => de ρ M (fun d M' => ∃ C es d', IsO M' d C es ∧ FldOk K C f ∧ Has es f d' ∧ Q d' M') E
theorem de_fld (hK : g.K = X.K) (he : PE X e (liftE g W de)) (hb : attributeBase e f X.env (eval e X.env) = eval e X.env := by rfl) : PE X (.Attribute e f pos) (liftE g W (dFld X.K de f)) :=
  PE.imp (pe_fld he hb) fun σ H k ⟨ρ, M, F, Q, E, S, En, q, kQ, kE⟩ => ⟨ρ, M, F, _, E, S, En, q, fun d M' F' v H' ⟨C, es, d', ho, fo, hs, z⟩ s S' r => by
    obtain ⟨a, dx, kvs, rfl, ha, l, rr⟩ := ho.to S' r
    obtain ⟨u, h1, h2⟩ := hs.rep l rr
    exact ⟨a, C, dx, kvs, u, rfl, ha, fo.cl, fo.no, h1, kQ _ M' F' _ H' z s S' h2⟩, kE⟩
/-- o.f = e -/
def sFldD (K : PySem.W.Frag) (do_ de : DE) (f : Str) : DS := fun nx _ _ _ ex ρ M => de ρ M (fun d M1 => do_ ρ M1 (fun x M2 => ∃ q C es es' M3, x = .ptr q ∧ FldOk K C f ∧ es.length < 1000 ∧ Put es f d es' ∧ Upd q (.obj C es) (.obj C es') M2 M3 ∧ nx ρ M3) (fun C dd M' => ex C dd ρ M')) (fun C dd M' => ex C dd ρ M')
theorem ds_fld {value : Expr} {pos' : Pos} {do_ : DE} (hK : g.K = X.K) (ho : PE X o (liftE g W do_)) (hv : PE X value (liftE g W de)) (hs : swapsWith value (some (.Attribute o f pos')) pos.line X.env = pure false := by rfl) :
    PS X (.Assign [.Attribute o f pos'] value pos) (liftS g W (sFldD X.K do_ de f)) :=
  PS.imp (ps_fld ho hv hs) fun D σ H ⟨ρ, M, F, nx, rt, bk, ct, ex, S, En, q, k1, k2, k3, k4, k5⟩ =>
    ⟨ρ, M, F, _, _, S, En, q, fun d M1 F1 v H1 q1 s1 S1 r1 => ⟨ρ, M1, F1, _, _, S1, En.mono s1, q1, fun y M2 F2 u H2 ⟨qa, C, fs, fs', M3, ey, fo, hl, hp, hu, z⟩ s2 S2 r2 => by
      subst ey
      cases r2
      obtain ⟨_, o, ho, dx, kvs, rfl, l, rr⟩ := S2.mem _ _ hu.old
      obtain ⟨i1, i2⟩ := hp.rep (r1.mono s2) l rr
      have el : kvs.length = fs.length := by
        have := congrArg List.length l
        rwa [List.length_map, List.length_map] at this
      exact ⟨qa, C, dx, kvs, rfl, ho, fo.cl, fo.no, by rw [el]; exact hl, k1 ρ M3 F2 σ _ z (s1.t s2) (S2.upd hu ⟨dx, _, rfl, i1, i2⟩) (En.mono (s1.t s2))⟩,
      fun C dd M' F' H' z s S' => k5 C dd ρ M' F' σ H' z (s1.t s) S' (En.mono (s1.t s))⟩, fun C dd M' F' H' z s S' => k5 C dd ρ M' F' σ H' z s S' (En.mono s)⟩

/-! ### defs -/
def spOf (K : PySem.W.Frag) (sd : SpD) : Sp := fun vs H Q E => ∃ U M F ds Qd Ed, Sta ⟨K, U⟩ F M H ∧ Reps K F vs ds ∧ sd ds M Qd Ed ∧
  (∀ d M' F' v H', Qd d M' → Same F F' → Sta ⟨K, U⟩ F' M' H' → Rep K F' v d → Q v H') ∧ (∀ C dd M' F' H', Ed C dd M' → Same F F' → Sta ⟨K, U⟩ F' M' H' → E (.ref C) (some dd) H')
abbrev FnD (P : Program) (w : World) (K : PySem.W.Frag) (mg : Str → Option Value) (base : Heap) (k : Nat) (f : Addr) (sd : SpD) : Prop := FnR P w K mg base (L2.CX P w) k f (spOf K sd)
/-- the slots at the entry -/
def start0 (N : List Str) (ds : List D) : Rho := ds.map some ++ List.replicate (N.length - ds.length) none
theorem at_app : ∀ (ds : List D) (n i : Nat) (d : D), at_ (ds.map some ++ List.replicate n none) i = some d → ds[i]? = some d
  | [], n, i, d, h => by
    exfalso
    induction n generalizing i with
    | zero => cases h
    | succ n ih =>
      cases i with
      | zero => cases h
      | succ i => exact ih i h
  | e :: ds, n, 0, d, h => by cases h; rfl
  | e :: ds, n, i + 1, d, h => by simpa using at_app ds n i d h
theorem env_start {K : PySem.W.Frag} {F : Hp} {N : List Str} {vs : List V} {ds : List D} (r : Reps K F vs ds) : Enr K F (L2.start N vs) (start0 N ds) := by
  have hl := r.length
  refine ⟨by unfold L2.start start0; simp [hl], fun i d h => ?_⟩
  have h' := at_app _ _ _ _ h
  obtain ⟨v, h1, h2⟩ := r.get h'
  refine ⟨v, ?_, h2⟩
  unfold L2.start
  have hi : i < vs.length := (List.getElem?_eq_some_iff.mp h1).1
  rw [List.getElem?_append_left (by simpa using hi), List.getElem?_map, h1]
  rfl
section
variable {P : Program} {w : World} {K : PySem.W.Frag} {mg : Str → Option Value} {base : Heap}
theorem fnOk_of {x qual : Str} {st : Stmt} {f : Addr} {fd : FuncData} {N ps : List Str} {k : Nat} {sd : SpD} (Fu : Fun K x qual st f fd) (S : FnScope N ps (defScope st))
    (len : ∀ ds M Q E, sd ds M Q E → ds.length = ps.length)
    (hbody : ∀ (cdv : Value) (A : Around) (outer : List PySem.Env) (s : Shared) (H : Hp) (U : Hp) (E : XK) (ds : List D) (M : Mem) (Qd : D → Mem → Prop) (Ed : XD), Room k (A.deeper (PyProof.Rows.envOfC qual (defScope st) s.heap.objs.size f cdv)) → sd ds M Qd Ed →
      ∃ body : DS, PSs (cxOf (L2.CX P w) P w K mg base N qual (defScope st) f cdv A outer s H E) (defBody st) (liftS ⟨K, U⟩ (fun cls d _ H => E cls d H) body) ∧
        body (fun _ M' => Qd .non M') Qd (fun _ _ => False) (fun _ _ => False) (fun C dd _ M' => Ed C dd M') (start0 N ds) M) : FnOk P w K mg base (L2.CX P w) (k + 1) f fd ps (spOf K sd) := by
  refine Fu.okX S (fun vs H Q E h => ?_) (fun cdv A outer s H vs Q E hr h => ?_)
  · obtain ⟨U, M, F, ds, Qd, Ed, _, r, h, _⟩ := h
    rw [r.length]
    exact len _ _ _ _ h
  · obtain ⟨U, M, F, ds, Qd, Ed, St_, r, h, kQ, kE⟩ := h
    obtain ⟨body, hp, hq⟩ := hbody cdv A outer s H U E ds M Qd Ed hr h
    refine ⟨_, hp, start0 N ds, M, F, _, _, _, _, _, St_, env_start r, hq, ?_, ?_, ?_, ?_, ?_⟩
    · exact fun ρ' M' F' σ' H' z s S' En => kQ _ M' F' .non H' z s S' .non
    · exact kQ
    · exact fun ρ' M' F' σ' H' z s S' En => z.elim
    · exact fun ρ' M' F' σ' H' z s S' En => z.elim
    · exact fun C dd ρ' M' F' σ' H' z s S' En => kE C dd M' F' H' z s S'
theorem FnOk.fnD {k : Nat} {f : Addr} {fd : FuncData} {ps : List Str} {sd : SpD} (ok : FnOk P w K mg base (L2.CX P w) k f fd ps (spOf K sd)) (bi : Binds K fd ps []) : FnD P w K mg base k f sd :=
  FnR.imp (ok.raw (ds := []) (dvs := []) bi .nil) fun vs H Q E h => by
    rw [List.append_nil]
    exact h
end
/-! ### calls -/
theorem run_fnD {k : Nat} {fa : Addr} {sp : Sp} {Ex : XK} {Q : VK} {us : List Value} {vs : List V} {pins : List (Addr × Obj)} {σ : L2.St} {H : Hp} {s : Shared} (F : FnR X.prog X.w X.K X.mg X.base (L2.CX X.prog X.w) k fa sp) (hr : Room k X.A) (tk : Takes X W)
    (hW : ∀ cls d H', Ex cls d H' → W cls d σ H') (I : Inv X pins σ H s) (r : Vals vs us) (h : sp vs H Q Ex) : wpAny (model X.prog X.w) X.A (call (.ref fa) us) (EP X pins σ Q) X.xe s := by
  refine wpAny_call (codeAny_mono (F X.A X.stack s H us vs Q Ex hr I.env0 r h) fun r s' hq => ?_)
  cases r with
  | error e => exact tk e s' (XE.of_call I hW hq)
  | ok fl =>
    cases fl with
    | ret u => exact I.after hq
    | next => exact False.elim hq
    | brk => exact False.elim hq
    | cont => exact False.elim hq
def dCall (sd : SpD) (dA : DA) : DE := fun ρ M Q E => dA ρ M (fun ds M1 => sd ds M1 Q E) E
theorem de_call {k : Nat} {fa : Addr} {sd : SpD} (F : FnD X.prog X.w X.K X.mg X.base k fa sd) (hr : Room k X.A) (hg : Gl X x) (hm : X.mg x = some (.ref fa)) (hk : PySem.W.keepIn X.K (.ref fa) = true) (hK : g.K = X.K) (tk : Takes X W) (ha : PA X (e :: es) (liftA g W dA))
    (hdb : (x == ("__debug__" : Str)) = false := by decide) (he : starEach (e :: es) X.env = (false, eval e X.env) :: starEach es X.env := by rfl) (hpl : (backTo pos (starEach es X.env)).any (·.1) = false := by rfl) :
    PE X (.Call (.Name x p) (e :: es) [] pos) (liftE g W (dCall sd dA)) := by
  refine ⟨fun pins s σ H k I ⟨ρ, M, F1, Q, E, S, En, q, kQ, kE⟩ => ?_⟩
  obtain ⟨K0, U⟩ := g
  simp only at hK
  subst hK
  refine wpAny_Call_Name_kw (ld_glob I hg hm ?_ hdb)
  refine PySem.W.callWith_K (h₀ := X.base) I.ok.mod.kin hk (thn (ha.run pos pins s σ H (fun vs H1 => ∃ M1 F2 ds, Same F1 F2 ∧ Sta ⟨X.K, U⟩ F2 M1 H1 ∧ Reps X.K F2 vs ds ∧ sd ds M1 Q E) I
    ⟨ρ, M, F1, _, E, S, En, q, fun ds M1 F2 vs H1 z s S' r => ⟨M1, F2, ds, s, S', r, z⟩, kE⟩) fun us s1 ⟨vs, H1, I1, r, M1, F2, ds, s12, S1, r1, q1⟩ => ⟨I1.kIn, ?_⟩) he hpl
  exact run_fnD (Ex := fun cls d H' => W cls d σ H') F hr tk (fun _ _ _ h => h) I1 r ⟨U, M1, F2, ds, Q, E, S1, r1, q1, fun d M' F' v H' z s S' r => kQ d M' F' v H' z (s12.t s) S' r, fun C dd M' F' H' z s S' => kE C dd M' F' H' z (s12.t s) S'⟩
/-- C(..) -/
def dMake (C : Addr) (sd : SpD) (dA : DA) : DE := fun ρ M Q E => dA ρ M (fun ds M1 => ∀ x, (∀ m, (x, m) ∉ M1) → sd (.ptr x :: ds) ((x, .obj C []) :: M1) (fun d M2 => d = .non ∧ Q (.ptr x) M2) E) E
theorem run_makeD {k : Nat} {C fa : Addr} {sp : Sp} {Ex : XK} {Q : VK} {us : List Value} {vs : List V} {pins : List (Addr × Obj)} {σ : L2.St} {H : Hp} {s : Shared} (Mk_ : Mk X.K C fa) (F : FnR X.prog X.w X.K X.mg X.base (L2.CX X.prog X.w) k fa sp) (hr : Room (k + 1) X.A) (tk : Takes X W)
    (hW : ∀ cls d H', Ex cls d H' → W cls d σ H') (I : Inv X pins σ H s) (r : Vals vs us)
    (h : ∀ x dx, H x = Option.none → H dx = Option.none → dx ≠ x → sp (V.ref x :: vs) (upd (upd H dx (.own x)) x (.ins C dx [])) (fun v H2 => v = .non ∧ Q (.ref x) H2) Ex) :
    wpAny (model X.prog X.w) X.A (call (.ref C) us) (EP X pins σ Q) X.xe s := by
  have hq := h (s.heap.objs.size + 1) s.heap.objs.size (I.hok.fresh (Nat.le_succ _)) (I.hok.fresh (Nat.le_refl _)) (Nat.ne_of_lt (Nat.lt_succ_self _))
  have I2 := Inv.made (C := C) I
  have r2 : Vals (V.ref (s.heap.objs.size + 1) :: vs) (Value.ref (s.heap.objs.size + 1) :: us) := .cons rfl r
  refine wpAny_call (make_map (f := fa) I.kIn Mk_.makes Mk_.init (beq_iff_eq.mp Mk_.fn) (codeAny_mono (F _ X.stack _ _ (Value.ref (s.heap.objs.size + 1) :: us) _ _ Ex (hr.make C us []) (I2.env0.make C us []) r2 hq) fun r s' hq' => ?_))
  cases r with
  | error e => exact tk e s' (XE.of_call I2 hW hq')
  | ok fl =>
    cases fl with
    | ret u =>
      obtain ⟨v, H', I3, rv, ev, q3⟩ := I2.after hq'
      subst ev
      exact ⟨rv, ⟨V.ref (s.heap.objs.size + 1), H', I3, rfl, q3⟩⟩
    | next => exact False.elim hq'
    | brk => exact False.elim hq'
    | cont => exact False.elim hq'
theorem sta_made {U : Hp} {F : Hp} {M : Mem} {H : Hp} {K : PySem.W.Frag} {y dx C : Addr} (S : Sta ⟨K, U⟩ F M H) (h1 : H y = none) (h2 : H dx = none) (h3 : dx ≠ y) : Sta ⟨K, U⟩ F ((y, .obj C []) :: M) (upd (upd H dx (.own y)) y (.ins C dx [])) :=
  (S.grow (o := .own y) h2).newM (by rw [upd_ne (Ne.symm h3)]; exact h1) ⟨dx, [], rfl, rfl, .nil⟩
theorem de_make {k : Nat} {C fa : Addr} {sd : SpD} (Mk_ : Mk X.K C fa) (F : FnD X.prog X.w X.K X.mg X.base k fa sd) (hr : Room (k + 1) X.A) (hg : Gl X x) (hm : X.mg x = some (.ref C)) (hK : g.K = X.K) (tk : Takes X W) (ha : PA X (e :: es) (liftA g W dA))
    (hdb : (x == ("__debug__" : Str)) = false := by decide) (he : starEach (e :: es) X.env = (false, eval e X.env) :: starEach es X.env := by rfl) (hpl : (backTo pos (starEach es X.env)).any (·.1) = false := by rfl) :
    PE X (.Call (.Name x p) (e :: es) [] pos) (liftE g W (dMake C sd dA)) := by
  refine ⟨fun pins s σ H k I ⟨ρ, M, F1, Q, E, S, En, q, kQ, kE⟩ => ?_⟩
  obtain ⟨K0, U⟩ := g
  simp only at hK
  subst hK
  refine wpAny_Call_Name_kw (ld_glob I hg hm ?_ hdb)
  refine PySem.W.callWith_K (h₀ := X.base) I.ok.mod.kin Mk_.kp (thn (ha.run pos pins s σ H (fun vs H1 => ∃ M1 F2 ds, Same F1 F2 ∧ Sta ⟨X.K, U⟩ F2 M1 H1 ∧ Reps X.K F2 vs ds ∧ ∀ x, (∀ m, (x, m) ∉ M1) → sd (.ptr x :: ds) ((x, .obj C []) :: M1) (fun d M2 => d = .non ∧ Q (.ptr x) M2) E) I
    ⟨ρ, M, F1, _, E, S, En, q, fun ds M1 F2 vs H1 z s S' r => ⟨M1, F2, ds, s, S', r, z⟩, kE⟩) fun us s1 ⟨vs, H1, I1, r, M1, F2, ds, s12, S1, r1, q1⟩ => ⟨I1.kIn, ?_⟩) he hpl
  refine run_makeD (Ex := fun cls d H' => W cls d σ H') Mk_ F hr tk (fun _ _ _ h => h) I1 r fun y dx h1 h2 h3 => ?_
  exact ⟨U, _, F2, _, _, E, sta_made S1 h1 h2 h3, .cons (.ptr y) r1, q1 y (S1.fresh h1), fun d M' F' v H' ⟨ed, z⟩ s S' r => by
    subst ed
    cases r
    exact ⟨rfl, kQ _ M' F' _ H' z (s12.t s) S' (.ptr y)⟩, fun C dd M' F' H' z s S' => kE C dd M' F' H' z (s12.t s) S'⟩
end
end DL
namespace DL
variable [Wd]
open PySem L2
section
variable {X : Cx} {g : G} {W : WX} {pos : Pos} {a b c e o : Expr} {es : List Expr} {da db dc de do_ : DE} {dA : DA} {x f m : Str} {p apos cpos : Pos}
/-! ### exceptions of own classes -/
theorem Del.keys {a : Addr} {m : MO} : ∀ {M M' : Mem}, Del a m M M' → ∀ {b : Addr} {x : MO}, (b, x) ∈ M → b ≠ a → (b, x) ∈ M'
  | _, _, .head, b, x, h, hb => by
    rcases List.mem_cons.mp h with z | z
    · cases z; exact absurd rfl hb
    · exact z
  | _, _, .tail u, b, x, h, hb => by
    rcases List.mem_cons.mp h with z | z
    · rw [z]; exact List.mem_cons_self
    · exact List.mem_cons_of_mem _ (Del.keys u z hb)
end
end DL
namespace DL
variable [Wd]
open PySem L2 PySem.Spec PyProof.Rows
def unset (i : Nat) (D : Ends) : Ends := { nx := fun σ H => D.nx (σ.set i none) H, rt := D.rt, bk := fun σ H => D.bk (σ.set i none) H, ct := fun σ H => D.ct (σ.set i none) H }
section
variable {X : Cx} {pins : List (Addr × Obj)} {σ : L2.St} {H : Hp} {s' : Shared} {cls : Value} {d : Option Addr} {a : Addr} {Wout : WX} {D : Ends}
end

abbrev W0 : WX := fun _ _ _ _ => False
section
variable {X : Cx} {g : G} {W : WX} {pos : Pos} {a b c e : Expr} {es : List Expr} {de : DE}
end
end DL
namespace DL
variable [Wd]
open PySem L2
section
variable {X : Cx} {g : G} {W : WX} {pos : Pos} {a b c e : Expr} {es : List Expr} {de : DE} {dt : DT}
/-! ### list comprehensions -/
/-- a target: a name, or a tuple of names -/
inductive CT where
  | nm (i : Nat) | tp (is : List Nat)
def putAll : Rho → List Nat → List D → Rho
  | ρ, i :: is, d :: ds => putAll (put ρ i (some d)) is ds
  | ρ, _, _ => ρ
def CT.go : CT → D → Rho → (Rho → Prop) → Prop
  | .nm i, d, ρ, k => k (put ρ i (some d))
  | .tp is, d, ρ, k => ∃ ds, d = .tup ds ∧ ds.length = is.length ∧ k (putAll ρ is ds)
def gNs : List Nat → TGs
  | [] => gNil
  | i :: is => gCons (gName i) (gNs is)
def CT.tg (K : PySem.W.Frag) : CT → TG
  | .nm i => gName i
  | .tp is => gTup K is.length (gNs is)
def CT.slots : CT → List Nat
  | .nm i => [i]
  | .tp is => is
def setAll : L2.St → List Nat → List V → L2.St
  | σ, i :: is, v :: vs => setAll (σ.set i (some v)) is vs
  | σ, _, _ => σ
theorem gNs_set : ∀ {is : List Nat} {xs : List V} {σ : L2.St} {H : Hp} {k : L2.St → Hp → Prop}, xs.length = is.length → k (setAll σ is xs) H → gNs is xs σ H k
  | [], [], _, _, _, _, h => ⟨rfl, h⟩
  | [], _ :: _, _, _, _, e, _ => by cases e
  | _ :: _, [], _, _, _, e, _ => by cases e
  | i :: is, x :: xs, σ, H, k, e, h => ⟨x, xs, rfl, gNs_set (Nat.succ.inj e) h⟩
theorem enr_setAll {K : PySem.W.Frag} {F : Hp} : ∀ {is : List Nat} {xs : List V} {ds : List D} {σ : L2.St} {ρ : Rho}, Reps K F xs ds → Enr K F σ ρ → Enr K F (setAll σ is xs) (putAll ρ is ds)
  | [], _, _, _, _, _, En => by unfold setAll putAll; exact En
  | _ :: _, _, _, _, _, .nil, En => En
  | i :: is, _, _, σ, ρ, .cons r t, En => enr_setAll (is := is) t (En.set i r)
def wipeD : Rho → List Nat → Rho
  | ρ, [] => ρ
  | ρ, v :: vs => put (wipeD ρ vs) v none
theorem enr_wipe {K : PySem.W.Frag} {F : Hp} {σ : L2.St} {ρ : Rho} (En : Enr K F σ ρ) : ∀ vs : List Nat, Enr K F (wipe σ vs) (wipeD ρ vs)
  | [] => En
  | v :: vs => (enr_wipe En vs).unset v none
theorem get_wipe (σ : L2.St) (j : Nat) : ∀ vs : List Nat, (wipe σ vs)[j]? = if j ∈ vs then (if j < σ.length then some none else none) else σ[j]?
  | [] => by simp [wipe]
  | v :: vs => by
    unfold wipe
    by_cases h : j = v
    · subst h
      rw [if_pos List.mem_cons_self]
      by_cases hl : j < σ.length
      · rw [if_pos hl, List.getElem?_set_self (by rw [wipe_length]; exact hl)]
      · rw [if_neg hl, List.getElem?_eq_none]
        rw [List.length_set, wipe_length]
        omega
    · rw [List.getElem?_set_ne (fun e => h e.symm), get_wipe σ j vs]
      by_cases hm : j ∈ vs
      · rw [if_pos hm, if_pos (List.mem_cons_of_mem _ hm)]
      · rw [if_neg hm, if_neg (fun z => (List.mem_cons.mp z).elim h hm)]
theorem wipe_set {σ : L2.St} {vs : List Nat} {i : Nat} {x : Option V} (h : i ∈ vs) : wipe ((wipe σ vs).set i x) vs = wipe σ vs := by
  apply List.ext_getElem?
  intro j
  rw [get_wipe, get_wipe, List.length_set, wipe_length]
  by_cases hm : j ∈ vs
  · rw [if_pos hm, if_pos hm]
  · rw [if_neg hm, if_neg hm, List.getElem?_set_ne (fun e => hm (by rw [← e]; exact h)), get_wipe, if_neg hm]
theorem wipe_of {σ τ : L2.St} {vs : List Nat} {i : Nat} {x : Option V} (h : i ∈ vs) (e : wipe τ vs = wipe σ vs) : wipe (τ.set i x) vs = wipe σ vs := by
  rw [← e]
  apply List.ext_getElem?
  intro j
  rw [get_wipe, get_wipe, List.length_set]
  by_cases hm : j ∈ vs
  · rw [if_pos hm, if_pos hm]
  · rw [if_neg hm, if_neg hm, List.getElem?_set_ne (fun e => hm (by rw [← e]; exact h))]
theorem wipe_setAll {σ : L2.St} {vs : List Nat} : ∀ {is : List Nat} {xs : List V} {τ : L2.St}, (∀ i ∈ is, i ∈ vs) → wipe τ vs = wipe σ vs → wipe (setAll τ is xs) vs = wipe σ vs
  | [], _, _, _, e => by unfold setAll; exact e
  | _ :: _, [], _, _, e => e
  | i :: is, x :: xs, τ, h, e => wipe_setAll (is := is) (xs := xs) (fun j hj => h j (List.mem_cons_of_mem _ hj)) (wipe_of (h i List.mem_cons_self) e)
theorem wipe_wipe {σ : L2.St} (vs : List Nat) : wipe (wipe σ vs) vs = wipe σ vs := by
  apply List.ext_getElem?
  intro j
  rw [get_wipe, get_wipe, wipe_length]
  by_cases hm : j ∈ vs
  · rw [if_pos hm, if_pos hm]
  · rw [if_neg hm, if_neg hm]
def noE : XD := fun _ _ _ => False
/-- the turns: what is left, what stands so far -/
def goC (ct : CT) (dt : DT) (de : DE) (st : Mem → Prop) (ρ : Rho) (Q : List D → Mem → Prop) : List D → List D → Mem → Prop
  | [], acc, M => st M ∧ Q acc M
  | d :: ds, acc, M => st M ∧ ct.go d ρ (fun ρ' => dt ρ' M (fun b M2 => if b = true then de ρ' M2 (fun e M3 => goC ct dt de st ρ Q ds (acc ++ [e]) M3) noE else goC ct dt de st ρ Q ds acc M2) noE)
def dLc (di : DI) (ct : CT) (dt : DT) (de : DE) (vs : List Nat) : DE := fun ρ M Q E => di ρ M (fun ds st M1 => ds.length < sizeLine ∧ goC ct dt de st (wipeD ρ vs) (fun acc M2 => NewL acc M2 Q) ds [] M1) E
def dYes : DT := fun _ M Q _ => Q true M
theorem dts_nil : PTs X [] (liftT g W dYes) := ⟨fun pins s σ H k I ⟨ρ, M, F, Q, E, S, En, q, kQ, _⟩ => pts_nil.run pins s σ H k I (kQ true M F H q (Same.r F) S)⟩
theorem dts_one (h : PT X c (liftT g W dt)) : PTs X [c] (liftT g W dt) := pts_one h
theorem lift_lc {di : DI} {ct : CT} {vs : List Nat} {K : PySem.W.Frag} {U : Hp} {tt : TT} {te : TE} (hv : ∀ i ∈ ct.slots, i ∈ vs) (ht : ∀ U σ H k, liftT ⟨K, U⟩ W0 dt σ H k → tt σ H k) (he : ∀ U σ H k, liftE ⟨K, U⟩ W0 de σ H k → te σ H k) {σ : L2.St} {H : Hp} {k : VK}
    (h : liftE ⟨K, U⟩ W (dLc di ct dt de vs) σ H k) : tLc (liftI ⟨K, U⟩ W di) (ct.tg K) tt te vs σ H k := by
  obtain ⟨ρ, M, F, Q, E, S, En, q, kQ, kE⟩ := h
  refine ⟨ρ, M, F, _, _, S, En, q, fun its st M1 U1 V F1 J H1 ⟨hz, q1⟩ su sv s1 S1 Y => fun p hp => ?_, kE⟩
  -- the state of a turn: p's list apart from all else
  refine ⟨fun i m H => m = its.length - i ∧ i ≤ its.length ∧ ∃ acc xs M F', acc.length ≤ i ∧ Same F1 F' ∧ Sta ⟨K, U1⟩ F' M H ∧ H p = some (.lst xs) ∧ F' p = none ∧ (∀ m, (p, m) ∉ M) ∧ U1 p = none ∧ Reps K F' xs acc ∧
    goC ct dt de st (wipeD ρ vs) (fun acc M2 => NewL acc M2 Q) (its.drop i) acc M, ⟨_, rfl, Nat.zero_le _, [], [], M1, F1, Nat.le_refl _, Same.r F1, S1.grow hp, upd_same, S1.sub.none hp, S1.fresh hp, ?_, .nil, q1⟩, ?_⟩
  · cases e : U1 p with
    | none => rfl
    | some o =>
      have := (S1.out p o e).1
      rw [hp] at this
      cases this
  rintro i m H2 ⟨rfl, hi, acc, xs, M2, F2, ha, s2, S2, hpH, hpF, hpM, hpU, ra, q2⟩
  by_cases hlt : i < its.length
  · rw [List.drop_eq_getElem_cons hlt] at q2
    obtain ⟨hst, q3⟩ := q2
    -- p among what others hold
    have S2' : Sta ⟨K, upd U1 p (.lst xs)⟩ F2 M2 H2 := ⟨S2.sub, fun b o hb => by
      by_cases hbp : b = p
      · subst hbp
        have hb' : (upd U1 b (.lst xs)) b = some o := hb
        rw [upd_same] at hb'
        cases hb'
        exact ⟨hpH, .inl hpF, hpM⟩
      · have hb' : (upd U1 p (.lst xs)) b = some o := hb
        rw [upd_ne hbp] at hb'
        exact S2.out b o hb', S2.mem, S2.nd⟩
    have sup : Same U1 (upd U1 p (.lst xs)) := fun b o hb => by rw [upd_ne (ne_of_none hb hpU)]; exact hb
    obtain ⟨g1, g2⟩ := Y.go i its[i] _ F2 M2 H2 (sv.t sup) s2 S2' hst (by simp [hlt])
    -- back
    have back : ∀ {F : Hp} {M : Mem} {H : Hp}, Sta ⟨K, upd U1 p (.lst xs)⟩ F M H → Sta ⟨K, U1⟩ F M H ∧ H p = some (.lst xs) ∧ F p = none ∧ (∀ m, (p, m) ∉ M) := fun {F M H} S => by
      obtain ⟨u1, u2', u3⟩ := S.out p (.lst xs) upd_same
      have u2 : F p = none := by
        rcases u2' with h | ⟨_, _, h, _⟩
        · exact h
        · cases h
      refine ⟨⟨S.sub, fun b o hb => S.out b o ?_, S.mem, S.nd⟩, u1, u2, u3⟩
      have hbp : b ≠ p := fun z => by
        subst z
        have hb' : U1 b = some o := hb
        rw [hpU] at hb'
        cases hb'
      show (upd U1 p (.lst xs)) b = some o
      rw [upd_ne hbp]
      exact hb
    refine .inr ⟨g1, fun H' => i + 1 ≤ its.length ∧ ∃ acc xs M F', acc.length ≤ i + 1 ∧ Same F1 F' ∧ Sta ⟨K, U1⟩ F' M H' ∧ H' p = some (.lst xs) ∧ F' p = none ∧ (∀ m, (p, m) ∉ M) ∧ U1 p = none ∧ Reps K F' xs acc ∧
      goC ct dt de st (wipeD ρ vs) (fun acc M2 => NewL acc M2 Q) (its.drop (i + 1)) acc M, fun H' pr => ⟨_, by omega, rfl, pr⟩, fun x H' y => ?_⟩
    obtain ⟨F3, s3, S3, r3⟩ := g2 x H' y
    have s13 := s2.t s3
    -- behind the target
    have inner : ∀ σ2 ρ2, wipe σ2 vs = wipe σ vs → Enr K F3 σ2 ρ2 → dt ρ2 M2 (fun b M3 => if b = true then de ρ2 M3 (fun e M4 => goC ct dt de st (wipeD ρ vs) (fun acc M2 => NewL acc M2 Q) (its.drop (i + 1)) (acc ++ [e]) M4) noE
        else goC ct dt de st (wipeD ρ vs) (fun acc M2 => NewL acc M2 Q) (its.drop (i + 1)) acc M3) noE →
        wipe σ2 vs = wipe σ vs ∧ tt σ2 H' fun b H3 => if b = true then te σ2 H3 fun y H4 => ∃ acc, H4 p = some (.lst acc) ∧ acc.length < sizeLine ∧ (i + 1 ≤ its.length ∧ ∃ acc' xs M F', acc'.length ≤ i + 1 ∧ Same F1 F' ∧ Sta ⟨K, U1⟩ F' M (upd H4 p (.lst (acc ++ [y]))) ∧ (upd H4 p (.lst (acc ++ [y]))) p = some (.lst xs) ∧ F' p = none ∧ (∀ m, (p, m) ∉ M) ∧ U1 p = none ∧ Reps K F' xs acc' ∧
          goC ct dt de st (wipeD ρ vs) (fun acc M2 => NewL acc M2 Q) (its.drop (i + 1)) acc' M) else (i + 1 ≤ its.length ∧ ∃ acc xs M F', acc.length ≤ i + 1 ∧ Same F1 F' ∧ Sta ⟨K, U1⟩ F' M H3 ∧ H3 p = some (.lst xs) ∧ F' p = none ∧ (∀ m, (p, m) ∉ M) ∧ U1 p = none ∧ Reps K F' xs acc ∧
          goC ct dt de st (wipeD ρ vs) (fun acc M2 => NewL acc M2 Q) (its.drop (i + 1)) acc M) := by
      intro σ2 ρ2 hw En2 q4
      refine ⟨hw, ht (upd U1 p (.lst xs)) _ _ _ ⟨ρ2, M2, F3, _, _, S3, En2, q4, fun b M4 F4 H4 q5 s4 S4 => ?_, fun _ _ _ _ _ z => z.elim⟩⟩
      cases b with
      | false =>
        rw [if_neg Bool.false_ne_true] at q5 ⊢
        obtain ⟨S4', u1, u2, u3⟩ := back S4
        exact ⟨hlt, acc, xs, M4, F4, by omega, s13.t s4, S4', u1, u2, u3, hpU, (ra.mono s3).mono s4, q5⟩
      | true =>
        rw [if_pos rfl] at q5 ⊢
        refine he (upd U1 p (.lst xs)) _ _ _ ⟨ρ2, M4, F4, _, _, S4, En2.mono s4, q5, fun d M5 F5 v H5 q6 s5 S5 r5 => ?_, fun _ _ _ _ _ z => z.elim⟩
        obtain ⟨S5', u1, u2, u3⟩ := back S5
        have hl : xs.length < sizeLine := by rw [ra.length]; omega
        refine ⟨xs, u1, hl, hlt, acc ++ [d], xs ++ [v], M5, F5, by rw [List.length_append]; simp; omega, (s13.t s4).t s5, ?_, upd_same, u2, u3, hpU, (((ra.mono s3).mono s4).mono s5).append (.cons r5 .nil), q6⟩
        refine ⟨fun b o hb => ?_, fun b o hb => ?_, fun b m hm => ?_, S5'.nd⟩
        · rw [upd_ne (ne_of_none hb u2)]
          exact S5'.sub b o hb
        · have hbp : b ≠ p := fun z => by
            subst z
            have hb' : U1 b = some o := hb
            rw [hpU] at hb'
            cases hb'
          rw [upd_ne hbp]
          exact S5'.out b o hb
        · have hbp : b ≠ p := fun z => by
            subst z
            exact u3 m hm
          rw [upd_ne hbp]
          exact S5'.mem b m hm
    have En3 : Enr K F3 (wipe σ vs) (wipeD ρ vs) := enr_wipe (En.mono (s1.t s13)) vs
    cases ct with
    | nm j => exact inner _ _ (wipe_set (hv j List.mem_cons_self)) (En3.set j r3) q3
    | tp is =>
      obtain ⟨ds, ed, hl, q4⟩ := q3
      rw [ed] at r3
      cases r3 with
      | tup hs rr =>
        exact ⟨_, _, rfl, S3.sub.sqT hs, by rw [rr.length]; exact hl, gNs_set (by rw [rr.length]; exact hl) (inner _ _ (wipe_setAll (fun j hj => hv j hj) (wipe_wipe vs)) (enr_setAll rr En3) q4)⟩
  · have e : its.drop i = [] := List.drop_eq_nil_of_le (by omega)
    rw [e] at q2
    refine .inl ⟨Y.stop i U1 F2 M2 H2 sv s2 S2 q2.1 (by omega), ?_⟩
    obtain ⟨_, q4⟩ := q2
    rcases q4 with q4 | q4
    · -- the list is frozen
      have s : Same F2 (upd F2 p (.lst xs)) := fun b w hb => by rw [upd_ne (ne_of_none hb hpF)]; exact hb
      refine kQ _ M2 (upd F2 p (.lst xs)) _ H2 q4 ((s1.t s2).t s) (Sta.less (U' := U1) ⟨fun b o hb => ?_, fun b o hb => ?_, fun b m hm => ?_, S2.nd⟩ su) (.lst upd_same (ra.mono s))
      · by_cases hbp : b = p
        · subst hbp
          rw [upd_same] at hb
          cases hb
          exact .inl hpH
        · rw [upd_ne hbp] at hb
          exact S2.sub b o hb
      · have hbp : b ≠ p := fun z => by
          subst z
          have hb' : U1 b = some o := hb
          rw [hpU] at hb'
          cases hb'
        obtain ⟨o1, o2, o3⟩ := S2.out b o hb
        exact ⟨o1, o2.ext (upd_ne hbp), o3⟩
      · have hbp : b ≠ p := fun z => by
          subst z
          exact hpM m hm
        rw [upd_ne hbp]
        obtain ⟨h1, w, h2, h3⟩ := S2.mem b m hm
        exact ⟨h1, w, h2, h3.mono s⟩
    · refine kQ _ _ F2 _ H2 (q4 p hpM) (s1.t s2) (Sta.less (U' := U1) ⟨S2.sub, fun b o hb => ?_, fun b m hm => ?_, ?_⟩ su) (.ptr p)
      · obtain ⟨u1, u2, u3⟩ := S2.out b o hb
        refine ⟨u1, u2, fun m hm => ?_⟩
        rcases List.mem_cons.mp hm with z | z
        · have e : b = p := congrArg Prod.fst z
          subst e
          have hb' : U1 b = some o := hb
          rw [hpU] at hb'
          cases hb'
        · exact u3 m z
      · rcases List.mem_cons.mp hm with z | z
        · cases z
          exact ⟨hpF, _, hpH, xs, rfl, ra⟩
        · exact S2.mem b m z
      · refine List.nodup_cons.mpr ⟨fun z => ?_, S2.nd⟩
        obtain ⟨q, hq, e⟩ := List.mem_map.mp z
        obtain ⟨b, n⟩ := q
        cases e
        exact hpM n hq
theorem de_lc {elt tg iter : Expr} {ifs : List Expr} {scope : Scope} {own : List (Str × Nat)} {di : DI} {ct : CT} (hc : X.calm = true) (hK : g.K = X.K) (hN : X.N.Nodup) (hi : PI X tg iter (liftI g W di)) (ok : BlkOk X.N X.env.scope scope own)
    (hv : ∀ i ∈ ct.slots, i ∈ own.map (·.2))
    (hg : ∀ (s : Shared) (H : Hp) (C : Addr) (cl : List (Str × Addr)) (fp : List Addr), PG (X.blk s H scope (PySem.compEnvC scope cl C X.env) fp) tg (ct.tg X.K))
    (ht : ∀ (U : Hp) (s : Shared) (H : Hp) (C : Addr) (cl : List (Str × Addr)) (fp : List Addr), PTs (X.blk s H scope (PySem.compEnvC scope cl C X.env) fp) ifs (liftT ⟨X.K, U⟩ W0 dt))
    (he : ∀ (U : Hp) (s : Shared) (H : Hp) (C : Addr) (cl : List (Str × Addr)) (fp : List Addr), PE (X.blk s H scope (PySem.compEnvC scope cl C X.env) fp) elt (liftE ⟨X.K, U⟩ W0 de)) (hs : ∀ x, foldedSetIterable iter X.env x = pure x := by intro _; rfl) :
    PE X (.ListComp elt [⟨tg, iter, ifs, 0⟩] scope pos) (liftE g W (dLc di ct dt de (own.map (·.2)))) := by
  obtain ⟨K0, U⟩ := g
  simp only at hK
  subst hK
  exact PE.imp (pe_lc (tt := fun σ H k => ∃ U, liftT ⟨X.K, U⟩ W0 dt σ H k) (te := fun σ H k => ∃ U, liftE ⟨X.K, U⟩ W0 de σ H k) hc hN hi ok hg (fun s H C cl fp => ⟨fun pins s1 σ H1 Q I ⟨U, q⟩ => (ht U s H C cl fp).run pins s1 σ H1 Q I q⟩)
    (fun s H C cl fp => ⟨fun pins s1 σ H1 Q I ⟨U, q⟩ => (he U s H C cl fp).run pins s1 σ H1 Q I q⟩) hs) fun σ H k h => lift_lc hv (fun U σ H k q => ⟨U, q⟩) (fun U σ H k q => ⟨U, q⟩) h
/-- y = [..] -/
theorem ds_setLc {i : Nat} {y : Str} {py spos : Pos} {elt tg iter : Expr} {ifs : List Expr} {scope : Scope} {own : List (Str × Nat)} {di : DI} {ct : CT} (hc : X.calm = true) (hK : g.K = X.K) (hN : X.N.Nodup) (hy : X.N[i]? = some y) (hyl : X.env.scope.names.lookup y = some .local)
    (hsw : swapsWith (.ListComp elt [⟨tg, iter, ifs, 0⟩] scope pos) (some (.Name y py)) spos.line X.env = pure true) (hi : PI X tg iter (liftI g W di)) (ok : BlkOk X.N X.env.scope scope own)
    (hv : ∀ i ∈ ct.slots, i ∈ own.map (·.2))
    (hg : ∀ (s : Shared) (H : Hp) (C : Addr) (cl : List (Str × Addr)) (fp : List Addr), PG (X.blk s H scope (PySem.compEnvC scope cl C X.env) fp) tg (ct.tg X.K))
    (ht : ∀ (U : Hp) (s : Shared) (H : Hp) (C : Addr) (cl : List (Str × Addr)) (fp : List Addr), PTs (X.blk s H scope (PySem.compEnvC scope cl C X.env) fp) ifs (liftT ⟨X.K, U⟩ W0 dt))
    (he : ∀ (U : Hp) (s : Shared) (H : Hp) (C : Addr) (cl : List (Str × Addr)) (fp : List Addr), PE (X.blk s H scope (PySem.compEnvC scope cl C X.env) fp) elt (liftE ⟨X.K, U⟩ W0 de)) (hs : ∀ x, foldedSetIterable iter X.env x = pure x := by intro _; rfl) :
    PS X (.Assign [.Name y py] (.ListComp elt [⟨tg, iter, ifs, 0⟩] scope pos) spos) (liftS g W (sAsg (dLc di ct dt de (own.map (·.2))) (gNm i))) := by
  obtain ⟨K0, U⟩ := g
  simp only at hK
  subst hK
  refine PS.imp (ps_setLc (tt := fun σ H k => ∃ U, liftT ⟨X.K, U⟩ W0 dt σ H k) (te := fun σ H k => ∃ U, liftE ⟨X.K, U⟩ W0 de σ H k) hc hN hy hyl hsw hi ok hg (fun s H C cl fp => ⟨fun pins s1 σ H1 Q I ⟨U, q⟩ => (ht U s H C cl fp).run pins s1 σ H1 Q I q⟩)
    (fun s H C cl fp => ⟨fun pins s1 σ H1 Q I ⟨U, q⟩ => (he U s H C cl fp).run pins s1 σ H1 Q I q⟩) hs) fun D σ H ⟨ρ, M, F, nx, rt, bk, ct', ex, S, En, q, k1, k2, k3, k4, k5⟩ => ?_
  refine lift_lc (W := W) hv (fun U σ H k q => ⟨U, q⟩) (fun U σ H k q => ⟨U, q⟩) ⟨ρ, M, F, _, _, S, En, q, fun d M' F' v H' z s S' r => ?_, fun C dd M' F' H' z s S' => k5 C dd ρ M' F' σ H' z s S' (En.mono s)⟩
  exact k1 _ M' F' _ H' z s S' ((En.mono s).set i r)
end
end DL
namespace DL
variable [Wd]
open PySem L2
section
variable {X : Cx} {g : G} {W : WX} {pos : Pos} {a b c e o i : Expr} {es : List Expr} {da db dc de do_ di_ : DE} {dA : DA} {x f m : Str} {p apos cpos : Pos}
/-! ### a frozen dict is held while it is walked -/
def tLk (td : TE) : TE := fun σ H Q => td σ H fun x H1 => ∃ d u, x = .ref d ∧ ((∃ z, H1 d = some (.frz z u) ∧ Q x H1) ∨ (H1 d = some u ∧ Mut (some u) ∧ ∀ z, Q x (upd H1 d (.frz z u))))
theorem pe_lk {td : TE} (h : PE X e td) : PE X e (tLk td) := by
  refine ⟨fun pins s σ H Q I q => thn (h.run pins s σ H _ I q) fun v s1 ⟨x, H1, I1, rx, d, u, ex, q1⟩ => ?_⟩
  subst ex
  rcases q1 with ⟨z, _, q1⟩ | ⟨hd, mu, q1⟩
  · exact ⟨_, H1, I1, rx, q1⟩
  · obtain ⟨z, I2⟩ := I1.lock hd mu
    exact ⟨_, _, I2, rx, q1 z⟩
theorem sta_hold {K : PySem.W.Frag} {U F : Hp} {M : Mem} {H : Hp} {a : Addr} {u : HO} {z : Obj} (S : Sta ⟨K, U⟩ F M H) (hF : F a = some u) (hd : isDct u = true) (hH : H a = some (.frz z u)) : Sta ⟨K, upd U a (.frz z u)⟩ F M H ∧ Same U (upd U a (.frz z u)) := by
  refine ⟨⟨S.sub, fun b w hb => ?_, S.mem, S.nd⟩, fun b w hb => ?_⟩
  · by_cases e : b = a
    · subst e
      have hb' : upd U b (.frz z u) b = some w := hb
      rw [upd_same] at hb'
      cases hb'
      exact ⟨hH, .inr ⟨z, u, rfl, hF, hd⟩, fun m hm => by rw [(S.mem b m hm).1] at hF; cases hF⟩
    · have hb' : upd U a (.frz z u) b = some w := hb
      rw [upd_ne e] at hb'
      exact S.out b w hb'
  · by_cases e : b = a
    · subst e
      obtain ⟨h1, _⟩ := S.out b w hb
      rw [hH] at h1
      cases h1
      exact upd_same
    · rw [upd_ne e]; exact hb
/-- what a walk over a locked dict needs -/
theorem lock_dic {F : Hp} {M : Mem} {H : Hp} {v : V} {xs : List (Key × D)} {R : V → Hp → Prop} (S : Sta g F M H) (r : Rep g.K F v (.dic xs))
    (h : ∀ d z kvs U' H', v = .ref d → F d = some (.dK kvs) → H' d = some (.frz z (.dK kvs)) → (∃ V, V d = some (.frz z (.dK kvs)) ∧ Same V U' ∧ ∀ b o, V b = some o → ∃ z u, o = HO.frz z u) → Same g.U U' → Sta ⟨g.K, U'⟩ F M H' → kvs.map (·.1) = xs.map (·.1) → Reps g.K F (kvs.map (·.2)) (xs.map (·.2)) → R v H') :
    ∃ d u, v = .ref d ∧ ((∃ z, H d = some (.frz z u) ∧ R v H) ∨ (H d = some u ∧ Mut (some u) ∧ ∀ z, R v (upd H d (.frz z u)))) := by
  obtain ⟨K, U⟩ := g
  cases r with
  | dic e l r =>
    rename_i kvs
    refine ⟨_, .dK kvs, rfl, ?_⟩
    have lone : ∀ (d : Addr) (z : Obj) (U' : Hp) (u : HO), U' d = some (.frz z u) → ∃ V : Hp, V d = some (.frz z u) ∧ Same V U' ∧ ∀ b o, V b = some o → ∃ z u, o = HO.frz z u := fun d z U' u hU => by
      refine ⟨upd noH d (.frz z u), upd_same, fun b w hb => ?_, fun b w hb => ?_⟩
      · by_cases e : b = d
        · subst e
          rw [upd_same] at hb
          cases hb
          exact hU
        · rw [upd_ne e] at hb
          cases hb
      · by_cases e : b = d
        · subst e
          rw [upd_same] at hb
          cases hb
          exact ⟨_, _, rfl⟩
        · rw [upd_ne e] at hb
          cases hb
    rcases S.sub.dK e with q | ⟨z, q⟩
    · refine .inr ⟨q, trivial, fun z => ?_⟩
      obtain ⟨S', hU⟩ := S.lock (z := z) e rfl q
      exact h _ z _ _ _ rfl e upd_same (lone _ z _ _ upd_same) (fun b w hb => by rw [upd_ne (ne_of_none hb hU)]; exact hb) S' l r
    · obtain ⟨S', su⟩ := sta_hold S e rfl q
      exact .inl ⟨z, q, h _ z _ _ _ rfl e q (lone _ z _ _ upd_same) su S' l r⟩
theorem kv_get {K : PySem.W.Frag} {F : Hp} {kvs : List (Key × V)} {xs : List (Key × D)} (l : kvs.map (·.1) = xs.map (·.1)) (r : Reps K F (kvs.map (·.2)) (xs.map (·.2))) {i : Nat} {k : Key} {v : V} (h : kvs[i]? = some (k, v)) :
    ∃ d, xs[i]? = some (k, d) ∧ Rep K F v d := by
  have h2 : (kvs.map (·.2))[i]? = some v := by rw [List.getElem?_map, h]; rfl
  obtain ⟨d, e, rd⟩ := r.get' h2
  have h1 : (kvs.map (·.1))[i]? = some k := by rw [List.getElem?_map, h]; rfl
  rw [l, List.getElem?_map] at h1
  rw [List.getElem?_map] at e
  cases q : xs[i]? with
  | none => rw [q] at h1; cases h1
  | some y =>
    obtain ⟨k', d'⟩ := y
    rw [q] at h1 e
    cases h1
    cases e
    exact ⟨_, rfl, rd⟩
theorem rep_key {K : PySem.W.Frag} {F : Hp} (k : Key) : Rep K F (kV k) (keyD k) := by
  cases k <;> first | exact .int _ | exact .str _
theorem kvs_len {kvs : List (Key × V)} {xs : List (Key × D)} (l : kvs.map (·.1) = xs.map (·.1)) : kvs.length = xs.length := by
  have e := congrArg List.length l
  rwa [List.length_map, List.length_map] at e
theorem held {K : PySem.W.Frag} {U1 U F : Hp} {M : Mem} {H : Hp} {d : Addr} {o : HO} (hU : U1 d = some o) (su : Same U1 U) (S : Sta ⟨K, U⟩ F M H) : H d = some o := (S.out d o (su _ _ hU)).1
def itemsD (xs : List (Key × D)) : List D := xs.map fun kv => .tup [keyD kv.1, kv.2]
def iItm (de : DE) : DI := fun ρ M Q E => de ρ M (fun d M' => ∃ xs, d = .dic xs ∧ Q (itemsD xs) (fun _ => True) M') E
def iKey (de : DE) : DI := fun ρ M Q E => de ρ M (fun d M' => ∃ xs, d = .dic xs ∧ Q (xs.map fun kv => keyD kv.1) (fun _ => True) M') E
theorem di_items {elts : List Expr} {kk : Nat} {tpos : Pos} (he : PE X e (liftE g W de)) (hbase : attributeBase e "items" X.env (eval e X.env) = eval e X.env := by rfl) (hline : (apos.endLine == cpos.line) = true := by rfl) :
    PI X (.Tuple elts kk tpos) (.Call (.Attribute e "items" apos) [] [] cpos) (liftI g W (iItm de)) :=
  (pi_items (pe_lk he) hbase hline).imp fun σ H R ⟨ρ, M, F, Q, E, S, En, q, kQ, kE⟩ => ⟨ρ, M, F, _, E, S, En, q, fun d M' F' v H' ⟨xs, ed, z⟩ s S' r => by
    subst ed
    refine lock_dic (R := fun x H1 => ∃ d o kvs, x = V.ref d ∧ H1 d = some (.frz o (.dK kvs)) ∧ R (Iti d o kvs) H1) S' r fun d zo kvs U' H2 ev hF hH ⟨V, hU, sV, plV⟩ su S2 l rr => ⟨d, zo, kvs, ev, hH, kQ _ _ M' U' V F' _ H2 z su sV s S2 ⟨plV, fun i y U F2 M2 H3 su2 s2 S3 _ ey => ?_, fun i U F2 M2 H3 su2 s2 S3 _ ey => ?_⟩⟩
    · have hlt : i < kvs.length := by
        rw [kvs_len l]
        have := (List.getElem?_eq_some_iff.mp ey).1
        unfold itemsD at this
        rwa [List.length_map] at this
      refine ⟨⟨held hU su2 S3, hlt⟩, fun w H4 ⟨T, k, u, e1, e2, e3, e4⟩ => ?_⟩
      obtain ⟨dv, e5, r5⟩ := kv_get l rr e1
      unfold itemsD at ey
      rw [List.getElem?_map, e5] at ey
      cases ey
      subst e2 e4
      obtain ⟨s4, S4⟩ := S3.newF (o := .tup [kV k, u]) e3
      exact ⟨_, s4, S4, .tup upd_same (.cons (rep_key k) (.cons (r5.mono (s2.t s4)) .nil))⟩
    · refine ⟨held hU su2 S3, ?_⟩
      unfold itemsD at ey
      rw [List.length_map] at ey
      rw [kvs_len l]
      exact ey, kE⟩
theorem di_keys {tg : Expr} (he : PE X e (liftE g W de)) : PI X tg e (liftI g W (iKey de)) :=
  (pi_keys (pe_lk he)).imp fun σ H R ⟨ρ, M, F, Q, E, S, En, q, kQ, kE⟩ => ⟨ρ, M, F, _, E, S, En, q, fun d M' F' v H' ⟨xs, ed, z⟩ s S' r => by
    subst ed
    refine lock_dic (R := fun x H1 => ∃ d o, x = V.ref d ∧ ((∃ kvs, H1 d = some (.frz o (.dK kvs)) ∧ R (Itk d o kvs) H1) ∨ ∃ kvs, H1 d = some (.frz o (.dT kvs)) ∧ R (Itkt d o kvs) H1)) S' r fun d zo kvs U' H2 ev hF hH ⟨V, hU, sV, plV⟩ su S2 l rr => ⟨d, zo, ev, .inl ⟨kvs, hH, kQ _ _ M' U' V F' _ H2 z su sV s S2 ⟨plV, fun i y U F2 M2 H3 su2 s2 S3 _ ey => ?_, fun i U F2 M2 H3 su2 s2 S3 _ ey => ?_⟩⟩⟩
    · have hlt : i < kvs.length := by
        rw [kvs_len l]
        have := (List.getElem?_eq_some_iff.mp ey).1
        rwa [List.length_map] at this
      refine ⟨⟨held hU su2 S3, hlt⟩, fun w H4 ⟨e4, k, u, e1, e2⟩ => ?_⟩
      obtain ⟨dv, e5, r5⟩ := kv_get l rr e1
      rw [List.getElem?_map, e5] at ey
      cases ey
      subst e2 e4
      exact ⟨_, Same.r _, S3, rep_key k⟩
    · refine ⟨held hU su2 S3, ?_⟩
      rw [List.length_map] at ey
      rw [kvs_len l]
      exact ey, kE⟩
/-! ### o[i] = v -/
inductive SetQ (M : Mem) (d : D) (Q : Mem → Prop) : D → D → Prop
  | dic {q : Addr} {k : Key} {xs : List (Key × D)} {M' : Mem} : Upd q (.dic xs) (.dic (putD xs k d)) M M' → xs.length < sizeLine → Q M' → SetQ M d Q (.ptr q) (keyD k)
  | dit {q : Addr} {ds : List D} {k : NestedKey} {xs : List (D × D)} {M' : Mem} : toNK 8 (.tup ds) = some k → Upd q (.dit xs) (.dit (putT xs (.tup ds) k d)) M M' → xs.length < sizeLine → Q M' → SetQ M d Q (.ptr q) (.tup ds)
  | lst {q : Addr} {n : Int} {j : Nat} {ds : List D} {M' : Mem} : Upd q (.lst ds) (.lst (ds.set j d)) M M' → ixN ds.length n = some j → Q M' → SetQ M d Q (.ptr q) (.int n)
def gSub (do_ di_ : DE) : DG := fun d ρ M Q => do_ ρ M (fun o M1 => di_ ρ M1 (fun i M2 => SetQ M2 d (fun M3 => Q ρ M3) o i) fun _ _ _ => False) fun _ _ _ => False
theorem storedH_len {K : Type} [DecidableEq K] {xs : List (K × Addr × Value)} {k : K} {b : Addr} {u : Value} : (storedH xs k b u).length ≤ xs.length + 1 := by
  unfold storedH
  split
  · rw [List.length_map]; exact Nat.le_succ _
  · rw [List.length_append]; exact Nat.le_refl _
theorem set_any (hw : X.w = Wd.w) (hu : X.A.units + 64 < cLine) : PSet X (fun o i v H Q => ∃ F M d oD iD Qd, Sta g F M H ∧ Rep g.K F o oD ∧ Rep g.K F i iD ∧ Rep g.K F v d ∧ SetQ M d Qd oD iD ∧ ∀ M' H', Qd M' → Sta g F M' H' → Q H') := by
  intro pins s σ H o i v ov iv u Q I ro ri rv h
  obtain ⟨F, M, d, oD, iD, Qd, S, r1, r2, r3, q, kQ⟩ := h
  cases q with
  | dic hu2 hl z =>
    cases r1
    obtain rfl := key_rep r2
    obtain ⟨_, w, hw, kvs, rfl, l, rr⟩ := S.mem _ _ hu2.old
    have hl' : kvs.length < sizeLine := by rw [kvs_len l]; exact hl
    obtain ⟨p1, p2⟩ := put_rep _ l rr r3
    exact set_dict (by omega) pins s σ H _ _ v ov iv u Q I ro ri rv ⟨_, _, rfl, DPut.k hw hl', kQ _ _ z (S.upd hu2 ⟨_, rfl, p1, p2⟩)⟩
  | dit hk hu2 hl z =>
    cases r1
    obtain ⟨_, w, hw', xs, rfl, en⟩ := S.mem _ _ hu2.old
    obtain ⟨dd, hz, hy⟩ := nk_dict hw I S (.inl hw') en.to
    obtain rfl : ov = Value.ref _ := ro
    cases r2 with
    | tup hb rb =>
      obtain rfl : iv = Value.ref _ := ri
      obtain ⟨b1, b2⟩ := rep_nk I S 8 _ _ _ _ hk (.tup hb rb) rfl
      refine wpAny_setItem_heap (knd := nestedKind X.prog X.w) (hsz := hz) (room_in1 hu) ⟨b1, b2⟩ dd fun h' dd' hs => ?_
      have en' := (en.to.put hk (.tup hb rb) rv r3)
      have he : ∃ q, h'.get? _ = some q := let ⟨q, _, _, hq, _⟩ := dd'; ⟨q, hq⟩
      exact ⟨_, d_write I (by rw [hw']; exact True.intro) hs he (nk_new hw dd' (Nat.le_trans storedH_len (show xs.length + 1 ≤ sizeLine by rw [en.to.length]; exact hl)) hy), kQ _ _ z (S.upd hu2 ⟨_, rfl, en'.of⟩)⟩
  | lst hu2 hj z =>
    cases r1
    cases r2
    obtain ⟨_, w, hw, xs, rfl, rr⟩ := S.mem _ _ hu2.old
    exact set_list pins s σ H _ _ v ov iv u Q I ro ri rv ⟨_, xs, _, _, rfl, rfl, hw, by rw [rr.length]; exact hj, kQ _ _ z (S.upd hu2 ⟨_, rfl, rr.set r3 _⟩)⟩
theorem dg_sub (hw : X.w = Wd.w) (hu : X.A.units + 64 < cLine) (ho : PE X o (liftE g W0 do_)) (hi : PE X i (liftE g W0 di_))
    (ha : ∀ v, assign (.Subscript o i pos) X.env v = (do
      let ov ← holding [v] (eval o X.env)
      let iv ← holding [v, ov] (eval i X.env)
      standAt pos
      holding [v, ov, iv] (setItem ov iv v)
      release [v, ov, iv] []) := by intro _; rfl) : PG X (.Subscript o i pos) (liftG g (gSub do_ di_)) :=
  (pg_sub ho hi (set_any (g := g) hw hu) ha).imp fun v σ H k ⟨ρ, M, F, d, Q, S, En, r, q, kQ⟩ => by
    refine ⟨ρ, M, F, _, _, S, En, q, fun oD M1 F1 ov H1 q1 s1 S1 r1 => ⟨ρ, M1, F1, _, _, S1, En.mono s1, q1, fun iD M2 F2 iv H2 q2 s2 S2 r2 => ?_, fun _ _ _ _ _ z => z.elim⟩, fun _ _ _ _ _ z => z.elim⟩
    exact ⟨F2, M2, d, oD, iD, _, S2, r1.mono s2, r2, r.mono (s1.t s2), q2, fun M3 H3 z S3 => kQ ρ M3 F2 σ H3 z (s1.t s2) S3 (En.mono (s1.t s2))⟩
section
variable {F : Hp} {M : Mem} {H : Hp} {pins : List (Addr × Obj)} {σ : L2.St} {s : Shared}
end
theorem de_globC {C : Addr} (hg : Gl X x) (hm : X.mg x = some (.ref C)) (hd : (x == ("__debug__" : Str)) = false := by decide) : PE X (.Name x pos) (liftE g W (dC (.ptr C))) := de_c (v := .ref C) (pe_glob hg hm rfl hd) fun _ => .ptr C
end
end DL
namespace DL
variable [Wd]
open PySem L2
section
variable {X : Cx} {g : G} {W : WX} {pos : Pos} {a b c e : Expr} {es : List Expr} {de dk dv : DE} {dt : DT}
/-! ### an object under construction, apart from all else -/
structure Acc (K : PySem.W.Frag) (U : Hp) (p : Addr) (o : HO) (F : Hp) (M : Mem) (H : Hp) : Prop where
  st : Sta ⟨K, U⟩ F M H
  at_ : H p = some o
  nF : F p = none
  nM : ∀ m, (p, m) ∉ M
  nU : U p = none
def Plain (o : HO) : Prop := ∀ z u, o ≠ .frz z u
section
variable {K : PySem.W.Frag} {U F : Hp} {M : Mem} {H : Hp} {p : Addr} {o o' : HO}
theorem acc_new (S : Sta ⟨K, U⟩ F M H) (hp : H p = none) : Acc K U p o F M (upd H p o) :=
  ⟨S.grow hp, upd_same, S.sub.none hp, S.fresh hp, by
    cases e : U p with
    | none => rfl
    | some w => have z := (S.out p w e).1; rw [hp] at z; cases z⟩
theorem Acc.into (A : Acc K U p o F M H) : Sta ⟨K, L2.upd U p o⟩ F M H := ⟨A.st.sub, fun b w hb => by
  by_cases e : b = p
  · subst e
    have hb' : (L2.upd U b o) b = some w := hb
    rw [upd_same] at hb'
    cases hb'
    exact ⟨A.at_, .inl A.nF, A.nM⟩
  · have hb' : (L2.upd U p o) b = some w := hb
    rw [upd_ne e] at hb'
    exact A.st.out b w hb', A.st.mem, A.st.nd⟩
theorem acc_back (hU : U p = none) (ho : Plain o) (S : Sta ⟨K, L2.upd U p o⟩ F M H) : Acc K U p o F M H := by
  obtain ⟨u1, u2, u3⟩ := S.out p o upd_same
  refine ⟨⟨S.sub, fun b w hb => S.out b w ?_, S.mem, S.nd⟩, u1, ?_, u3, hU⟩
  · have hbp : b ≠ p := fun z => by
      subst z
      have hb' : U b = some w := hb
      rw [hU] at hb'
      cases hb'
    show (L2.upd U p o) b = some w
    rw [upd_ne hbp]
    exact hb
  · rcases u2 with h | ⟨z, u, h, _⟩
    · exact h
    · exact absurd h (ho z u)
theorem Acc.put (A : Acc K U p o F M H) : Acc K U p o' F M (L2.upd H p o') := by
  refine ⟨⟨fun b w hb => ?_, fun b w hb => ?_, fun b m hm => ?_, A.st.nd⟩, upd_same, A.nF, A.nM, A.nU⟩
  · rw [upd_ne (ne_of_none hb A.nF)]
    exact A.st.sub b w hb
  · have hbp : b ≠ p := fun z => by
      subst z
      have hb' : U b = some w := hb
      rw [A.nU] at hb'
      cases hb'
    rw [upd_ne hbp]
    exact A.st.out b w hb
  · have hbp : b ≠ p := fun z => by
      subst z
      exact A.nM m hm
    rw [upd_ne hbp]
    exact A.st.mem b m hm
/-- it is done: frozen -/
theorem Acc.froz (A : Acc K U p o F M H) (ho : isDct o = true ∨ True) : Same F (L2.upd F p o) ∧ Sta ⟨K, U⟩ (L2.upd F p o) M H := by
  have s : Same F (L2.upd F p o) := fun b w hb => by rw [upd_ne (ne_of_none hb A.nF)]; exact hb
  refine ⟨s, ⟨fun b w hb => ?_, fun b w hb => ?_, fun b m hm => ?_, A.st.nd⟩⟩
  · by_cases hbp : b = p
    · subst hbp
      rw [upd_same] at hb
      cases hb
      exact .inl A.at_
    · rw [upd_ne hbp] at hb
      exact A.st.sub b w hb
  · have hbp : b ≠ p := fun z => by
      subst z
      have hb' : U b = some w := hb
      rw [A.nU] at hb'
      cases hb'
    obtain ⟨o1, o2, o3⟩ := A.st.out b w hb
    exact ⟨o1, o2.ext (upd_ne hbp), o3⟩
  · have hbp : b ≠ p := fun z => by
      subst z
      exact A.nM m hm
    rw [upd_ne hbp]
    obtain ⟨h1, w, h2, h3⟩ := A.st.mem b m hm
    exact ⟨h1, w, h2, h3.mono s⟩
/-- it is done: it may change -/
theorem Acc.free (A : Acc K U p o F M H) {m : MO} (r : RepM K F p o m) : Sta ⟨K, U⟩ F ((p, m) :: M) H := by
  refine ⟨A.st.sub, fun b w hb => ?_, fun b n hm => ?_, ?_⟩
  · obtain ⟨u1, u2, u3⟩ := A.st.out b w hb
    refine ⟨u1, u2, fun n hn => ?_⟩
    rcases List.mem_cons.mp hn with z | z
    · have e : b = p := congrArg Prod.fst z
      subst e
      have hb' : U b = some w := hb
      rw [A.nU] at hb'
      cases hb'
    · exact u3 n z
  · rcases List.mem_cons.mp hm with z | z
    · cases z
      exact ⟨A.nF, _, A.at_, r⟩
    · exact A.st.mem b n z
  · refine List.nodup_cons.mpr ⟨fun z => ?_, A.st.nd⟩
    obtain ⟨q, hq, e⟩ := List.mem_map.mp z
    obtain ⟨b, n⟩ := q
    cases e
    exact A.nM n hq
end
/-- a target of a comprehension -/
theorem ct_go {K : PySem.W.Frag} {U F : Hp} {M : Mem} {H : Hp} {ct : CT} {d : D} {x : V} {σ : L2.St} {ρ : Rho} {vs ws : List Nat} {k : Rho → Prop} {R : L2.St → Hp → Prop} (hv : ∀ i ∈ ct.slots, i ∈ vs) (S : Sta ⟨K, U⟩ F M H) (r : Rep K F x d) (En : Enr K F (wipe σ ws) (wipeD ρ ws))
    (hw : ∀ τ, wipe τ vs = wipe (wipe σ ws) vs → ∀ ρ2, Enr K F τ ρ2 → k ρ2 → R τ H) (q : ct.go d (wipeD ρ ws) k) : ct.tg K x (wipe σ ws) H R := by
  cases ct with
  | nm j =>
    refine hw _ ?_ _ (En.set j r) q
    exact wipe_of (hv j List.mem_cons_self) rfl
  | tp is =>
    obtain ⟨ds, ed, hl, q4⟩ := q
    rw [ed] at r
    cases r with
    | tup hs rr =>
      exact ⟨_, _, rfl, S.sub.sqT hs, by rw [rr.length]; exact hl, gNs_set (by rw [rr.length]; exact hl) (hw _ (wipe_setAll (fun j hj => hv j hj) rfl) _ (enr_setAll rr En) q4)⟩
/-! ### list comprehensions with two for -/
def goC2i (ct1 : CT) (dt1 : DT) (de : DE) (st1 : Mem → Prop) (ρ1 : Rho) (Q : List D → Mem → Prop) : List D → List D → Mem → Prop
  | [], acc, M => st1 M ∧ Q acc M
  | d :: ds, acc, M => st1 M ∧ acc.length < sizeLine ∧ ct1.go d ρ1 (fun ρ' => dt1 ρ' M (fun b M2 => if b = true then de ρ' M2 (fun e M3 => goC2i ct1 dt1 de st1 ρ1 Q ds (acc ++ [e]) M3) noE else goC2i ct1 dt1 de st1 ρ1 Q ds acc M2) noE)
def goC2 (ct : CT) (dt : DT) (di1 : DI) (ct1 : CT) (dt1 : DT) (de : DE) (vs1 : List Nat) (st : Mem → Prop) (ρ : Rho) (Q : List D → Mem → Prop) : List D → List D → Mem → Prop
  | [], acc, M => st M ∧ Q acc M
  | d :: ds, acc, M => st M ∧ ct.go d ρ (fun ρ' => dt ρ' M (fun b M2 => if b = true then di1 ρ' M2 (fun its1 st1 M3 => goC2i ct1 dt1 de st1 (wipeD ρ' vs1) (fun acc' M4 => goC2 ct dt di1 ct1 dt1 de vs1 st ρ Q ds acc' M4) its1 acc M3) noE else goC2 ct dt di1 ct1 dt1 de vs1 st ρ Q ds acc M2) noE)
def dLc2 (di : DI) (ct : CT) (dt : DT) (di1 : DI) (ct1 : CT) (dt1 : DT) (de : DE) (vs vs1 : List Nat) : DE := fun ρ M Q E => di ρ M (fun ds st M1 => goC2 ct dt di1 ct1 dt1 de vs1 st (wipeD ρ vs) (fun acc M2 => NewL acc M2 Q) ds [] M1) E
/-- what others hold, but p -/
def butU (U : Hp) (p : Addr) : Hp := fun b => if b = p then none else U b
theorem acc_but {K : PySem.W.Frag} {U1 U' V F : Hp} {M : Mem} {H : Hp} {p : Addr} {o : HO} (ho : Plain o) (hU : U1 p = none) (su : Same (upd U1 p o) U') (sv : Same V U') (pv : ∀ b w, V b = some w → ∃ z u, w = HO.frz z u) (S : Sta ⟨K, U'⟩ F M H) :
    Acc K (butU U' p) p o F M H ∧ Same U1 (butU U' p) ∧ Same V (butU U' p) := by
  have hp : U' p = some o := su _ _ upd_same
  have hb : butU U' p p = none := if_pos rfl
  have up : Same (upd (butU U' p) p o) U' := fun b w e => by
    by_cases q : b = p
    · subst q
      rw [upd_same] at e
      cases e
      exact hp
    · rw [upd_ne q] at e
      have e' : (if b = p then none else U' b) = some w := e
      rwa [if_neg q] at e'
  refine ⟨acc_back hb ho (S.less up), fun b w e => ?_, fun b w e => ?_⟩
  · have q : b ≠ p := ne_of_none e hU
    show (if b = p then none else U' b) = some w
    rw [if_neg q]
    exact su _ _ (by rw [upd_ne q]; exact e)
  · have q : b ≠ p := fun z => by
      subst z
      obtain ⟨z, u, ez⟩ := pv _ _ e
      have e2 := sv _ _ e
      rw [hp] at e2
      cases e2
      exact ho z u ez
    show (if b = p then none else U' b) = some w
    rw [if_neg q]
    exact sv _ _ e
theorem lift_lc2 {di di1 : DI} {ct ct1 : CT} {dt1 : DT} {vs vs1 : List Nat} {K : PySem.W.Frag} {U : Hp} {tt tt1 : TT} {ti1 : TI} {te : TE} (hv : ∀ i ∈ ct.slots, i ∈ vs) (hv1 : ∀ i ∈ ct1.slots, i ∈ vs1) (ht : ∀ U σ H k, liftT ⟨K, U⟩ W0 dt σ H k → tt σ H k) (hi1 : ∀ U σ H k, liftI ⟨K, U⟩ W0 di1 σ H k → ti1 σ H k)
    (ht1 : ∀ U σ H k, liftT ⟨K, U⟩ W0 dt1 σ H k → tt1 σ H k) (he : ∀ U σ H k, liftE ⟨K, U⟩ W0 de σ H k → te σ H k) {σ : L2.St} {H : Hp} {k : VK}
    (h : liftE ⟨K, U⟩ W (dLc2 di ct dt di1 ct1 dt1 de vs vs1) σ H k) : tLc2 (liftI ⟨K, U⟩ W di) (ct.tg K) tt ti1 (ct1.tg K) tt1 te vs vs1 σ H k := by
  obtain ⟨ρ, M, F, Q, E, S, En, q, kQ, kE⟩ := h
  refine ⟨ρ, M, F, _, _, S, En, q, fun its st M1 U1 V F1 J H1 q1 su sv s1 S1 Y => fun p hp => ?_, kE⟩
  let Qn : List D → Mem → Prop := fun acc M2 => NewL acc M2 Q
  let P : Nat → Hp → Prop := fun i H => i ≤ its.length ∧ ∃ acc xs M F', Same F1 F' ∧ Acc K U1 p (.lst xs) F' M H ∧ Reps K F' xs acc ∧ goC2 ct dt di1 ct1 dt1 de vs1 st (wipeD ρ vs) Qn (its.drop i) acc M
  refine ⟨fun i m H => m = its.length - i ∧ P i H, ⟨_, rfl, Nat.zero_le _, [], [], M1, F1, Same.r F1, acc_new S1 hp, .nil, q1⟩, ?_⟩
  rintro i m H2 ⟨rfl, hi, acc, xs, M2, F2, s2, A2, ra, q2⟩
  have pl : ∀ xs, Plain (.lst xs) := fun _ _ _ z => nomatch z
  by_cases hlt : i < its.length
  · rw [List.drop_eq_getElem_cons hlt] at q2
    obtain ⟨hst, q3⟩ := q2
    have sup : Same U1 (upd U1 p (.lst xs)) := fun b o hb => by rw [upd_ne (ne_of_none hb A2.nU)]; exact hb
    obtain ⟨g1, g2⟩ := Y.go i its[i] _ F2 M2 H2 (sv.t sup) s2 A2.into hst (by simp [hlt])
    refine .inr ⟨g1, P (i + 1), fun H' pr => ⟨_, by omega, rfl, pr⟩, fun x H' y => ?_⟩
    obtain ⟨F3, s3, S3, r3⟩ := g2 x H' y
    have s13 := s2.t s3
    refine ct_go hv S3 r3 (enr_wipe (En.mono (s1.t s13)) vs) (fun σ2 hw ρ2 En2 q4 => ⟨by rw [hw, wipe_wipe], ?_⟩) q3
    refine ht (upd U1 p (.lst xs)) _ _ _ ⟨ρ2, M2, F3, _, _, S3, En2, q4, fun b M4 F4 H4 q5 s4 S4 => ?_, fun _ _ _ _ _ z => z.elim⟩
    cases b with
    | false =>
      rw [if_neg Bool.false_ne_true] at q5 ⊢
      exact ⟨hlt, acc, xs, M4, F4, s13.t s4, acc_back A2.nU (pl _) S4, (ra.mono s3).mono s4, q5⟩
    | true =>
      rw [if_pos rfl] at q5 ⊢
      refine hi1 (upd U1 p (.lst xs)) _ _ _ ⟨ρ2, M4, F4, _, _, S4, En2.mono s4, q5, fun its1 st1 M5 U5 V5 F5 J5 H5 q6 su5 sv5 s5 S5 Y5 => ?_, fun _ _ _ _ _ z => z.elim⟩
      obtain ⟨A5, sU, sV⟩ := acc_but (pl xs) A2.nU su5 sv5 Y5.pl S5
      have s15 := (s13.t s4).t s5
      let P1 : Nat → Hp → Prop := fun j H => j ≤ its1.length ∧ ∃ acc xs M F', Same F5 F' ∧ Acc K (butU U5 p) p (.lst xs) F' M H ∧ Reps K F' xs acc ∧
        goC2i ct1 dt1 de st1 (wipeD ρ2 vs1) (fun acc' M4 => goC2 ct dt di1 ct1 dt1 de vs1 st (wipeD ρ vs) Qn (its.drop (i + 1)) acc' M4) (its1.drop j) acc M
      refine ⟨fun j m H => m = its1.length - j ∧ P1 j H, ⟨_, rfl, Nat.zero_le _, acc, xs, M5, F5, Same.r F5, A5, ((ra.mono s3).mono s4).mono s5, q6⟩, ?_⟩
      rintro j m H6 ⟨rfl, hj, acc6, xs6, M6, F6, s6, A6, ra6, q7⟩
      by_cases hlt1 : j < its1.length
      · rw [List.drop_eq_getElem_cons hlt1] at q7
        obtain ⟨hst1, hz, q8⟩ := q7
        have sup6 : Same (butU U5 p) (upd (butU U5 p) p (.lst xs6)) := fun b o hb => by rw [upd_ne (ne_of_none hb A6.nU)]; exact hb
        obtain ⟨g3, g4⟩ := Y5.go j its1[j] _ F6 M6 H6 (sV.t sup6) s6 A6.into hst1 (by simp [hlt1])
        refine .inr ⟨g3, P1 (j + 1), fun H' pr => ⟨_, by omega, rfl, pr⟩, fun x1 H7 y1 => ?_⟩
        obtain ⟨F7, s7, S7, r7⟩ := g4 x1 H7 y1
        have s47 := s5.t (s6.t s7)
        refine ct_go hv1 S7 r7 (enr_wipe (En2.mono (s4.t s47)) vs1) (fun σ3 hw3 ρ3 En3 q9 => ⟨by rw [hw3, wipe_wipe], ?_⟩) q8
        refine ht1 (upd (butU U5 p) p (.lst xs6)) _ _ _ ⟨ρ3, M6, F7, _, _, S7, En3, q9, fun b M8 F8 H8 q10 s8 S8 => ?_, fun _ _ _ _ _ z => z.elim⟩
        cases b with
        | false =>
          rw [if_neg Bool.false_ne_true] at q10 ⊢
          exact ⟨hlt1, acc6, xs6, M8, F8, (s6.t s7).t s8, acc_back A6.nU (pl _) S8, (ra6.mono s7).mono s8, q10⟩
        | true =>
          rw [if_pos rfl] at q10 ⊢
          refine he (upd (butU U5 p) p (.lst xs6)) _ _ _ ⟨ρ3, M8, F8, _, _, S8, En3.mono s8, q10, fun d M9 F9 v H9 q11 s9 S9 r9 => ?_, fun _ _ _ _ _ z => z.elim⟩
          have A9 := acc_back A6.nU (pl _) S9
          exact ⟨xs6, A9.at_, by rw [ra6.length]; exact hz, hlt1, acc6 ++ [d], xs6 ++ [v], M9, F9, (s6.t s7).t (s8.t s9), A9.put, ((ra6.mono s7).mono (s8.t s9)).append (.cons r9 .nil), q11⟩
      · have e : its1.drop j = [] := List.drop_eq_nil_of_le (by omega)
        rw [e] at q7
        refine .inl ⟨Y5.stop j (butU U5 p) F6 M6 H6 sV s6 A6.st q7.1 (by omega), hlt, acc6, xs6, M6, F6, s15.t s6, ⟨A6.st.less sU, A6.at_, A6.nF, A6.nM, A2.nU⟩, ra6, q7.2⟩
  · have e : its.drop i = [] := List.drop_eq_nil_of_le (by omega)
    rw [e] at q2
    refine .inl ⟨Y.stop i U1 F2 M2 H2 sv s2 A2.st q2.1 (by omega), ?_⟩
    rcases q2.2 with q4 | q4
    · obtain ⟨s, S'⟩ := A2.froz (.inr trivial)
      exact kQ _ M2 _ _ H2 q4 ((s1.t s2).t s) (Sta.less S' su) (.lst upd_same (ra.mono s))
    · exact kQ _ _ F2 _ H2 (q4 p A2.nM) (s1.t s2) (Sta.less (A2.free (m := .lst acc) ⟨xs, rfl, ra⟩) su) (.ptr p)
theorem de_lc2 {elt tg iter tg1 iter1 : Expr} {ifs ifs1 : List Expr} {scope : Scope} {own : List (Str × Nat)} {di di1 : DI} {ct ct1 : CT} {dt1 : DT} {vs1 : List Nat} (hc : X.calm = true) (hK : g.K = X.K) (hN : X.N.Nodup) (hi : PI X tg iter (liftI g W di)) (ok : BlkOk X.N X.env.scope scope own)
    (hv : ∀ i ∈ ct.slots, i ∈ own.map (·.2)) (hv1 : ∀ i ∈ ct1.slots, i ∈ vs1) (hvs : ∀ i ∈ vs1, i ∈ own.map (·.2))
    (hg : ∀ (s : Shared) (H : Hp) (C : Addr) (cl : List (Str × Addr)) (fp : List Addr), PG (X.blk s H scope (PySem.compEnvC scope cl C X.env) fp) tg (ct.tg X.K))
    (ht : ∀ (U : Hp) (s : Shared) (H : Hp) (C : Addr) (cl : List (Str × Addr)) (fp : List Addr), PTs (X.blk s H scope (PySem.compEnvC scope cl C X.env) fp) ifs (liftT ⟨X.K, U⟩ W0 dt))
    (hi1 : ∀ (U : Hp) (s : Shared) (H : Hp) (C : Addr) (cl : List (Str × Addr)) (fp : List Addr), PI (X.blk s H scope (PySem.compEnvC scope cl C X.env) fp) tg1 iter1 (liftI ⟨X.K, U⟩ W0 di1))
    (hg1 : ∀ (s : Shared) (H : Hp) (C : Addr) (cl : List (Str × Addr)) (fp : List Addr), PG (X.blk s H scope (PySem.compEnvC scope cl C X.env) fp) tg1 (ct1.tg X.K))
    (ht1 : ∀ (U : Hp) (s : Shared) (H : Hp) (C : Addr) (cl : List (Str × Addr)) (fp : List Addr), PTs (X.blk s H scope (PySem.compEnvC scope cl C X.env) fp) ifs1 (liftT ⟨X.K, U⟩ W0 dt1))
    (he : ∀ (U : Hp) (s : Shared) (H : Hp) (C : Addr) (cl : List (Str × Addr)) (fp : List Addr), PE (X.blk s H scope (PySem.compEnvC scope cl C X.env) fp) elt (liftE ⟨X.K, U⟩ W0 de)) (hs : ∀ x, foldedSetIterable iter X.env x = pure x := by intro _; rfl) (hs1 : ∀ env x, foldedSetIterable iter1 env x = pure x := by intro _ _; rfl) :
    PE X (.ListComp elt [⟨tg, iter, ifs, 0⟩, ⟨tg1, iter1, ifs1, 0⟩] scope pos) (liftE g W (dLc2 di ct dt di1 ct1 dt1 de (own.map (·.2)) vs1)) := by
  obtain ⟨K0, U⟩ := g
  simp only at hK
  subst hK
  exact PE.imp (pe_lc2 (tt := fun σ H k => ∃ U, liftT ⟨X.K, U⟩ W0 dt σ H k) (wi1 := fun σ H k => ∃ U, liftI ⟨X.K, U⟩ W0 di1 σ H k) (tt1 := fun σ H k => ∃ U, liftT ⟨X.K, U⟩ W0 dt1 σ H k) (te := fun σ H k => ∃ U, liftE ⟨X.K, U⟩ W0 de σ H k) hc hN hi ok hvs hg (fun s H C cl fp => ⟨fun pins s1 σ H1 Q I ⟨U, q⟩ => (ht U s H C cl fp).run pins s1 σ H1 Q I q⟩)
    (fun s H C cl fp => ⟨fun pins s1 σ H1 Q I ⟨U, q⟩ => (hi1 U s H C cl fp).run pins s1 σ H1 Q I q⟩) hg1 (fun s H C cl fp => ⟨fun pins s1 σ H1 Q I ⟨U, q⟩ => (ht1 U s H C cl fp).run pins s1 σ H1 Q I q⟩)
    (fun s H C cl fp => ⟨fun pins s1 σ H1 Q I ⟨U, q⟩ => (he U s H C cl fp).run pins s1 σ H1 Q I q⟩) hs hs1) fun σ H k h => lift_lc2 hv hv1 (fun U σ H k q => ⟨U, q⟩) (fun U σ H k q => ⟨U, q⟩) (fun U σ H k q => ⟨U, q⟩) (fun U σ H k q => ⟨U, q⟩) h
end
end DL
namespace DL
variable [Wd]
open PySem L2 PySem.Spec PyProof.Rows
section
variable {X : Cx}
end
section
variable {X : Cx} {g : G} {W : WX} {pos : Pos} {dt : DT} {dk dv : DE}
end
end DL
namespace DL
variable [Wd]
open PySem L2
section
variable {X : Cx} {g : G} {W : WX} {pos : Pos} {a b c e : Expr} {es : List Expr} {de : DE} {dt : DT} {x : Str}
/-! ### isinstance of the error that a suite holds -/
inductive ClD : D → Value → Prop
  | own (C : Addr) : ClD (.ptr C) (.ref C)
  | ty (n : String) : ClD (.ty n) (.type n)
theorem de_type {T : String} (hg : Gl X x) (hm : X.mg x = none) (hv : bootBuiltins x = some (.type T)) (hn : x ≠ "__name__" := by decide) (hd : (x == ("__debug__" : Str)) = false := by decide) : PE X (.Name x pos) (liftE g W (dC (.ty T))) := de_c (v := .ty T) (pe_bltn hg hm hv rfl hn hd) fun _ => .ty T
end
/-! ### steps -/
section
variable {ρ : Rho} {M : Mem} {E : XD}
theorem g_var {i : Nat} {d : D} {Q : D → Mem → Prop} (h : at_ ρ i = some d) (q : Q d M) : dVar i ρ M Q E := ⟨d, h, q⟩
theorem g_c {d : D} {Q : D → Mem → Prop} (q : Q d M) : dC d ρ M Q E := q
theorem g_op {r : DR2} {da db : DE} {Q : D → Mem → Prop} (q : da ρ M (fun d M1 => db ρ M1 (fun e M2 => r d e M2 Q) E) E) : dOp r da db ρ M Q E := q
theorem g_nil {Q : List D → Mem → Prop} (q : Q [] M) : dNil ρ M Q E := q
theorem g_cons {de : DE} {dA : DA} {Q : List D → Mem → Prop} (q : de ρ M (fun d M1 => dA ρ M1 (fun ds M2 => Q (d :: ds) M2) E) E) : dCons de dA ρ M Q E := q
theorem g_cb {r : DC} {dA : DA} {Q : D → Mem → Prop} (q : dA ρ M (fun ds M1 => r ds M1 Q) E) : dCB r dA ρ M Q E := q
theorem g_call {sd : SpD} {dA : DA} {Q : D → Mem → Prop} (q : dA ρ M (fun ds M1 => sd ds M1 Q E) E) : dCall sd dA ρ M Q E := q
theorem g_tup {dA : DA} {Q : D → Mem → Prop} (q : dA ρ M (fun ds M' => ds.length ≤ sizeLine ∧ Q (.tup ds) M') E) : dTup dA ρ M Q E := q
theorem g_lst {dA : DA} {Q : D → Mem → Prop} (q : dA ρ M (fun ds M' => ds.length ≤ sizeLine ∧ NewL ds M' Q) E) : dLst dA ρ M Q E := q
theorem g_B {de : DE} {Q : Bool → Mem → Prop} (q : de ρ M (fun d M' => ∃ k, d = .bl k ∧ Q k M') E) : dB de ρ M Q E := q
theorem g_not {dt : DT} {Q : Bool → Mem → Prop} (q : dt ρ M (fun c M1 => Q (!c) M1) E) : dNot dt ρ M Q E := q
theorem g_or {dt du : DT} {Q : Bool → Mem → Prop} (q : dt ρ M (fun c M1 => if c = true then Q true M1 else du ρ M1 Q E) E) : dOr dt du ρ M Q E := q
theorem g_bl {k : Bool} {R : Bool → Prop} (q : R k) : ∃ j, D.bl k = .bl j ∧ R j := ⟨k, rfl, q⟩
theorem g_in {k : Int} {R : Int → Prop} (q : R k) : ∃ j, D.int k = .int j ∧ R j := ⟨k, rfl, q⟩
theorem g_iff {c : Prop} [Decidable c] {a b : Prop} (h : c → a) (h' : ¬ c → b) : if (decide c) = true then a else b := by
  by_cases q : c
  · rw [if_pos (decide_eq_true q)]; exact h q
  · rw [if_neg (by simpa using q)]; exact h' q
theorem g_ift {k : Bool} {a b : Prop} (e : k = true) (h : a) : if k = true then a else b := by rw [if_pos e]; exact h
theorem g_iff' {k : Bool} {a b : Prop} (e : k = false) (h : b) : if k = true then a else b := by rw [if_neg (by rw [e]; exact Bool.false_ne_true)]; exact h
theorem g_fld {K : PySem.W.Frag} {de : DE} {f : Str} {Q : D → Mem → Prop} (q : de ρ M (fun d M' => ∃ C es d', IsO M' d C es ∧ FldOk K C f ∧ Has es f d' ∧ Q d' M') E) : dFld K de f ρ M Q E := q
end
section
variable {ρ : Rho} {M : Mem} {nx : NX} {rt : D → Mem → Prop} {bk ct : NX} {ex : Addr → Addr → Rho → Mem → Prop}
theorem g_next (q : nx ρ M) : sNext nx rt bk ct ex ρ M := q
theorem g_seq {t u : DS} (q : t (u nx rt bk ct ex) rt bk ct ex ρ M) : sSeq t u nx rt bk ct ex ρ M := q
theorem g_drop {de : DE} (q : de ρ M (fun _ M' => nx ρ M') (fun C dd M' => ex C dd ρ M')) : sDrop de nx rt bk ct ex ρ M := q
theorem g_ret {de : DE} (q : de ρ M rt (fun C dd M' => ex C dd ρ M')) : sRet de nx rt bk ct ex ρ M := q
theorem g_sif {dt : DT} {t u : DS} (q : dt ρ M (fun c M1 => if c = true then t nx rt bk ct ex ρ M1 else u nx rt bk ct ex ρ M1) (fun C dd M' => ex C dd ρ M')) : sIf dt t u nx rt bk ct ex ρ M := q
theorem g_asg {de : DE} {dg : DG} (q : de ρ M (fun d M1 => dg d ρ M1 nx) (fun C dd M' => ex C dd ρ M')) : sAsg de dg nx rt bk ct ex ρ M := q
theorem g_sfor {di : DI} {dg : DG} {body : DS} (q : di ρ M (fun ds st M1 => goF dg body st nx rt ex ds ρ M1) (fun C dd M' => ex C dd ρ M')) : sFor di dg body nx rt bk ct ex ρ M := q
theorem g_nm {i : Nat} {d : D} {Q : NX} (q : Q (put ρ i (some d)) M) : gNm i d ρ M Q := q
end
end DL
local macro_rules | `(tactic| walk_at "dl") => `(tactic| repeat (first | (with_reducible first | refine DL.g_seq ?_ | refine DL.g_asg ?_ | refine DL.g_sif ?_ | refine DL.g_ret ?_ | refine DL.g_retN ?_ | refine DL.g_drop ?_ | refine DL.g_next ?_ | refine DL.g_cont ?_ | refine DL.g_brk ?_ | refine DL.g_sfor ?_ | refine DL.g_op ?_ | refine DL.g_c ?_ | refine DL.g_nil ?_ | refine DL.g_cons ?_ | refine DL.g_cb ?_ | refine DL.g_call ?_ | refine DL.g_tup ?_ | refine DL.g_lst ?_ | refine DL.g_B ?_ | refine DL.g_not ?_ | refine DL.g_and ?_ | refine DL.g_or ?_ | refine DL.g_if ?_ | refine DL.g_bl ?_ | refine DL.g_in ?_ | refine DL.g_nm ?_ | refine DL.g_fld ?_ | refine DL.IntB.int ?_ | refine DL.AddR.int ?_ | refine DL.SubR.int ?_ | refine DL.EqR.int ?_ | refine DL.EqR.str ?_ | refine DL.EqR.bl ?_ | refine DL.IntC.int ?_ | refine DL.IsR.non ?_) | (refine DL.g_var (by first | assumption | rfl) ?_)))
local macro_rules | `(tactic| walk_at "nof") => `(tactic| repeat (first | exact DL.NoF.nil | refine DL.NoF.cons (by decide) ?_))
namespace DL
variable [Wd]
open PySem L2 PySem.Spec PyProof.Rows
section
variable {X : Cx} {g : G} {W : WX} {pos : Pos} {a b c e tg : Expr} {es : List Expr} {de : DE}
/-! ### what a walk meets: a list, a tuple, the keys of a dict -/
/-- the keys of a locked dict whose keys are tuples -/
def ItH (d : Addr) (o : Obj) (xs : List (NestedKey × Addr × Value)) : It where
  go := fun i H => H d = some (.frz o (hoN d xs)) ∧ i < xs.length
  yld := fun i H x H' => H' = H ∧ ∃ y, xs[i]? = some y ∧ x = .ref y.2.1
  stop := fun i H => H d = some (.frz o (hoN d xs)) ∧ xs.length ≤ i
theorem frzN {X : Cx} {pins : List (Addr × Obj)} {σ : L2.St} {H : Hp} {s : Shared} {d : Addr} {o : Obj} {xs : List (NestedKey × Addr × Value)} (I : Inv X pins σ H s) (h : H d = some (.frz o (hoN d xs))) :
    (d == sysModules) = false ∧ s.heap.get? d = some o ∧ o.ExactDict ∧ ∃ (es : Array DictEntry) (ep : Nat), o.data = .dict es ep ∧ es.size = xs.length ∧ ∀ (i : Nat) (y : NestedKey × Addr × Value), xs[i]? = some y → ∃ en : DictEntry, es[i]? = some en ∧ en.key = .ref y.2.1 := by
  obtain ⟨h0, ⟨z, y, nd, o', es, ep, h1, h2, h3, h4⟩, _⟩ := (show ObjOk X.prog X.w H s.heap d (.frz o (hoN d xs)) from I.hok d _ h)
  rw [h0] at h1
  cases h1
  have hsz : es.size = xs.length := by rw [← Array.length_toList, h4, List.length_map]
  refine ⟨y, h0, h2, es, ep, h3, hsz, fun i y hy => ?_⟩
  have q : es.toList[i]? = some ⟨y.1.hash Wd.w, .ref y.2.1, y.2.2⟩ := by rw [h4, List.getElem?_map, hy]; rfl
  rw [Array.getElem?_toList] at q
  exact ⟨_, q, rfl⟩
theorem turn_nk {P : Program} {w : World} {K : PySem.W.Frag} {tg : Expr} {d : Addr} {o : Obj} {es : Array DictEntry} {ep : Nat} {xs : List (NestedKey × Addr × Value)} (it : Addr) (hod : o.data = .dict es ep) : Turn P w K tg (ItH d o xs) [it] it (fun i h => h.IsKeyIter it d i xs.length ep) := by
  refine ⟨List.mem_singleton.mpr rfl, fun i h st b hb => ?_, fun i h h' st kp => st.at fun ob q => kp it (List.mem_singleton.mpr rfl) ob q, ?_, ?_, fun A i s Q E st q => wpAny_pyIter_keyiter st q⟩
  · obtain rfl : b = it := by simpa using hb
    obtain ⟨ob, q, c, dd⟩ := st
    exact ⟨ob, q, fun v z => by rw [dd] at z; cases z⟩
  · rintro X hP hw hK hc i pins s σ H E I hf st ⟨hd, hi⟩
    subst hP hw hK
    obtain ⟨f0, f1, f2, f3, f4, f5⟩ := hf it (List.mem_singleton.mpr rfl)
    obtain ⟨hy, hg, hx, es', ep', hdt, hsz, hk⟩ := frzN I hd
    obtain ⟨rfl, rfl⟩ := dict_ep hod hdt
    obtain ⟨en, q1, q2⟩ := hk i xs[i] (List.getElem?_eq_getElem hi)
    refine next_key_item st hg hdt hsz q1 fun h' st' sb => ?_
    obtain ⟨oi, e, c, dd⟩ := id st'
    rw [q2]
    exact ⟨.ref xs[i].2.1, rfl, go_of (s := { s with heap := h' }) e c dd (by decide) ⟨.ref xs[i].2.1, H, I.turned (t' := s.toks) (fun b ob hb e => (sb.2 b hb).trans e) f0 f1 f3 f4 f5, rfl, ⟨rfl, _, List.getElem?_eq_getElem hi, rfl⟩, st', fun b hb => (hf b hb).1⟩⟩
  · rintro X hP hw hK hc i pins s σ H E I hf st ⟨hd, hi⟩
    subst hP hw hK
    obtain ⟨f0, f1, f2, f3, f4, f5⟩ := hf it (List.mem_singleton.mpr rfl)
    obtain ⟨hy, hg, hx, es', ep', hdt, hsz, hk⟩ := frzN I hd
    obtain ⟨rfl, rfl⟩ := dict_ep hod hdt
    exact next_key_end (I.ok.hd hc) st hg hdt hsz hi fun h' eb => ⟨rfl, I.turned (t' := s.toks) (fun b ob hb e => eb b ob hb e) f0 f1 f3 f4 f5⟩
def iAnyV (K : PySem.W.Frag) (td : TE) : TI := fun σ H R => td σ H fun x H1 => ∃ a, x = .ref a ∧ (((∃ xs, SqL K H1 a xs) ∧ R (Itl K a) H1) ∨ ((∃ xs, SqT K H1 a xs) ∧ R (Itt K a) H1) ∨ (∃ o kvs, H1 a = some (.frz o (.dK kvs)) ∧ R (Itk a o kvs) H1) ∨ ∃ o xs, H1 a = some (.frz o (hoN a xs)) ∧ R (ItH a o xs) H1)
theorem pi_anyV {td : TE} (h : PE X e td) : PI X tg e (iAnyV X.K td) := by
  refine ⟨fun pins s σ H R I q => ?_⟩
  refine thn (h.run pins s σ H _ I q) fun u s1 ⟨x, H1, I1, rx, p, ex, q1⟩ => ?_
  subst ex
  obtain rfl : u = Value.ref p := rx
  rcases q1 with ⟨⟨xs, hx⟩, q2⟩ | ⟨⟨xs, hx⟩, q2⟩ | ⟨o, kvs, hd, q2⟩ | ⟨o, xs, hd, q2⟩
  · obtain ⟨its, _, pl, _⟩ := I1.list hx
    exact wpAny_pyIter_list pl.isList (pi_one (tk := s1.toks) I1 _ (turn_list p _) ⟨_, Heap.get?_push_size _ rfl, rfl, rfl⟩ q2)
  · obtain ⟨its, _, pl, _⟩ := I1.tuple hx
    exact wpAny_pyIter_tuple (show s1.heap.IsTuple p its.toArray from pl) (pi_one (tk := s1.toks) I1 _ (turn_tuple p _) ⟨_, Heap.get?_push_size _ rfl, rfl, rfl⟩ q2)
  · obtain ⟨z1, z2, z3, ents, ep, vs, z4, z5, _, _⟩ := I1.frzK hd
    refine iter_keys z1 z2 z3 z4 (pi_one (J := Itk p o kvs) (tk := s1.toks) I1 _ (turn_keys _ z4) ⟨_, Heap.get?_push_size _ rfl, rfl, ?_⟩ q2)
    rw [z5]
    rfl
  · obtain ⟨hy, hg, hx, es', ep, hdt, hsz, _⟩ := frzN I1 hd
    refine iter_keys hy hg hx hdt (pi_one (J := ItH p o xs) (tk := s1.toks) I1 _ (turn_nk _ hdt) ⟨_, Heap.get?_push_size _ rfl, rfl, ?_⟩ q2)
    rw [hsz]
    rfl
def tLk3 (td : TE) : TE := fun σ H Q => td σ H fun x H1 => Q x H1 ∨ ∃ d u, x = .ref d ∧ H1 d = some u ∧ Mut (some u) ∧ ∀ z, Q x (upd H1 d (.frz z u))
theorem pe_lk3 {td : TE} (h : PE X e td) : PE X e (tLk3 td) := by
  refine ⟨fun pins s σ H Q I q => thn (h.run pins s σ H _ I q) fun v s1 ⟨x, H1, I1, rx, q1⟩ => ?_⟩
  rcases q1 with q1 | ⟨d, u, ex, hd, mu, q1⟩
  · exact ⟨_, H1, I1, rx, q1⟩
  · subst ex
    obtain ⟨z, I2⟩ := I1.lock hd mu
    exact ⟨_, _, I2, rx, q1 z⟩
inductive IsI (M : Mem) : D → List D → (Mem → Prop) → Prop
  | lst {d : D} {ds : List D} {st : Mem → Prop} : IsL M d ds st → IsI M d ds st
  | tup (ds : List D) : IsI M (.tup ds) ds fun _ => True
  | dic (xs : List (Key × D)) : IsI M (.dic xs) (xs.map fun kv => keyD kv.1) fun _ => True
  | dit (xs : List (D × D)) : IsI M (.dit xs) (xs.map (·.1)) fun _ => True
theorem lock_any {F : Hp} {M : Mem} {H : Hp} {a : Addr} {u : HO} {R : V → Hp → Prop} (S : Sta g F M H) (e : F a = some u) (hd : isDct u = true) (mu : Mut (some u)) (q : Rd H a u)
    (h : ∀ z U' H', H' a = some (.frz z u) → (∃ V, V a = some (.frz z u) ∧ Same V U' ∧ ∀ b o, V b = some o → ∃ z u, o = HO.frz z u) → Same g.U U' → Sta ⟨g.K, U'⟩ F M H' → R (.ref a) H') :
    (∃ z, H a = some (.frz z u) ∧ R (.ref a) H) ∨ (H a = some u ∧ Mut (some u) ∧ ∀ z, R (.ref a) (upd H a (.frz z u))) := by
  obtain ⟨K, U⟩ := g
  have lone : ∀ (z : Obj) (U' : Hp), U' a = some (.frz z u) → ∃ V : Hp, V a = some (.frz z u) ∧ Same V U' ∧ ∀ b o, V b = some o → ∃ z u, o = HO.frz z u := fun z U' hU => by
    refine ⟨upd noH a (.frz z u), upd_same, fun b w hb => ?_, fun b w hb => ?_⟩
    · by_cases q : b = a
      · subst q
        rw [upd_same] at hb
        cases hb
        exact hU
      · rw [upd_ne q] at hb; cases hb
    · by_cases q : b = a
      · subst q
        rw [upd_same] at hb
        cases hb
        exact ⟨_, _, rfl⟩
      · rw [upd_ne q] at hb; cases hb
  rcases q with q | ⟨z, q⟩
  · refine .inr ⟨q, mu, fun z => ?_⟩
    obtain ⟨S', hU⟩ := S.lock (z := z) e hd q
    exact h z _ _ upd_same (lone z _ upd_same) (fun b w hb => by rw [upd_ne (ne_of_none hb hU)]; exact hb) S'
  · obtain ⟨S', su⟩ := sta_hold S e hd q
    exact .inl ⟨z, q, h z _ _ q (lone z _ upd_same) su S'⟩
def iAny (de : DE) : DI := fun ρ M Q E => de ρ M (fun d M' => ∃ ds st, IsI M' d ds st ∧ Q ds st M') E
theorem di_any (hK : g.K = X.K) (h : PE X e (liftE g W de)) : PI X tg e (liftI g W (iAny de)) :=
  (pi_anyV (pe_lk3 h)).imp fun σ H R ⟨ρ, M, F, Q, E, S, En, q, kQ, kE⟩ => ⟨ρ, M, F, _, E, S, En, q, fun d M' F' v H' ⟨ds, st, hi, z⟩ s S' r => by
    cases hi with
    | lst hl =>
      obtain ⟨p, xs, ev, hq, r1, r2⟩ := hl.sq S' r
      exact .inl ⟨p, ev, .inl ⟨⟨xs, by rw [← hK]; exact hq⟩, kQ ds st M' g.U noH F' _ H' z (Same.r _) same_no s S' (yields_list hK r2)⟩⟩
    | tup =>
      cases r with
      | tup hs r =>
        refine .inl ⟨_, rfl, .inr (.inl ⟨⟨_, by rw [← hK]; exact S'.sub.sqT hs⟩, kQ _ _ M' g.U noH F' _ H' z (Same.r _) same_no s S' ⟨fun _ _ e => (nomatch e), fun i d U F2 M2 H2 _ s2 S2 _ e => ?_, fun i U F2 M2 H2 _ s2 S2 _ e => ?_⟩⟩)⟩
        · obtain ⟨v, hv, rv⟩ := r.get e
          refine ⟨⟨_, v, by rw [← hK]; exact S2.sub.sqT (sqT_mono s2 hs), hv⟩, fun x H3 ⟨eH, y⟩ => ?_⟩
          subst eH
          have y' := y _ (by rw [← hK]; exact S2.sub.sqT (sqT_mono s2 hs))
          rw [hv] at y'
          cases y'
          exact ⟨F2, Same.r F2, S2, rv.mono s2⟩
        · exact ⟨_, by rw [← hK]; exact S2.sub.sqT (sqT_mono s2 hs), by rw [r.length]; exact e⟩
    | dic xs =>
      have main := lock_dic (R := fun x H1 => ∃ a, x = V.ref a ∧ ∃ o kvs, H1 a = some (.frz o (.dK kvs)) ∧ R (Itk a o kvs) H1) S' r fun d zo kvs U' H2 ev hF hH ⟨V, hU, sV, plV⟩ su S2 l rr => ⟨d, ev, zo, kvs, hH, kQ _ _ M' U' V F' _ H2 z su sV s S2 ⟨plV, fun i y U F2 M2 H3 su2 s2 S3 _ ey => ?_, fun i U F2 M2 H3 su2 s2 S3 _ ey => ?_⟩⟩
      · obtain ⟨d, u, ev, q⟩ := main
        rcases q with ⟨zo, hd, p, e1, o, kvs, e2, e3⟩ | ⟨hd, mu, q⟩
        · exact .inl ⟨p, e1, .inr (.inr (.inl ⟨o, kvs, e2, e3⟩))⟩
        · refine .inr ⟨d, u, ev, hd, mu, fun zo => ?_⟩
          obtain ⟨p, e1, o, kvs, e2, e3⟩ := q zo
          exact ⟨p, e1, .inr (.inr (.inl ⟨o, kvs, e2, e3⟩))⟩
      · have hlt : i < kvs.length := by
          rw [kvs_len l]
          have := (List.getElem?_eq_some_iff.mp ey).1
          rwa [List.length_map] at this
        refine ⟨⟨held hU su2 S3, hlt⟩, fun w H4 ⟨e4, k, u, e1, e2⟩ => ?_⟩
        obtain ⟨dv, e5, r5⟩ := kv_get l rr e1
        rw [List.getElem?_map, e5] at ey
        cases ey
        subst e2 e4
        exact ⟨_, Same.r _, S3, rep_key k⟩
      · refine ⟨held hU su2 S3, ?_⟩
        rw [List.length_map] at ey
        rw [kvs_len l]
        exact ey
    | dit es =>
      obtain ⟨K, U⟩ := g
      cases r with
      | @dit a xs vs _ ha l ra rv rb =>
        have en : EntI K F' xs es := Ents.to ⟨vs, l, ra, rv, rb⟩
        have ln := en.length
        have main := lock_any (g := ⟨K, U⟩) (R := fun x H1 => ∃ p, x = V.ref p ∧ ∃ o xs, H1 p = some (.frz o (hoN p xs)) ∧ R (ItH p o xs) H1) S' ha rfl trivial (S'.sub.nk ha) (fun zo U' H2 hH ⟨V, hU, sV, plV⟩ su S2 => ⟨a, rfl, zo, xs, hH, kQ _ _ M' U' V F' _ H2 z su sV s S2 ⟨plV, fun i y U F2 M2 H3 su2 s2 S3 _ ey => ?_, fun i U F2 M2 H3 su2 s2 S3 _ ey => ?_⟩⟩)
        · rcases main with ⟨zo, hd, p, e1, o, ys, e2, e3⟩ | ⟨hd, mu, q⟩
          · exact .inl ⟨p, e1, .inr (.inr (.inr ⟨o, ys, e2, e3⟩))⟩
          refine .inr ⟨a, _, rfl, hd, mu, fun zo => ?_⟩
          obtain ⟨p, e1, o, ys, e2, e3⟩ := q zo
          exact ⟨p, e1, .inr (.inr (.inr ⟨o, ys, e2, e3⟩))⟩
        · have hlt : i < xs.length := by
            have := (List.getElem?_eq_some_iff.mp ey).1
            rw [List.length_map] at this
            omega
          refine ⟨⟨held hU su2 S3, hlt⟩, fun w H4 ⟨e4, y', e1, e2⟩ => ?_⟩
          have h1 : (xs.map fun x => L2.V.ref x.2.1)[i]? = some (L2.V.ref y'.2.1) := by rw [List.getElem?_map, e1]; rfl
          obtain ⟨d', e5, r5⟩ := en.keys.get' h1
          rw [ey] at e5
          cases e5
          subst e2 e4
          exact ⟨_, Same.r _, S3, r5.mono s2⟩
        · refine ⟨held hU su2 S3, ?_⟩
          rw [List.length_map] at ey
          omega, kE⟩
end
end DL
namespace DL
variable [Wd]
open PySem L2 PySem.Spec PyProof.Rows
/-! ### names for the generated texts -/
abbrev rAdd : DR2 := fun d e M Q => AddR M Q d e
abbrev rMul : DR2 := fun d e M Q => MulR M Q d e
abbrev rDiv : DR2 := fun d e M Q => DivR M Q d e
abbrev rMod : DR2 := fun d e M Q => ModR M Q d e
abbrev rPow : DR2 := fun d e M Q => PowR M Q d e
abbrev rLt : DR2 := fun d e M Q => IntB (fun i j => decide (i < j)) M Q d e
abbrev rGt : DR2 := fun d e M Q => IntB (fun i j => decide (j < i)) M Q d e
abbrev rGe : DR2 := fun d e M Q => IntB (fun i j => decide (j ≤ i)) M Q d e
abbrev rEq : DR2 := fun d e M Q => EqR false M Q d e
abbrev rNe : DR2 := fun d e M Q => EqR true M Q d e
abbrev rIs : DR2 := fun d e M Q => IsR false M Q d e
abbrev rIn : DR2 := fun d e M Q => InR false M Q d e
abbrev rIx : DR2 := fun d e M Q => IxQ M Q d e
abbrev rLen : DC := fun ds M Q => LenC M Q ds
abbrev rList : DC := fun ds M Q => ListC M Q ds
abbrev rTuple : DC := fun ds M Q => TupC M Q ds
abbrev rInt : DC := fun ds M Q => IntC M Q ds
abbrev rSum : DC := fun ds M Q => SumC M Q ds
abbrev rAny : DC := fun ds M Q => AnyC false M Q ds
abbrev rApp : DM := fun d ds M Q => AppM M Q d ds
theorem dboot_sum : bootBuiltins "sum" = some (.builtin "sum") := by decide +kernel
theorem dboot_any : bootBuiltins "any" = some (.builtin "any") := by decide +kernel
theorem dboot_isinstance : bootBuiltins "isinstance" = some (.builtin "isinstance") := by decide +kernel
theorem dboot_int : bootBuiltins "int" = some (.type "int") := by decide +kernel
theorem dboot_bool : bootBuiltins "bool" = some (.type "bool") := by decide +kernel
theorem dboot_list : bootBuiltins "list" = some (.type "list") := by decide +kernel
theorem dboot_tuple : bootBuiltins "tuple" = some (.type "tuple") := by decide +kernel
theorem hu64 {k : Nat} {A : Around} (hr : Room k A) : A.units + 64 < cLine := by have := hr.un; omega
theorem hu65 {k : Nat} {A : Around} (hr : Room k A) : A.units + 65 < cLine := by have := hr.un; omega
section
variable {X : Cx} {g : G} {W : WX} {sts : List Stmt}
/-- what is never reached -/
def sNever : DS := fun _ _ _ _ _ _ _ => False
theorem dss_never : PSs X sts (liftS g W sNever) := pss_never.imp fun D σ H ⟨ρ, M, F, nx, rt, bk, ct, ex, S, En, q, _⟩ => q
end
end DL
namespace DL
variable [Wd]
open PySem L2 PySem.Spec PyProof.Rows
/-! ### the memory as a map -/
def Nd (M : Mem) : Prop := (M.map (·.1)).Nodup
def Free (p : Addr) (M : Mem) : Prop := ∀ m, (p, m) ∉ M
/-- what is not of ps stays -/
def Fr (ps : List Addr) (M M' : Mem) : Prop := ∀ a m, a ∉ ps → (a, m) ∈ M → (a, m) ∈ M'
theorem Fr.refl {ps : List Addr} {M : Mem} : Fr ps M M := fun _ _ _ h => h
theorem Fr.trans {ps : List Addr} {M M' M'' : Mem} (h : Fr ps M M') (h' : Fr ps M' M'') : Fr ps M M'' := fun a m ha hm => h' a m ha (h a m ha hm)
theorem Fr.mono {ps qs : List Addr} {M M' : Mem} (h : Fr ps M M') (s : ∀ a ∈ ps, a ∈ qs) : Fr qs M M' := fun a m ha hm => h a m (fun z => ha (s a z)) hm
theorem Fr.cons {ps : List Addr} {M M' : Mem} {p : Addr × MO} (h : Fr ps M M') : Fr ps M (p :: M') := fun a m ha hm => List.mem_cons_of_mem _ (h a m ha hm)
theorem Free.ne {p a : Addr} {M : Mem} {m : MO} (h : Free p M) (hm : (a, m) ∈ M) : a ≠ p := fun e => h m (e ▸ hm)
theorem nd_new {p : Addr} {m : MO} {M : Mem} (h : Free p M) (nd : Nd M) : Nd ((p, m) :: M) :=
  List.nodup_cons.mpr ⟨fun z => by
    obtain ⟨⟨b, x⟩, hq, e⟩ := List.mem_map.mp z
    cases e
    exact h x hq, nd⟩
theorem Nd.one {M : Mem} (nd : Nd M) {a : Addr} {m n : MO} (h1 : (a, m) ∈ M) (h2 : (a, n) ∈ M) : m = n := key_unique nd h1 h2
structure UpdOk (a : Addr) (m n : MO) (M M' : Mem) : Prop where
  up : Upd a m n M M'
  nd : Nd M'
  at_ : (a, n) ∈ M'
  fr : Fr [a] M M'
theorem upd_ex {a : Addr} {m : MO} (n : MO) {M : Mem} (nd : Nd M) (h : (a, m) ∈ M) : ∃ M', UpdOk a m n M M' := by
  have key : ∀ {M : Mem}, (a, m) ∈ M → ∃ M', Upd a m n M M' ∧ (a, n) ∈ M' ∧ Fr [a] M M' := by
    intro M
    induction M with
    | nil => intro h; cases h
    | cons p r ih =>
      intro h
      rcases List.mem_cons.mp h with z | z
      · subst z
        refine ⟨_, .head, List.mem_cons_self, fun b x hb hm => ?_⟩
        rcases List.mem_cons.mp hm with z | z
        · cases z; exact absurd List.mem_cons_self hb
        · exact List.mem_cons_of_mem _ z
      · obtain ⟨M', u, h1, h2⟩ := ih z
        refine ⟨_, .tail u, List.mem_cons_of_mem _ h1, fun b x hb hm => ?_⟩
        rcases List.mem_cons.mp hm with z | z
        · rw [z]; exact List.mem_cons_self
        · exact List.mem_cons_of_mem _ (h2 b x hb z)
  obtain ⟨M', u, h1, h2⟩ := key h
  exact ⟨M', u, by unfold Nd; rw [u.keys]; exact nd, h1, h2⟩
structure DelOk (a : Addr) (m : MO) (M M' : Mem) : Prop where
  up : Del a m M M'
  nd : Nd M'
  fr : Fr [a] M M'
theorem del_ex {a : Addr} {m : MO} {M : Mem} (nd : Nd M) (h : (a, m) ∈ M) : ∃ M', DelOk a m M M' := by
  have key : ∀ {M : Mem}, (a, m) ∈ M → ∃ M', Del a m M M' := by
    intro M
    induction M with
    | nil => intro h; cases h
    | cons p r ih =>
      intro h
      rcases List.mem_cons.mp h with z | z
      · subst z
        exact ⟨_, .head⟩
      · obtain ⟨M', u⟩ := ih z
        exact ⟨_, .tail u⟩
  obtain ⟨M', u⟩ := key h
  exact ⟨M', u, nd.sublist u.sub, fun b x hb hm => u.keys hm (fun e => hb (e ▸ List.mem_cons_self))⟩
theorem not_mem2 {a p c : Addr} (h1 : a ≠ p) (h2 : a ≠ c) : a ∉ [p, c] := by
  intro h
  rcases List.mem_cons.mp h with e | e
  · exact h1 e
  · rcases List.mem_cons.mp e with e | e
    · exact h2 e
    · cases e
theorem not_mem1 {a p : Addr} (h1 : a ≠ p) : a ∉ [p] := by
  intro h
  rcases List.mem_cons.mp h with e | e
  · exact h1 e
  · cases e
theorem Fr.l2 {p c : Addr} {M M' : Mem} (h : Fr [p] M M') : Fr [p, c] M M' := h.mono fun a ha => by
  rcases List.mem_cons.mp ha with e | e
  · rw [e]; exact List.mem_cons_self
  · cases e
theorem Fr.r2 {p c : Addr} {M M' : Mem} (h : Fr [c] M M') : Fr [p, c] M M' := h.mono fun a ha => List.mem_cons_of_mem _ ha
theorem len_le_line {n : Nat} (h : n ≤ 1000000 := by decide) : n ≤ sizeLine := by rw [sizeLine_eq]; omega
theorem atI_nat' {α : Type} {xs : List α} {j : Nat} {x : α} {i : Int} (e : i = (j : Int)) (h : xs[j]? = some x) : atI xs i = some x := by
  have hlt : j < xs.length := (List.getElem?_eq_some_iff.mp h).1
  subst e
  unfold atI ixN
  rw [if_pos (by omega), if_pos (by omega)]
  simpa using h
/-! ### the source that a law draws from -/
def srcD (c : Addr) (flags : List Bool) (i : Nat) (n s : Int) : List D := [.ptr c, .lst (flags.map .bl), .int i, .int n, .int s]
structure Src (p c : Addr) (b : Nat) (M : Mem) : Prop where
  ex : ∃ (cells : List Int) (flags : List Bool) (i : Nat) (n s : Int), (p, MO.lst (srcD c flags i n s)) ∈ M ∧ (c, MO.lst (cells.map .int)) ∈ M ∧ flags.length = cells.length ∧ cells.length ≤ 63 ∧ 0 ≤ n ∧ n ≤ b ∧ 0 ≤ s ∧ s < 1000003
  ne : p ≠ c
theorem Src.fr {p c : Addr} {b : Nat} {M M' : Mem} {ps : List Addr} (h : Src p c b M) (f : Fr ps M M') (h1 : p ∉ ps) (h2 : c ∉ ps) : Src p c b M' := by
  obtain ⟨cells, flags, i, n, s, a1, a2, r⟩ := h.ex
  exact ⟨⟨cells, flags, i, n, s, f _ _ h1 a1, f _ _ h2 a2, r⟩, h.ne⟩
theorem Src.more {p c : Addr} {b b' : Nat} {M : Mem} (h : Src p c b M) (hb : b ≤ b') : Src p c b' M := by
  obtain ⟨cells, flags, i, n, s, a1, a2, a3, a4, a5, a6, r⟩ := h.ex
  exact ⟨⟨cells, flags, i, n, s, a1, a2, a3, a4, a5, by omega, r⟩, h.ne⟩
def spDraw : SpD := fun ds M Q _ => ∃ p c many b, ds = [.ptr p, .int many] ∧ 0 < many ∧ many < 2 ^ 62 ∧ Nd M ∧ b < 100000000 ∧ Src p c b M ∧ ∀ r M', 0 ≤ r → r < many → Nd M' → Src p c (b + 1) M' → Fr [p, c] M M' → Q (.int r) M'
end DL
namespace DL
variable [Wd]
open PySem L2 PySem.Spec PyProof.Rows
/-! ### the helpers that every law has -/
def dDraw : DS := sSeq (sAsg (dOp rIx (dVar 0) (dC (.int 0))) (gNm 2)) (sSeq (sAsg (dOp rIx (dVar 0) (dC (.int 2))) (gNm 3)) (sSeq (sIf (dB (dOp rLt (dVar 3) (dCB rLen (dCons (dVar 2) (dNil))))) (sSeq (sAsg (dOp rIx (dVar 2) (dVar 3)) (gNm 4)) (sSeq (sAsg (dOp rDiv (dVar 4) (dVar 1)) (gSub (dVar 2) (dVar 3))) (sSeq (sIf (dOr (dNot (dB (dOp rIx (dOp rIx (dVar 0) (dC (.int 1))) (dVar 3)))) (dB (dOp rEq (dOp rIx (dVar 2) (dVar 3)) (dC (.int 0))))) (sAsg (dOp rAdd (dVar 3) (dC (.int 1))) (gSub (dVar 0) (dC (.int 2)))) (sNext)) (sRet (dOp rMod (dCB rInt (dCons (dVar 4) (dNil))) (dVar 1)))))) (sNext)) (sSeq (sIf (dB (dOp rEq (dOp rIx (dVar 0) (dC (.int 4))) (dC (.int 0)))) (sRet (dC (.int 0))) (sNext)) (sSeq (sAsg (dOp rAdd (dOp rIx (dVar 0) (dC (.int 3))) (dC (.int 1))) (gSub (dVar 0) (dC (.int 3)))) (sSeq (sAsg (dOp rMod (dCB rInt (dCons (dOp rMul (dOp rAdd (dOp rIx (dVar 0) (dC (.int 4))) (dOp rMul (dOp rIx (dVar 0) (dC (.int 3))) (dC (.int 7919)))) (dC (.int 48271))) (dNil))) (dC (.int 2147483647))) (gNm 5)) (sRet (dOp rMod (dOp rDiv (dOp rMod (dCB rInt (dCons (dOp rMul (dVar 5) (dVar 5)) (dNil))) (dC (.int 998244353))) (dC (.int 7))) (dVar 1))))))))
theorem ixq_ptr {M : Mem} {p : Addr} {ds : List D} {i : Int} {e : D} {Q : D → Mem → Prop} (h : (p, MO.lst ds) ∈ M) (ha : atI ds i = some e) (q : Q e M) : IxQ M Q (.ptr p) (.int i) := .seq (.ptr h) ha q
theorem ixq_lst {M : Mem} {ds : List D} {i : Int} {e : D} {Q : D → Mem → Prop} (ha : atI ds i = some e) (q : Q e M) : IxQ M Q (.lst ds) (.int i) := .seq (.lst ds) ha q
theorem wide_of {i : Int} {b : Nat} (h0 : 0 ≤ i) (h : i < 2 ^ b) : i.natAbs < 2 ^ b := by
  have e : ((i.natAbs : Nat) : Int) = i := Int.natAbs_of_nonneg h0
  have h2 : ((i.natAbs : Nat) : Int) < ((2 ^ b : Nat) : Int) := by rw [e]; simpa using h
  exact Int.ofNat_lt.mp h2
theorem pureDraw {ds : List D} {M : Mem} {Qd : D → Mem → Prop} {Ed : XD} (h : spDraw ds M Qd Ed) : dDraw (fun _ M' => Qd .non M') Qd (fun _ _ => False) (fun _ _ => False) (fun C dd _ M' => Ed C dd M') (start0 ["a", "b", "c", "d", "e", "f"] ds) M := by
  obtain ⟨p, c, many, b, rfl, h0, h1, nd, hb, S, kQ⟩ := h
  obtain ⟨⟨cells, flags, i, n, s, hp, hc, hl, h63, hn0, hnb, hs0, hs1⟩, ne⟩ := S
  unfold dDraw
  walk_at "dl"
  refine ixq_ptr hp (e := .ptr c) (by rfl) ?_
  walk_at "dl"
  refine ixq_ptr hp (e := .int i) (by rfl) ?_
  walk_at "dl"
  refine .seq (.ptr hc) ?_
  walk_at "dl"
  refine g_iff (fun hlt => ?_) fun hge => ?_
  · have hi : i < cells.length := by rw [List.length_map] at hlt; omega
    obtain ⟨z, hz⟩ : ∃ z, cells[i]? = some z := ⟨cells[i], by simp [hi]⟩
    have hz' : (cells.map D.int)[i]? = some (D.int z) := by rw [List.getElem?_map, hz]; rfl
    obtain ⟨fl, hf⟩ : ∃ fl, flags[i]? = some fl := ⟨flags[i]'(by omega), by simp [hl, hi]⟩
    have hf' : (flags.map D.bl)[i]? = some (D.bl fl) := by rw [List.getElem?_map, hf]; rfl
    walk_at "dl"
    refine ixq_ptr hc (atI_nat' rfl hz') ?_
    walk_at "dl"
    refine DivR.int (wide_div h0 (wide_of (b := 62) (by omega) h1) (by decide) (by decide)) ?_
    obtain ⟨M1, U1⟩ := upd_ex (n := .lst ((cells.map D.int).set i (.int (z / many)))) nd hc
    have hp1 := U1.fr _ _ (not_mem1 ne) hp
    refine ⟨_, rfl, _, rfl, .lst U1.up (j := i) ?_ ?_⟩
    · unfold ixN
      rw [if_pos (by omega), if_pos (by rw [List.length_map]; omega)]
      rfl
    have hset : (cells.map D.int).set i (.int (z / many)) = (cells.set i (z / many)).map .int := List.map_set.symm
    have h1c : (c, MO.lst ((cells.set i (z / many)).map .int)) ∈ M1 := by rw [← hset]; exact U1.at_
    have hl1 : flags.length = (cells.set i (z / many)).length := by rw [List.length_set]; exact hl
    have hz1 : ((cells.set i (z / many)).map D.int)[i]? = some (D.int (z / many)) := by rw [List.getElem?_map, List.getElem?_set_self hi]; rfl
    -- behind the test, whichever way
    have fin : ∀ (i' : Nat) M2, Nd M2 → (p, MO.lst (srcD c flags i' n s)) ∈ M2 → (c, MO.lst ((cells.set i (z / many)).map .int)) ∈ M2 → Fr [p, c] M M2 → Qd (.int (z % many)) M2 := fun i' M2 nd2 a1 a2 f =>
      kQ _ _ (Int.emod_nonneg _ (by omega)) (Int.emod_lt_of_pos _ h0) nd2 ⟨⟨_, flags, i', n, s, a1, a2, hl1, by rw [List.length_set]; exact h63, hn0, by omega, hs0, hs1⟩, ne⟩ f
    have step : ∀ M2, Nd M2 → (p, MO.lst (srcD c flags i n s)) ∈ M2 → (c, MO.lst ((cells.set i (z / many)).map .int)) ∈ M2 → Fr [p, c] M M2 → ∀ (nx : NX) (k : Bool), if k = true then sAsg (dOp rAdd (dVar 3) (dC (.int 1))) (gSub (dVar 0) (dC (.int 2))) (sRet (dOp rMod (dCB rInt (dCons (dVar 4) dNil)) (dVar 1)) nx Qd (fun _ _ => False) (fun _ _ => False) (fun C dd _ M' => Ed C dd M')) Qd (fun _ _ => False) (fun _ _ => False) (fun C dd _ M' => Ed C dd M')
          [some (.ptr p), some (.int many), some (.ptr c), some (.int i), some (.int z), none] M2
        else sNext (sRet (dOp rMod (dCB rInt (dCons (dVar 4) dNil)) (dVar 1)) nx Qd (fun _ _ => False) (fun _ _ => False) (fun C dd _ M' => Ed C dd M')) Qd (fun _ _ => False) (fun _ _ => False) (fun C dd _ M' => Ed C dd M') [some (.ptr p), some (.int many), some (.ptr c), some (.int i), some (.int z), none] M2 := by
      intro M2 nd2 a1 a2 f nx k
      cases k with
      | false =>
        refine g_iff' rfl ?_
        walk_at "dl"
        exact ModR.int h0 (fin i M2 nd2 a1 a2 f)
      | true =>
        refine g_ift rfl ?_
        walk_at "dl"
        obtain ⟨M3, U3⟩ := upd_ex (n := .lst (srcD c flags (i + 1) n s)) nd2 a1
        refine SetQ.lst (j := 2) U3.up (by rfl) ?_
        walk_at "dl"
        exact ModR.int h0 (fin (i + 1) M3 U3.nd U3.at_ (U3.fr _ _ (not_mem1 (Ne.symm ne)) a2) (f.trans U3.fr.l2))
    have f1 : Fr [p, c] M M1 := U1.fr.r2
    walk_at "dl"
    refine ixq_ptr hp1 (e := .lst (flags.map .bl)) (by rfl) ?_
    walk_at "dl"
    refine ixq_lst (atI_nat' rfl hf') ?_
    walk_at "dl"
    cases fl with
    | false =>
      refine g_ift rfl ?_
      exact step M1 U1.nd hp1 h1c f1 _ true
    | true =>
      refine g_iff' rfl ?_
      walk_at "dl"
      refine ixq_ptr h1c (atI_nat' rfl hz1) ?_
      walk_at "dl"
      exact step M1 U1.nd hp1 h1c f1 _ _
  · walk_at "dl"
    refine ixq_ptr hp (e := .int s) (by rfl) ?_
    walk_at "dl"
    by_cases hs : s = 0
    · refine g_ift (by simp [hs]) ?_
      walk_at "dl"
      exact kQ _ _ (Int.le_refl _) h0 nd ⟨⟨cells, flags, i, n, s, hp, hc, hl, h63, hn0, by omega, hs0, hs1⟩, ne⟩ Fr.refl
    · refine g_iff' (by simp [hs]) ?_
      walk_at "dl"
      refine ixq_ptr hp (e := .int n) (by rfl) ?_
      walk_at "dl"
      obtain ⟨M3, U3⟩ := upd_ex (n := .lst (srcD c flags i (n + 1) s)) nd hp
      refine SetQ.lst (j := 3) U3.up (by rfl) ?_
      have hc3 := U3.fr _ _ (not_mem1 (Ne.symm ne)) hc
      have S3 : Src p c (b + 1) M3 := ⟨⟨cells, flags, i, n + 1, s, U3.at_, hc3, hl, h63, by omega, by omega, hs0, hs1⟩, ne⟩
      walk_at "dl"
      refine ixq_ptr U3.at_ (e := .int s) (by rfl) ?_
      walk_at "dl"
      refine ixq_ptr U3.at_ (e := .int (n + 1)) (by rfl) ?_
      walk_at "dl"
      refine MulR.int (wide_mul (a := 40) (b := 40) (wide_of (by omega) (by omega)) (by decide) (by decide) (by decide) (by decide)) ?_
      walk_at "dl"
      refine MulR.int (wide_mul (a := 60) (b := 40) (wide_of (by omega) (by omega)) (by decide) (by decide) (by decide) (by decide)) ?_
      walk_at "dl"
      refine ModR.int (by decide) ?_
      have m0 := Int.emod_nonneg ((s + (n + 1) * 7919) * 48271) (b := 2147483647) (by decide)
      have m1 := Int.emod_lt_of_pos ((s + (n + 1) * 7919) * 48271) (b := 2147483647) (by decide)
      generalize (s + (n + 1) * 7919) * 48271 % 2147483647 = mx at m0 m1 ⊢
      walk_at "dl"
      refine MulR.int (wide_mul (a := 40) (b := 40) (wide_of (by omega) (by omega)) (wide_of (by omega) (by omega)) (by decide) (by decide) (by decide)) ?_
      walk_at "dl"
      refine ModR.int (by decide) ?_
      walk_at "dl"
      refine DivR.int (wide_div (b := 10) (by decide) (by decide) (by decide) (by decide)) ?_
      walk_at "dl"
      refine ModR.int h0 ?_
      exact kQ _ _ (Int.emod_nonneg _ (by omega)) (Int.emod_lt_of_pos _ h0) U3.nd S3 U3.fr.l2
end DL
namespace DL
variable [Wd]
open PySem L2 PySem.Spec PyProof.Rows
section
variable {M : Mem} {ρ : Rho} {st : Mem → Prop} {de dk dv : DE} {dt : DT} {j : Nat}
/-! ### comprehensions that change nothing -/
theorem g_t {a b : Prop} (h : a) : if true = true then a else b := by rw [if_pos rfl]; exact h
theorem fil_t {α : Type} (xs : List α) : xs.filter (fun _ => true) = xs := List.filter_eq_self.mpr fun _ _ => rfl
theorem go_cons {ct : CT} {Q : List D → Mem → Prop} {d : D} {ds acc : List D} : goC ct dt de st ρ Q (d :: ds) acc M = (st M ∧ ct.go d ρ (fun ρ' => dt ρ' M (fun b M2 => if b = true then de ρ' M2 (fun e M3 => goC ct dt de st ρ Q ds (acc ++ [e]) M3) noE else goC ct dt de st ρ Q ds acc M2) noE)) := rfl
theorem lc_fil {α : Type} {ct : CT} (g f : α → D) (p : α → Bool) {Q : List D → Mem → Prop} (hst : st M) : ∀ {xs : List α} {acc : List D}, (∀ x ∈ xs, ∀ (P1 : D → Mem → Prop) (P0 : Mem → Prop), (p x = true → P1 (f x) M) → (p x = false → P0 M) → ct.go (g x) ρ (fun ρ' => dt ρ' M (fun b M2 => if b = true then de ρ' M2 P1 noE else P0 M2) noE)) →
    Q (acc ++ (xs.filter p).map f) M → goC ct dt de st ρ Q (xs.map g) acc M
  | [], acc, _, hQ => ⟨hst, by simpa using hQ⟩
  | x :: xs, acc, h, hQ => by
    rw [List.map_cons, go_cons]
    refine ⟨hst, h x List.mem_cons_self _ _ (fun hp => ?_) fun hp => ?_⟩
    · refine lc_fil g f p hst (fun y hy => h y (List.mem_cons_of_mem _ hy)) ?_
      rw [List.filter_cons, if_pos hp] at hQ
      simpa using hQ
    · refine lc_fil g f p hst (fun y hy => h y (List.mem_cons_of_mem _ hy)) ?_
      rw [List.filter_cons, if_neg (by rw [hp]; exact Bool.false_ne_true)] at hQ
      exact hQ
/-- [e for x in xs] -/
theorem lc_map {α : Type} (g f : α → D) {xs : List α} {Q : List D → Mem → Prop} (hst : st M) (h : ∀ x ∈ xs, ∀ P1 : D → Mem → Prop, P1 (f x) M → de (put ρ j (some (g x))) M P1 noE) (hQ : Q (xs.map f) M) : goC (.nm j) dYes de st ρ Q (xs.map g) [] M := by
  refine lc_fil g f (fun _ => true) hst (fun x hx P1 P0 h1 _ => ?_) (by rw [fil_t]; exact hQ)
  show (if true = true then de (put ρ j (some (g x))) M P1 noE else P0 M)
  rw [if_pos rfl]
  exact h x hx P1 (h1 rfl)
/-- [e for x in xs if t] -/
theorem lc_if {α : Type} (g f : α → D) (p : α → Bool) {xs : List α} {Q : List D → Mem → Prop} (hst : st M) (ht : ∀ x ∈ xs, ∀ P : Bool → Mem → Prop, P (p x) M → dt (put ρ j (some (g x))) M P noE) (h : ∀ x ∈ xs, p x = true → ∀ P1 : D → Mem → Prop, P1 (f x) M → de (put ρ j (some (g x))) M P1 noE)
    (hQ : Q ((xs.filter p).map f) M) : goC (.nm j) dt de st ρ Q (xs.map g) [] M := by
  refine lc_fil g f p hst (fun x hx P1 P0 h1 h0 => ?_) hQ
  refine ht x hx _ ?_
  cases e : p x with
  | true => rw [if_pos rfl]; exact h x hx e P1 (h1 e)
  | false => rw [if_neg Bool.false_ne_true]; exact h0 e
end
end DL
namespace DL
variable [Wd]
open PySem L2 PySem.Spec PyProof.Rows
section
variable {ρ : Rho} {M : Mem} {E : XD}
theorem g_lc {di : DI} {ct : CT} {dt : DT} {de : DE} {vs : List Nat} {Q : D → Mem → Prop} (q : di ρ M (fun ds st M1 => ds.length < sizeLine ∧ goC ct dt de st (wipeD ρ vs) (fun acc M2 => NewL acc M2 Q) ds [] M1) E) : dLc di ct dt de vs ρ M Q E := q
theorem g_lc2 {di di1 : DI} {ct ct1 : CT} {dt dt1 : DT} {de : DE} {vs vs1 : List Nat} {Q : D → Mem → Prop} (q : di ρ M (fun ds st M1 => goC2 ct dt di1 ct1 dt1 de vs1 st (wipeD ρ vs) (fun acc M2 => NewL acc M2 Q) ds [] M1) E) : dLc2 di ct dt di1 ct1 dt1 de vs vs1 ρ M Q E := q
theorem g_iany {de : DE} {Q : List D → (Mem → Prop) → Mem → Prop} (q : de ρ M (fun d M' => ∃ ds st, IsI M' d ds st ∧ Q ds st M') E) : iAny de ρ M Q E := q
theorem g_irg1 {dA : DA} {Q : List D → (Mem → Prop) → Mem → Prop} (q : dA ρ M (fun ds M' => ∃ j : Int, ds = [.int j] ∧ -(2 ^ 62) ≤ j ∧ j < 2 ^ 62 ∧ Q (rng 0 j.toNat) (fun _ => True) M') E) : iRg1 dA ρ M Q E := q
theorem g_sl {de : DE} {l h : DO} {Q : D → Mem → Prop} (q : de ρ M (fun d M1 => l ρ M1 (fun lo M2 => h ρ M2 (fun hi M3 => SlQ M3 Q lo hi d) E) E) E) : dSl de l h ρ M Q E := q
theorem g_onone {Q : Option Int → Mem → Prop} (q : Q none M) : oNone ρ M Q E := q
theorem g_osome {de : DE} {Q : Option Int → Mem → Prop} (q : de ρ M (fun d M' => ∃ i, d = .int i ∧ Q (some i) M') E) : oSome de ρ M Q E := q
theorem g_bm {T : String} {r : DM} {do_ : DE} {dA : DA} {Q : D → Mem → Prop} (q : do_ ρ M (fun d M1 => TyD T M1 d ∧ dA ρ M1 (fun ds M2 => r d ds M2 Q) E) E) : dBM T r do_ dA ρ M Q E := q
theorem g_andV {da db : DE} {Q : D → Mem → Prop} (q : da ρ M (fun d M1 => ∃ c, d = .bl c ∧ if c = true then db ρ M1 Q E else Q (.bl false) M1) E) : dAndV da db ρ M Q E := q
theorem g_make {C : Addr} {sd : SpD} {dA : DA} {Q : D → Mem → Prop} (q : dA ρ M (fun ds M1 => ∀ x, (∀ m, (x, m) ∉ M1) → sd (.ptr x :: ds) ((x, .obj C []) :: M1) (fun d M2 => d = .non ∧ Q (.ptr x) M2) E) E) : dMake C sd dA ρ M Q E := q
theorem g_listint {k : Int} {R : Int → Prop} (q : R k) : ∃ i, [D.int k] = [.int i] ∧ R i := ⟨k, rfl, q⟩
end
section
variable {ρ : Rho} {M : Mem} {nx : NX} {rt : D → Mem → Prop} {bk ct : NX} {ex : Addr → Addr → Rho → Mem → Prop}
theorem g_fldS {K : PySem.W.Frag} {do_ de : DE} {f : Str} (q : de ρ M (fun d M1 => do_ ρ M1 (fun x M2 => ∃ q C es es' M3, x = .ptr q ∧ FldOk K C f ∧ es.length < 1000 ∧ Put es f d es' ∧ Upd q (.obj C es) (.obj C es') M2 M3 ∧ nx ρ M3) (fun C dd M' => ex C dd ρ M')) (fun C dd M' => ex C dd ρ M')) : sFldD K do_ de f nx rt bk ct ex ρ M := q
end
end DL
local macro_rules | `(tactic| walk_at "dl") => `(tactic| repeat (first | (with_reducible first | refine DL.g_seq ?_ | refine DL.g_asg ?_ | refine DL.g_sif ?_ | refine DL.g_ret ?_ | refine DL.g_retN ?_ | refine DL.g_drop ?_ | refine DL.g_next ?_ | refine DL.g_cont ?_ | refine DL.g_brk ?_ | refine DL.g_sfor ?_ | refine DL.g_op ?_ | refine DL.g_c ?_ | refine DL.g_nil ?_ | refine DL.g_cons ?_ | refine DL.g_cb ?_ | refine DL.g_call ?_ | refine DL.g_tup ?_ | refine DL.g_lst ?_ | refine DL.g_B ?_ | refine DL.g_not ?_ | refine DL.g_and ?_ | refine DL.g_or ?_ | refine DL.g_if ?_ | refine DL.g_bl ?_ | refine DL.g_in ?_ | refine DL.g_nm ?_ | refine DL.g_fld ?_ | refine DL.IntB.int ?_ | refine DL.AddR.int ?_ | refine DL.SubR.int ?_ | refine DL.EqR.int ?_ | refine DL.EqR.str ?_ | refine DL.EqR.bl ?_ | refine DL.IntC.int ?_ | refine DL.IsR.non ?_ | refine DL.g_lc ?_ | refine DL.g_lc2 ?_ | refine DL.g_dc ?_ | refine DL.g_iany ?_ | refine DL.g_iitm ?_ | refine DL.g_irg1 ?_ | refine DL.g_sl ?_ | refine DL.g_onone ?_ | refine DL.g_osome ?_ | refine DL.g_con ?_ | refine DL.g_bm ?_ | refine DL.g_andV ?_ | refine DL.g_orV ?_ | refine DL.g_notV ?_ | refine DL.g_make ?_ | refine DL.g_meth ?_ | refine DL.g_listint ?_ | refine DL.g_fldS ?_ | refine DL.g_gsub ?_) | (refine DL.g_var (by first | assumption | rfl) ?_)))
namespace DL
variable [Wd]
open PySem L2 PySem.Spec PyProof.Rows
/-! ### the source -/
def dSource : DS := sSeq (sAsg (dLc (iAny (dSl (dVar 0) (oNone) (oSome (dC (.int 63))))) (.nm 2) (dYes) (dCB rInt (dCons (dVar 2) (dNil))) [2]) (gNm 1)) (sRet (dLst (dCons (dVar 1) (dCons (dLc (iAny (dVar 1)) (.nm 2) (dYes) (dOp rGe (dVar 2) (dOp rPow (dC (.int 10)) (dC (.int 18)))) [2]) (dCons (dC (.int 0)) (dCons (dC (.int 0)) (dCons (dOp rMod (dCB rInt (dCons (dCB rSum (dCons (dVar 1) (dNil))) (dNil))) (dC (.int 1000003))) (dNil))))))))
def spSource : SpD := fun ds M Q _ => ∃ ns : List Int, ds = [.rol (ns.map .int)] ∧ ns.length ≤ 63 ∧ Nd M ∧ ∀ p c M', Free p M → Free c M → Nd M' → Src p c 0 M' → Fr [] M M' → Q (.ptr p) M'
theorem cut_map {α : Type} (f : α → D) (xs : List α) (hi : Option Int) : ∃ k, cutD (xs.map f) none hi = (xs.take k).map f := by
  unfold cutD
  refine ⟨HT.sIx (xs.map f).length (xs.map f).length hi - HT.sIx (xs.map f).length 0 none, ?_⟩
  have e : HT.sIx (xs.map f).length 0 none = 0 := rfl
  rw [e, List.drop_zero, List.map_take]
theorem lt_line {n : Nat} (h : n ≤ 1000000) : n < sizeLine := by rw [sizeLine_eq]; omega
theorem pureSource {ds : List D} {M : Mem} {Qd : D → Mem → Prop} {Ed : XD} {a b c : Str} (h : spSource ds M Qd Ed) : dSource (fun _ M' => Qd .non M') Qd (fun _ _ => False) (fun _ _ => False) (fun C dd _ M' => Ed C dd M') (start0 [a, b, c] ds) M := by
  obtain ⟨ns, rfl, hl, nd, kQ⟩ := h
  unfold dSource
  walk_at "dl"
  obtain ⟨k, ek⟩ := cut_map D.int ns (some 63)
  have hk : (ns.take k).length ≤ 63 := by rw [List.length_take]; omega
  generalize ns.take k = cs at ek hk
  refine .lst (.rol _) (.inl ?_)
  rw [ek]
  walk_at "dl"
  refine ⟨_, _, .lst (.lst _), lt_line (by rw [List.length_map]; omega), lc_map D.int D.int trivial (fun x _ P1 h1 => ?_) (.inr fun c hc => ?_)⟩
  · walk_at "dl"
    exact h1
  · walk_at "dl"
    have hm : (c, MO.lst (cs.map .int)) ∈ (c, MO.lst (cs.map .int)) :: M := List.mem_cons_self
    refine ⟨_, _, .lst (.ptr hm), lt_line (by rw [List.length_map]; omega), lc_map D.int (fun x => .bl (decide (10 ^ 18 ≤ x))) hm (fun x _ P1 h1 => ?_) (.inl ?_)⟩
    · walk_at "dl"
      refine PowR.int ⟨by decide, by decide, by decide⟩ ?_
      walk_at "dl"
      exact h1
    · walk_at "dl"
      refine SumC.lst (ns := cs) (.ptr hm) ?_
      walk_at "dl"
      refine ModR.int (by decide) ?_
      walk_at "dl"
      refine ⟨len_le_line (n := 5), .inr fun p hp => ?_⟩
      have m0 := Int.emod_nonneg cs.sum (b := 1000003) (by decide)
      have m1 := Int.emod_lt_of_pos cs.sum (b := 1000003) (by decide)
      have ne : p ≠ c := fun e => hp _ (by rw [e]; exact List.mem_cons_self)
      refine kQ p c _ (fun m hm => hp m (List.mem_cons_of_mem _ hm)) hc (nd_new hp (nd_new hc nd)) ⟨⟨cs, cs.map fun x => decide (10 ^ 18 ≤ x), 0, 0, _, ?_, List.mem_cons_of_mem _ hm, by rw [List.length_map], hk, Int.le_refl _, Int.le_refl _, m0, m1⟩, ne⟩ (Fr.refl.cons.cons)
      unfold srcD
      rw [List.map_map]
      exact List.mem_cons_self
/-! ### names -/
def dNames (sd : SpD) : DS := sSeq (sAsg (dC (.str ("abcdefghijklmnopqrstuvwxyz" : Str))) (gNm 2)) (sSeq (sAsg (dCall sd (dCons (dVar 0) (dCons (dC (.int 4)) (dNil)))) (gNm 3)) (sSeq (sAsg (dCall sd (dCons (dVar 0) (dCons (dC (.int 4)) (dNil)))) (gNm 4)) (sSeq (sAsg (dCall sd (dCons (dVar 0) (dCons (dC (.int 2)) (dNil)))) (gNm 5)) (sSeq (sAsg (dCall sd (dCons (dVar 0) (dCons (dC (.int 26)) (dNil)))) (gNm 6)) (sSeq (sAsg (dOp rIx (dVar 2) (dCall sd (dCons (dVar 0) (dCons (dC (.int 26)) (dNil))))) (gNm 7)) (sRet (dLc (iRg1 (dCons (dVar 1) (dNil))) (.nm 8) (dYes) (dOp rAdd (dOp rAdd (dOp rMul (dVar 7) (dVar 3)) (dOp rIx (dVar 2) (dOp rMod (dCB rInt (dCons (dOp rAdd (dVar 6) (dVar 8)) (dNil))) (dC (.int 26))))) (dOp rMul (dVar 7) (dOp rAdd (dVar 4) (dOp rMul (dVar 5) (dOp rMod (dCB rInt (dCons (dVar 8) (dNil))) (dC (.int 3))))))) [8])))))))
/-- the letters of a made name: so long, small letters -/
structure NameOk (x : Str) : Prop where
  l1 : 1 ≤ x.length
  l2 : x.length ≤ 9
  lo : ∀ c ∈ x.cps, 97 ≤ c ∧ c ≤ 122
def spNames : SpD := fun ds M Q _ => ∃ (p c : Addr) (b n : Nat), ds = [.ptr p, .int n] ∧ n ≤ 26 ∧ Nd M ∧ b < 10000000 ∧ Src p c b M ∧ ∀ (xs : List Str) a M', xs.length = n → xs.Nodup → (∀ x ∈ xs, NameOk x) → Nd M' → Src p c (b + 5) M' → Free a M → a ≠ p → a ≠ c → (a, MO.lst (xs.map .str)) ∈ M' → Fr [p, c] M M' → Q (.ptr a) M'
theorem rep_one (f : Nat) (n : Int) : (repS ⟨#[f]⟩ n).cps = (List.replicate n.toNat f).toArray := by
  unfold repS
  show (List.replicate n.toNat #[f]).foldl (· ++ ·) #[] = _
  have k : ∀ (m : Nat) (b : Array Nat), (List.replicate m #[f]).foldl (· ++ ·) b = b ++ (List.replicate m f).toArray := by
    intro m
    induction m with
    | zero => intro b; simp
    | succ m ih =>
      intro b
      rw [List.replicate_succ, List.foldl_cons, ih, List.replicate_succ, Array.append_assoc]
      congr 1
      simp
  rw [k]
  simp
def letters : Str := "abcdefghijklmnopqrstuvwxyz"
theorem letter_at (i : Nat) (h : i < 26) : letters.cps.toList[i]? = some (97 + i) := by
  have k : ∀ i : Fin 26, letters.cps.toList[i.val]? = some (97 + i.val) := by decide +kernel
  exact k ⟨i, h⟩
/-- f .. f l f .. f -/
def nameS (f l m n : Nat) : Str := ⟨(List.replicate m f ++ [l] ++ List.replicate n f).toArray⟩
theorem nameS_ok {f l m n : Nat} (hf : 97 ≤ f ∧ f ≤ 122) (hl : 97 ≤ l ∧ l ≤ 122) (h : m + n ≤ 8) : NameOk (nameS f l m n) := by
  have sz : (nameS f l m n).length = m + 1 + n := by
    show (List.replicate m f ++ [l] ++ List.replicate n f).toArray.size = _
    simp
    omega
  refine ⟨by omega, by omega, fun c hc => ?_⟩
  have hc' : c ∈ List.replicate m f ++ [l] ++ List.replicate n f := by
    have : c ∈ (List.replicate m f ++ [l] ++ List.replicate n f).toArray := hc
    simpa using this
  rcases List.mem_append.mp hc' with h1 | h1
  · rcases List.mem_append.mp h1 with h2 | h2
    · rw [(List.mem_replicate.mp h2).2]; exact hf
    · rw [List.mem_singleton.mp h2]; exact hl
  · rw [(List.mem_replicate.mp h1).2]; exact hf
theorem nameS_at {f l m n : Nat} : (nameS f l m n).cps.toList[m]? = some l := by
  show (List.replicate m f ++ [l] ++ List.replicate n f)[m]? = some l
  rw [List.append_assoc, List.getElem?_append_right (by simp)]
  simp
theorem spDraw_of {p c : Addr} {many : Int} {b : Nat} {M : Mem} {Q : D → Mem → Prop} {E : XD} (h0 : 0 < many) (h1 : many < 2 ^ 62) (nd : Nd M) (hb : b < 100000000) (S : Src p c b M) (k : ∀ r M', 0 ≤ r → r < many → Nd M' → Src p c (b + 1) M' → Fr [p, c] M M' → Q (.int r) M') : spDraw [.ptr p, .int many] M Q E :=
  ⟨p, c, many, b, rfl, h0, h1, nd, hb, S, k⟩
theorem pureNames {ds : List D} {M : Mem} {Qd : D → Mem → Prop} {Ed : XD} {x1 x2 x3 x4 x5 x6 x7 x8 x9 : Str} (h : spNames ds M Qd Ed) : dNames spDraw (fun _ M' => Qd .non M') Qd (fun _ _ => False) (fun _ _ => False) (fun C dd _ M' => Ed C dd M') (start0 [x1, x2, x3, x4, x5, x6, x7, x8, x9] ds) M := by
  obtain ⟨p, c, b, n, rfl, hn, nd, hb, S, kQ⟩ := h
  unfold dNames
  walk_at "dl"
  refine spDraw_of (by decide) (by decide) nd (by omega) S fun r1 M1 a1 b1 nd1 S1 f1 => ?_
  walk_at "dl"
  refine spDraw_of (by decide) (by decide) nd1 (by omega) S1 fun r2 M2 a2 b2 nd2 S2 f2 => ?_
  walk_at "dl"
  refine spDraw_of (by decide) (by decide) nd2 (by omega) S2 fun r3 M3 a3 b3 nd3 S3 f3 => ?_
  walk_at "dl"
  refine spDraw_of (by decide) (by decide) nd3 (by omega) S3 fun r4 M4 a4 b4 nd4 S4 f4 => ?_
  walk_at "dl"
  refine spDraw_of (by decide) (by decide) nd4 (by omega) S4 fun r5 M5 a5 b5 nd5 S5 f5 => ?_
  have at_l : ∀ r : Int, 0 ≤ r → r < 26 → atI letters.cps.toList r = some (97 + r.toNat) := fun r h1 h2 => atI_nat' (j := r.toNat) (by omega) (letter_at _ (by omega))
  refine .str (by show letters.length ≤ sizeLine; exact len_le_line (n := letters.length) (by decide +kernel)) (at_l r5 a5 b5) ?_
  walk_at "dl"
  refine ⟨by omega, by omega, ?_⟩
  have f05 : Fr [p, c] M M5 := (((f1.trans f2).trans f3).trans f4).trans f5
  let nm : Nat → Str := fun i => nameS (97 + r5.toNat) (97 + (r4.toNat + i) % 26) r1.toNat (r2.toNat + r3.toNat * (i % 3))
  have hrng : rng 0 ((n : Nat) : Int).toNat = (List.range n).map fun (i : Nat) => D.int (i : Int) := by
    unfold rng
    rw [Int.toNat_natCast]
    exact List.map_congr_left fun i _ => by rw [Int.zero_add]
  rw [hrng]
  refine ⟨lt_line (by rw [List.length_map, List.length_range]; omega), lc_map (fun i : Nat => D.int (i : Int)) (fun i => D.str (nm i)) trivial (fun i hi P1 h1 => ?_) (.inr fun a ha => ?_)⟩
  · have hi' : i < n := List.mem_range.mp hi
    have e1 : (r4 + (i : Int)) % 26 = (((r4.toNat + i) % 26 : Nat) : Int) := by omega
    have e2 : (i : Int) % 3 = ((i % 3 : Nat) : Int) := by omega
    have i3 : i % 3 ≤ 2 := by omega
    have hm : r3 * ((i % 3 : Nat) : Int) = ((r3.toNat * (i % 3) : Nat) : Int) := by
      rw [Int.natCast_mul]
      congr 1
      omega
    have hle : r3.toNat * (i % 3) ≤ 1 * 2 := Nat.mul_le_mul (by omega) i3
    walk_at "dl"
    refine MulR.str (by show (1 : Nat) ≤ 1000; decide) a1 (by omega) ?_
    walk_at "dl"
    refine ModR.int (by decide) ?_
    refine .str (by show letters.length ≤ sizeLine; exact len_le_line (n := letters.length) (by decide +kernel)) (by rw [e1]; exact at_l _ (by omega) (by omega)) ?_
    have l1 : (repS ⟨#[97 + r5.toNat]⟩ r1).length ≤ 3 := by rw [repS_length]; show 1 * r1.toNat ≤ 3; omega
    refine AddR.str ?_ ?_
    · show _ + 1 ≤ sizeLine
      exact len_le_line (by omega)
    walk_at "dl"
    refine ModR.int (by decide) ?_
    refine MulR.int (wide_mul (a := 10) (b := 10) (wide_of a3 (by omega)) (by rw [e2]; exact wide_of (by omega) (by omega)) (by decide) (by decide) (by decide)) ?_
    walk_at "dl"
    rw [e2, hm]
    refine MulR.str (by show (1 : Nat) ≤ 1000; decide) (by omega) (by omega) ?_
    have l2 : (repS ⟨#[97 + r5.toNat]⟩ (r2 + ((r3.toNat * (i % 3) : Nat) : Int))).length ≤ 5 := by rw [repS_length]; show 1 * _ ≤ 5; omega
    refine AddR.str ?_ ?_
    · have l3 : ∀ x y : Str, (x ++ y).length = x.length + y.length := fun x y => Array.size_append
      rw [l3]
      have l4 : (⟨#[97 + (((r4.toNat + i) % 26 : Nat) : Int).toNat]⟩ : Str).length = 1 := rfl
      rw [l4]
      exact len_le_line (by omega)
    have e3 : (repS ⟨#[97 + r5.toNat]⟩ r1 ++ ⟨#[97 + (((r4.toNat + i) % 26 : Nat) : Int).toNat]⟩ ++ repS ⟨#[97 + r5.toNat]⟩ (r2 + ((r3.toNat * (i % 3) : Nat) : Int)) : Str) = nm i := by
      show (⟨((repS ⟨#[97 + r5.toNat]⟩ r1).cps ++ #[97 + (((r4.toNat + i) % 26 : Nat) : Int).toNat]) ++ (repS ⟨#[97 + r5.toNat]⟩ (r2 + ((r3.toNat * (i % 3) : Nat) : Int))).cps⟩ : Str) = _
      rw [rep_one, rep_one, Int.toNat_natCast, show (r2 + ((r3.toNat * (i % 3) : Nat) : Int)).toNat = r2.toNat + r3.toNat * (i % 3) by omega]
      show _ = (⟨_⟩ : Str)
      congr 1
      simp
    rw [e3]
    exact h1
  · have hd : ∀ i j, i < n → j < n → nm i = nm j → i = j := fun i j hi hj e => by
      have h1 := nameS_at (f := 97 + r5.toNat) (l := 97 + (r4.toNat + i) % 26) (m := r1.toNat) (n := r2.toNat + r3.toNat * (i % 3))
      have h2 := nameS_at (f := 97 + r5.toNat) (l := 97 + (r4.toNat + j) % 26) (m := r1.toNat) (n := r2.toNat + r3.toNat * (j % 3))
      have e' : nameS (97 + r5.toNat) (97 + (r4.toNat + i) % 26) r1.toNat (r2.toNat + r3.toNat * (i % 3)) = nameS (97 + r5.toNat) (97 + (r4.toNat + j) % 26) r1.toNat (r2.toNat + r3.toNat * (j % 3)) := e
      rw [e', h2] at h1
      have h3 := Option.some.inj h1
      omega
    have ep : ((List.range n).map fun i => D.str (nm i)) = ((List.range n).map nm).map .str := by rw [List.map_map]; rfl
    have pM : ∃ m, (p, m) ∈ M5 := by obtain ⟨_, _, _, _, _, h, _⟩ := S5.ex; exact ⟨_, h⟩
    have cM : ∃ m, (c, m) ∈ M5 := by obtain ⟨_, _, _, _, _, _, h, _⟩ := S5.ex; exact ⟨_, h⟩
    obtain ⟨_, hpM⟩ := pM
    obtain ⟨_, hcM⟩ := cM
    have ap : a ≠ p := fun e => ha _ (by rw [e]; exact hpM)
    have ac : a ≠ c := fun e => ha _ (by rw [e]; exact hcM)
    refine kQ ((List.range n).map nm) a _ (by simp) ?_ (fun x hx => ?_) (nd_new ha nd5) (S5.fr (ps := []) Fr.refl.cons (by simp) (by simp)) (fun m hm => ha m (f05 a m (not_mem2 ap ac) hm)) ap ac ?_ f05.cons
    · refine List.pairwise_map.mpr (List.Pairwise.imp_of_mem (fun {i j} hi hj hij e => hij (hd i j (List.mem_range.mp hi) (List.mem_range.mp hj) e)) List.nodup_range)
    · obtain ⟨i, hi, rfl⟩ := List.mem_map.mp hx
      have i3 : i % 3 ≤ 2 := by omega
      have hle : r3.toNat * (i % 3) ≤ 1 * 2 := Nat.mul_le_mul (by omega) i3
      exact nameS_ok ⟨by omega, by omega⟩ ⟨by omega, by omega⟩ (by omega)
    · rw [ep]
      exact List.mem_cons_self
end DL
namespace DL
variable [Wd]
open PySem L2 PySem.Spec PyProof.Rows
section
variable {M : Mem} {ρ : Rho} {st : Mem → Prop} {de : DE} {j j1 : Nat} {vs1 : List Nat} {di1 : DI}
end
end DL
namespace DL
variable [Wd]
open PySem L2 PySem.Spec PyProof.Rows
/-! ### data frozen behind an expression, whatever others hold -/
def FzK (K : PySem.W.Frag) (d : D) (M : Mem) (d' : D) (M' : Mem) : Prop := ∀ U, Fz ⟨K, U⟩ d M d' M'
theorem FzK.refl {K : PySem.W.Frag} {d : D} {M : Mem} : FzK K d M d M := fun _ => Fz.refl _ _
theorem FzK.one {K : PySem.W.Frag} {p : Addr} {m : MO} {d : D} {M M' : Mem} (u : Del p m M M') (h : frzD m = some d) : FzK K (.ptr p) M d M' := fun _ => Fz.one u h
def dZK (K : PySem.W.Frag) (de : DE) : DE := fun ρ M Q E => de ρ M (fun d M' => ∃ d' M'', FzK K d M' d' M'' ∧ Q d' M'') E
theorem de_zK {X : Cx} {g : G} {W : WX} {e : Expr} {de : DE} (hK : g.K = X.K) (h : PE X e (liftE g W de)) : PE X e (liftE g W (dZK X.K de)) := by
  obtain ⟨K, U⟩ := g
  simp only at hK
  subst hK
  exact h.imp fun σ H k ⟨ρ, M, F, Q, E, S, En, q, kQ, kE⟩ => ⟨ρ, M, F, _, E, S, En, q, fun d M' F' v H' ⟨d', M'', z, q'⟩ s S' r => by
    obtain ⟨F2, s2, S2, r2⟩ := z U F' v H' S' r
    exact kQ d' M'' F2 v H' q' (s.t s2) S2 r2, kE⟩
theorem g_zK {K : PySem.W.Frag} {de : DE} {ρ : Rho} {M : Mem} {Q : D → Mem → Prop} {E : XD} (q : de ρ M (fun d M' => ∃ d' M'', FzK K d M' d' M'' ∧ Q d' M'') E) : dZK K de ρ M Q E := q
end DL
local macro_rules | `(tactic| walk_at "dl") => `(tactic| repeat (first | (with_reducible first | refine DL.g_seq ?_ | refine DL.g_asg ?_ | refine DL.g_sif ?_ | refine DL.g_ret ?_ | refine DL.g_retN ?_ | refine DL.g_drop ?_ | refine DL.g_next ?_ | refine DL.g_cont ?_ | refine DL.g_brk ?_ | refine DL.g_sfor ?_ | refine DL.g_op ?_ | refine DL.g_c ?_ | refine DL.g_nil ?_ | refine DL.g_cons ?_ | refine DL.g_cb ?_ | refine DL.g_call ?_ | refine DL.g_tup ?_ | refine DL.g_lst ?_ | refine DL.g_B ?_ | refine DL.g_not ?_ | refine DL.g_and ?_ | refine DL.g_or ?_ | refine DL.g_if ?_ | refine DL.g_bl ?_ | refine DL.g_in ?_ | refine DL.g_nm ?_ | refine DL.g_fld ?_ | refine DL.IntB.int ?_ | refine DL.AddR.int ?_ | refine DL.SubR.int ?_ | refine DL.EqR.int ?_ | refine DL.EqR.str ?_ | refine DL.EqR.bl ?_ | refine DL.IntC.int ?_ | refine DL.IsR.non ?_ | refine DL.g_lc ?_ | refine DL.g_lc2 ?_ | refine DL.g_dc ?_ | refine DL.g_iany ?_ | refine DL.g_iitm ?_ | refine DL.g_irg1 ?_ | refine DL.g_sl ?_ | refine DL.g_onone ?_ | refine DL.g_osome ?_ | refine DL.g_con ?_ | refine DL.g_bm ?_ | refine DL.g_andV ?_ | refine DL.g_orV ?_ | refine DL.g_notV ?_ | refine DL.g_make ?_ | refine DL.g_meth ?_ | refine DL.g_listint ?_ | refine DL.g_fldS ?_ | refine DL.g_gsub ?_ | refine DL.g_zK ?_) | (refine DL.g_var (by first | assumption | rfl) ?_)))
namespace DL
variable [Wd]
open PySem L2 PySem.Spec PyProof.Rows
theorem eqD_refl : ∀ (n : Nat) (d : D), okD n d = true → eqD d d = true
  | n, .non, _ => rfl
  | n, .bl b, _ => by show (b == b) = true; simp
  | n, .int i, _ => by show (i == i) = true; simp
  | n, .str x, _ => by show (x == x) = true; simp
  | n + 1, .tup ds, h => eqDs_refl n ds h
  | n + 1, .lst ds, h => eqDs_refl n ds h
  | 0, .tup ds, h => by simp [okD] at h
  | 0, .lst ds, h => by simp [okD] at h
  | n, .ty _, h => by cases n <;> simp [okD] at h
  | n, .ptr _, h => by cases n <;> simp [okD] at h
  | n, .rol _, h => by cases n <;> simp [okD] at h
  | n, .dic _, h => by cases n <;> simp [okD] at h
  | n, .dit _, h => by cases n <;> simp [okD] at h
  | n, .obj _ _, h => by cases n <;> simp [okD] at h
where
  eqDs_refl (n : Nat) : ∀ (ds : List D), ds.all (okD n) = true → eqDs ds ds = true
    | [], _ => rfl
    | d :: ds, h => by
      rw [List.all_cons, Bool.and_eq_true] at h
      show (eqD d d && eqDs ds ds) = true
      rw [eqD_refl n d h.1, eqDs_refl n ds h.2]
      rfl
end DL
namespace DL
variable [Wd]
open PySem L2 PySem.Spec PyProof.Rows
end DL
namespace DL
variable [Wd]
open PySem L2 PySem.Spec PyProof.Rows
end DL
namespace DL
variable [Wd]
open PySem L2 PySem.Spec PyProof.Rows
/-! ### C(e, .., k = v) -/
section
variable {X : Cx} {g : G} {W : WX} {pos p : Pos} {e : Expr} {es : List Expr} {kws : List Keyword} {dA dK : DA} {x : Str}
end
end DL
namespace DL
variable [Wd]
open PySem L2 PySem.Spec PyProof.Rows
section
variable {M : Mem}
theorem isS_len {d : D} {xs : List D} {Q : D → Mem → Prop} (h : IsS M d xs) (q : Q (.int (xs.length : Nat)) M) : rLen [d] M Q := .seq h q
theorem atI0 {α : Type} {x : α} {xs : List α} : atI (x :: xs) 0 = some x := atI_nat' (j := 0) rfl rfl
theorem atI1 {α : Type} {x y : α} {xs : List α} : atI (x :: y :: xs) 1 = some y := atI_nat' (j := 1) rfl rfl
theorem atI2 {α : Type} {x y z : α} {xs : List α} : atI (x :: y :: z :: xs) 2 = some z := atI_nat' (j := 2) rfl rfl
theorem strs_in (x : Str) (xs : List Str) : ((xs.map D.str).any fun z => eqD z (.str x)) = decide (x ∈ xs) := by
  induction xs with
  | nil => rfl
  | cons y ys ih =>
    rw [List.map_cons, List.any_cons, ih]
    show ((y == x) || decide (x ∈ ys)) = _
    by_cases q : y = x
    · subst q; simp
    · have q2 : ¬ x = y := fun z => q z.symm
      simp [q, q2]
theorem strs_flat (xs : List Str) : (xs.map D.str).all flatD = true := by
  induction xs with
  | nil => rfl
  | cons y ys ih => rw [List.map_cons, List.all_cons, ih]; rfl
theorem in_strs {e : D} {x : Str} {xs : List Str} {Q : D → Mem → Prop} (h : IsS M e (xs.map .str)) (q : Q (.bl (decide (x ∈ xs) != false)) M) : rIn (.str x) e M Q := .seq h rfl (strs_flat xs) (by rw [strs_in]; exact q)
theorem tup_of {d : D} {xs : List D} (hd : IsS M d xs) {Q : D → Mem → Prop} (hq : Q (.tup xs) M) : rTuple [d] M Q := by
  cases hd with
  | lst => exact .lst (.lst _) hq
  | rol => exact .lst (.rol _) hq
  | tup => exact .tup hq
  | ptr h => exact .lst (.ptr h) hq
theorem put_new {es : List (Str × D)} {f : Str} {d : D} (h : NoF f es) : Put es f d (es ++ [(f, d)]) := by
  induction h with
  | nil => exact .nil
  | cons ne _ ih => exact .tail ne ih
theorem fld_new {K : PySem.W.Frag} {q C : Addr} {es : List (Str × D)} {f : Str} {d : D} {R : Mem → Prop} (nd : Nd M) (hq : (q, MO.obj C es) ∈ M) (fo : FldOk K C f) (nf : NoF f es) (hl : es.length < 1000) (k : ∀ M', UpdOk q (.obj C es) (.obj C (es ++ [(f, d)])) M M' → R M') :
    ∃ q_1 C' es1 es' M3, D.ptr q = .ptr q_1 ∧ FldOk K C' f ∧ es1.length < 1000 ∧ Put es1 f d es' ∧ Upd q_1 (.obj C' es1) (.obj C' es') M M3 ∧ R M3 := by
  obtain ⟨M', U⟩ := upd_ex (n := .obj C (es ++ [(f, d)])) nd hq
  exact ⟨q, C, es, _, M', rfl, fo, hl, put_new nf, U.up, k M' U⟩
theorem okStr {x : Str} (h : NameOk x) : PyData.strOk x = true := by
  unfold PyData.strOk
  rw [Array.all_eq_true']
  intro c hc
  have := (h.lo c hc).2
  simp
  omega
theorem ne_told {d : D} {Q : D → Mem → Prop} (h : okD 60 d = true) (q : Q (.bl false) M) : rNe d d M Q := .dat (.plain h) (.plain h) h h (by rw [eqD_refl 60 d h]; exact q)
end
end DL
namespace DL
variable [Wd]
open PySem L2 PySem.Spec PyProof.Rows
section
variable {M : Mem} {K : PySem.W.Frag} {ds : List D} {Qd : D → Mem → Prop} {Ed : XD}
end
end DL
namespace DL
variable [Wd]
open PySem L2 PySem.Spec PyProof.Rows

section
variable {P : Program} {w : World} {K : PySem.W.Frag}
end
end DL
namespace DL
variable [Wd]
open PySem L2 PySem.Spec PyProof.Rows
section
variable {X : Cx} {g : G} {W : WX} {pos p : Pos} {e : Expr} {de dk : DE}
end
end DL
namespace DL
variable [Wd]
open PySem L2 PySem.Spec PyProof.Rows
/-! ### properties of own classes -/
section
variable {X : Cx} {g : G} {W : WX} {pos pos' : Pos} {e o : Expr} {es : List Expr} {de do_ : DE} {dA : DA} {f : Str} {p : Pos}
theorem cx_no {P : Program} {w : World} {outer : List PySem.Env} {H : Hp} {s s' : Shared} {er : Value} (h : L2.CX P w outer H s (fun _ _ _ => False) er s') : False := by
  obtain ⟨_, _, _, _, _, _, _, _, _, _, _, _, z⟩ := h
  exact z
def dProp (C : Addr) (sd : SpD) (de : DE) : DE := fun ρ M Q E => de ρ M (fun d M1 => ∃ es, IsO M1 d C es ∧ sd [d] M1 Q noE) E
theorem de_prop {k : Nat} {C q fa : Addr} {sd : SpD} (c : Cls X.K C) (hp : PropOf X.K C f q fa) (F : FnD X.prog X.w X.K X.mg X.base k fa sd) (hr : Room (k + 1) X.A) (hK : g.K = X.K) (he : PE X e (liftE g W de)) (hb : attributeBase e f X.env (eval e X.env) = eval e X.env := by rfl) :
    PE X (.Attribute e f pos) (liftE g W (dProp C sd de)) := by
  refine ⟨fun pins s σ H k I ⟨ρ, M, F1, Q, E, S, En, q, kQ, kE⟩ => ?_⟩
  obtain ⟨K0, U⟩ := g
  simp only at hK
  subst hK
  refine attr_of hb (thn (he.run pins s σ H (fun x H1 => ∃ M1 F2 d es, Same F1 F2 ∧ Sta ⟨X.K, U⟩ F2 M1 H1 ∧ Rep X.K F2 x d ∧ IsO M1 d C es ∧ sd [d] M1 Q noE) I ⟨ρ, M, F1, _, E, S, En, q, fun d M1 F2 v H1 ⟨es, h1, z⟩ s S' r => ⟨M1, F2, d, es, s, S', r, h1, z⟩, kE⟩)
    fun u s1 ⟨x, H1, I1, rx, M1, F2, d, es, s12, S1, rd, ho1, q1⟩ => ?_)
  obtain ⟨a, dx, kvs, rfl, ea, l, rr⟩ := ho1.to S1 rd
  obtain rfl : u = Value.ref a := rx
  obtain ⟨mA, O, _, _, _, _⟩ := ins_get I1.hok ea
  obtain ⟨od, J, _⟩ := O.look
  obtain ⟨rest, hrec⟩ := hp.rec_
  have I2 := I1.tok (s1.toks + 1)
  have hc : (PySem.W.clsIn X.K C).isSome = true := by
    obtain ⟨cd, hc, _⟩ := PySem.W.any_some c.hd
    rw [hc]
    rfl
  have hsp : spOf X.K sd [V.ref a] H1 k (fun _ _ _ => False) := ⟨U, M1, F2, [d], Q, noE, S1, .cons rd .nil, q1, fun d M' F' v H' z s S' r => kQ d M' F' v H' z (s12.t s) S' r, fun _ _ _ _ _ z => z.elim⟩
  refine PySem.W.get_bind I1.kIn J (PySem.W.plainGet_of (c.get f)).1 (PySem.W.findObj_data hc hp.at_ hp.get hp.tak) (PySem.W.plainGet_of (c.get f)).2 (wpAny_call (PySem.W.prop_get (s := { s1 with toks := s1.toks + 1 }) I1.kIn hrec ?_))
  refine codeAny_mono (F X.A.in1 X.stack { s1 with toks := s1.toks + 1 } H1 [.ref a] [.ref a] _ _ hr.in1 I2.env0.in1 (.cons rfl .nil) hsp) fun r s' hq => ?_
  cases r with
  | error er => exact (cx_no hq).elim
  | ok fl =>
    cases fl with
    | ret u =>
      obtain ⟨v, H', I3, rv, q3⟩ := I2.after hq
      show wpAny _ _ (handedOut u) _ _ _
      rw [PySem.W.handedOut_of (handed_of rv)]
      exact wpAny_pure ⟨v, H', I3, rv, q3⟩
    | next => exact False.elim hq
    | brk => exact False.elim hq
    | cont => exact False.elim hq
/-! ### defs with a star parameter -/
def SpD.star (n : Nat) (sd : SpD) : SpD := fun ds M Q E => ∃ ws rest, ds = ws ++ rest ∧ ws.length = n ∧ rest.length ≤ sizeLine ∧ sd (ws ++ [.tup rest]) M Q E
theorem reps_split {K : PySem.W.Frag} {F : Hp} : ∀ {ds es : List D} {vs : List V}, Reps K F vs (ds ++ es) → ∃ v1 v2, vs = v1 ++ v2 ∧ Reps K F v1 ds ∧ Reps K F v2 es
  | [], _, vs, r => ⟨[], vs, rfl, .nil, r⟩
  | _ :: _, _, _, .cons a r => let ⟨v1, v2, e, r1, r2⟩ := reps_split r; ⟨_ :: v1, v2, by rw [e]; rfl, .cons a r1, r2⟩
end
section
variable {P : Program} {w : World} {K : PySem.W.Frag} {mg : Str → Option Value} {base : Heap}
theorem fnD_ofStar {x qual pv : Str} {st : Stmt} {f : Addr} {fd : FuncData} {N ps : List Str} {k : Nat} {sd : SpD} (Fu : Fun K x qual st f fd) (S : FnScope N (ps ++ [pv]) (defScope st))
    (hb : ∀ (kV doc pm : Value) (an : Option Addr) (cdv ct : Value) (us rest : List Value), us.length = ps.length → bindArgs (PySem.W.fnOf x qual (defArgs st) (defBody st) (defScope st) .none kV doc pm an cdv ct) ⟨us ++ rest, []⟩ = (newTuple rest >>= fun t => pure (ps.zip us ++ [(pv, t)])))
    (hbody : ∀ (cdv : Value) (A : Around) (outer : List PySem.Env) (s : Shared) (H : Hp) (U : Hp) (E : XK) (ds : List D) (M : Mem) (Qd : D → Mem → Prop) (Ed : XD), Room k (A.deeper (PyProof.Rows.envOfC qual (defScope st) s.heap.objs.size f cdv)) → sd ds M Qd Ed →
      ∃ body : DS, PSs (cxOf (L2.CX P w) P w K mg base N qual (defScope st) f cdv A outer s H E) (defBody st) (liftS ⟨K, U⟩ (fun cls d _ H => E cls d H) body) ∧
        body (fun _ M' => Qd .non M') Qd (fun _ _ => False) (fun _ _ => False) (fun C dd _ M' => Ed C dd M') (start0 N ds) M) : FnD P w K mg base (k + 1) f (SpD.star ps.length sd) := by
  obtain ⟨oc, od, kV, doc, pm, an, cdv, ct, osl, rfl, lk, hcd⟩ := Fu.ex
  refine FnR.imp (StX.fn_star (sp := spOf K sd) lk hcd S StX.cxUp (hb kV doc pm an cdv ct) fun A outer s H vs Q E hr h => ?_) fun vs H Q E h => ?_
  · obtain ⟨U, M, F, ds, Qd, Ed, St_, r, h, kQ, kE⟩ := h
    obtain ⟨body, hp, hq⟩ := hbody cdv A outer s H U E ds M Qd Ed hr h
    refine ⟨_, hp, start0 N ds, M, F, _, _, _, _, _, St_, env_start r, hq, ?_, ?_, ?_, ?_, ?_⟩
    · exact fun ρ' M' F' σ' H' z s S' En => kQ _ M' F' .non H' z s S' .non
    · exact kQ
    · exact fun ρ' M' F' σ' H' z s S' En => z.elim
    · exact fun ρ' M' F' σ' H' z s S' En => z.elim
    · exact fun C dd ρ' M' F' σ' H' z s S' En => kE C dd M' F' H' z s S'
  · obtain ⟨U, M, F, ds, Qd, Ed, S, r, ⟨ws, rest, ed, hl, hz, h⟩, kQ, kE⟩ := h
    subst ed
    obtain ⟨v1, v2, ev, r1, r2⟩ := reps_split r
    subst ev
    refine ⟨v1, v2, rfl, by rw [r1.length]; exact hl, by rw [r2.length]; exact hz, fun p hp => ?_⟩
    obtain ⟨s, S'⟩ := S.newF (o := .tup v2) hp
    exact ⟨U, M, _, _, Qd, Ed, S', (r1.mono s).append (.cons (.tup upd_same (r2.mono s)) .nil), h, fun d M' F' v H' z s' S'' r => kQ d M' F' v H' z (s.t s') S'' r, fun C dd M' F' H' z s' S'' => kE C dd M' F' H' z (s.t s') S''⟩
end
/-! ### starred arguments -/
section
variable {X : Cx} {g : G} {W : WX} {pos p sp_ : Pos} {e o : Expr} {es : List Expr} {de do_ : DE} {dA : DA} {x f : Str}
def dStar (de : DE) (dA : DA) : DA := fun ρ M Q E => de ρ M (fun d M1 => ∃ xs, IsS M1 d xs ∧ dA ρ M1 (fun ds M2 => Q (xs ++ ds) M2) E) E
theorem da_star (hK : g.K = X.K) (he : PE X e (liftE g W de)) (hr : PA X es (liftA g W dA)) (hs : starEach (.Starred e p :: es) X.env = (true, eval e X.env) :: starEach es X.env := by rfl) : PA X (.Starred e p :: es) (liftA g W (dStar de dA)) := by
  refine ⟨fun pos pins s σ H k I ⟨ρ, M, F, Q, E, S, En, q, kQ, kE⟩ => (StX.pa_star he hr hs).run pos pins s σ H k I ⟨ρ, M, F, _, E, S, En, q, fun d M1 F1 v H1 ⟨xs, hi, z⟩ s1 S1 r1 => ?_, kE⟩⟩
  obtain ⟨a, vs, ev, hq, rv⟩ := hi.to S1 r1
  rw [hK] at hq
  exact ⟨a, vs, ev, hq.symm, ρ, M1, F1, _, E, S1, En.mono s1, z, fun ds M2 F2 us H2 z s2 S2 r2 => kQ _ M2 F2 _ H2 z (s1.t s2) S2 ((rv.mono s2).append r2), fun C dd M2 F2 H2 q2 s2 S2 => kE C dd M2 F2 H2 q2 (s1.t s2) S2⟩
/-- C(*e) -/
theorem de_makeS1 {k : Nat} {C fa : Addr} {sd : SpD} (Mk_ : Mk X.K C fa) (F : FnD X.prog X.w X.K X.mg X.base k fa sd) (hr : Room (k + 1) X.A) (hg : Gl X x) (hm : X.mg x = some (.ref C)) (hK : g.K = X.K) (tk : Takes X W) (he : PE X e (liftE g W de))
    (hdb : (x == ("__debug__" : Str)) = false := by decide) (hst : starEach [.Starred e sp_] X.env = [(true, eval e X.env)] := by rfl) :
    PE X (.Call (.Name x p) [.Starred e sp_] [] pos) (liftE g W (dMake C sd (dStar de dNil))) := by
  refine ⟨fun pins s σ H k I ⟨ρ, M, F1, Q, E, S, En, q, kQ, kE⟩ => ?_⟩
  obtain ⟨K0, U⟩ := g
  simp only at hK
  subst hK
  refine wpAny_Call_Name_kw (ld_glob I hg hm ?_ hdb)
  refine PySem.W.callWith_S (h₀ := X.base) I.ok.mod.kin Mk_.kp (thn (he.run pins s σ H (fun v H1 => ∃ M1 F2 d xs, Same F1 F2 ∧ Sta ⟨X.K, U⟩ F2 M1 H1 ∧ Rep X.K F2 v d ∧ IsS M1 d xs ∧ ∀ x, (∀ m, (x, m) ∉ M1) → sd (.ptr x :: (xs ++ [])) ((x, .obj C []) :: M1) (fun d M2 => d = .non ∧ Q (.ptr x) M2) E) I
    ⟨ρ, M, F1, _, E, S, En, q, fun d M1 F2 v H1 ⟨xs, hi, z⟩ s S' r => ⟨M1, F2, d, xs, s, S', r, hi, z⟩, kE⟩) fun v s1 ⟨y, H1, I1, ry, M1, F2, d, xs, s12, S1, rd, hi, q1⟩ => ?_) hst
  obtain ⟨a, vs, ey, hq, rv⟩ := hi.to S1 rd
  subst ey
  obtain rfl : v = Value.ref a := ry
  refine StX.star_any I1 hq.symm fun us s2 I2 r2 => ⟨I2.kIn, ?_⟩
  refine run_makeD (Ex := fun cls d H' => W cls d σ H') Mk_ F hr tk (fun _ _ _ h => h) I2 r2 fun y dx h1 h2 h3 => ?_
  have q2 := q1 y (S1.fresh h1)
  rw [List.append_nil] at q2
  exact ⟨U, _, F2, _, _, E, sta_made S1 h1 h2 h3, .cons (.ptr y) rv, q2, fun d M' F' v H' ⟨ed, z⟩ s S' r => by
    subst ed
    cases r
    exact ⟨rfl, kQ _ M' F' _ H' z (s12.t s) S' (.ptr y)⟩, fun C dd M' F' H' z s S' => kE C dd M' F' H' z (s12.t s) S'⟩
/-- C() -/
theorem de_make0 {k : Nat} {C fa : Addr} {sd : SpD} (Mk_ : Mk X.K C fa) (F : FnD X.prog X.w X.K X.mg X.base k fa sd) (hr : Room (k + 1) X.A) (hg : Gl X x) (hm : X.mg x = some (.ref C)) (hK : g.K = X.K) (tk : Takes X W) (hdb : (x == ("__debug__" : Str)) = false := by decide) :
    PE X (.Call (.Name x p) [] [] pos) (liftE g W (dMake C sd dNil)) := by
  refine ⟨fun pins s σ H k I ⟨ρ, M, F1, Q, E, S, En, q, kQ, kE⟩ => ?_⟩
  obtain ⟨K0, U⟩ := g
  simp only at hK
  subst hK
  refine wpAny_Call_Name_kw (ld_glob I hg hm ?_ hdb)
  refine PySem.W.callWith_K0 I.kIn Mk_.kp ?_
  have q1 : ∀ x, (∀ m, (x, m) ∉ M) → sd [.ptr x] ((x, .obj C []) :: M) (fun d M2 => d = .non ∧ Q (.ptr x) M2) E := q
  refine run_makeD (us := []) (Ex := fun cls d H' => W cls d σ H') Mk_ F hr tk (fun _ _ _ h => h) I .nil fun y dx h1 h2 h3 => ?_
  exact ⟨U, _, F1, _, _, E, sta_made S h1 h2 h3, .cons (.ptr y) .nil, q1 y (S.fresh h1), fun d M' F' v H' ⟨ed, z⟩ s S' r => by
    subst ed
    cases r
    exact ⟨rfl, kQ _ M' F' _ H' z s S' (.ptr y)⟩, kE⟩
end
end DL
namespace DL
variable [Wd]
open PySem L2 PySem.Spec PyProof.Rows
/-! ### isinstance of any value, one class -/
inductive TyI (K : PySem.W.Frag) (M : Mem) : D → Value → Prop
  | non : TyI K M .non (.type "NoneType")
  | bl (b : Bool) : TyI K M (.bl b) (.type "bool")
  | int (i : Int) : TyI K M (.int i) (.type "int")
  | str (x : Str) : TyI K M (.str x) (.type "str")
  | lst {d : D} {ds : List D} {st : Mem → Prop} : IsL M d ds st → TyI K M d (.type "list")
  | tup (ds : List D) : TyI K M (.tup ds) (.type "tuple")
  | obj {d : D} {C : Addr} {es : List (Str × D)} : IsO M d C es → C8.InsC K C → TyI K M d (.ref C)
section
variable {X : Cx} {g : G} {W : WX} {F : Hp} {M : Mem} {H : Hp} {pos p : Pos} {e : Expr} {es : List Expr} {de : DE}
theorem sqL_ty {K : PySem.W.Frag} {a : Addr} {xs : List V} (h : SqL K H a xs) : TyX K H (.ref a) (.type "list") := by
  rcases h with (h | ⟨z, h⟩) | ⟨o, its, n, hk, hc, _⟩
  · exact .base (.lst h)
  · exact .base (.frz h)
  · exact .kList hk hc
theorem sqT_ty {K : PySem.W.Frag} {a : Addr} {xs : List V} (h : SqT K H a xs) : TyX K H (.ref a) (.type "tuple") := by
  rcases h with (h | ⟨z, h⟩) | ⟨o, its, n, hk, hc, _⟩
  · exact .base (.tup h)
  · exact .fTuple h
  · exact .kTuple hk hc
theorem TyI.to {v : V} {d : D} {t : Value} (h : TyI g.K M d t) (S : Sta g F M H) (r : Rep g.K F v d) : TyX g.K H v t := by
  cases h with
  | non => cases r; exact .base .non
  | bl => cases r; exact .base (.bl _)
  | int => cases r; exact .base (.int _)
  | str => cases r; exact .base (.str _)
  | lst h => obtain ⟨a, xs, ev, hq, _⟩ := h.sq S r; subst ev; exact sqL_ty hq
  | tup => cases r with | tup e r => exact sqT_ty (S.sub.sqT (K := g.K) e)
  | obj h c => obtain ⟨a, dx, kvs, ev, ha, _⟩ := h.to S r; subst ev; exact .base (.ins ha c.cl c.ha c.hn c.htk c.hm)
inductive IsiC (K : PySem.W.Frag) (M : Mem) (Q : D → Mem → Prop) : List D → Prop
  | mk {x c : D} {t u : Value} {b : Bool} : ClD c u → TyI K M x t → PySem.W.kitOne K t u = some b → Q (.bl b) M → IsiC K M Q [x, c]
abbrev rIsi (K : PySem.W.Frag) : DC := fun ds M Q => IsiC K M Q ds
theorem cd_isi (hK : g.K = X.K) : CallD X g (.builtin "isinstance") (rIsi X.K) := by
  intro pins s σ H vs us k I r h
  obtain ⟨F, M, ds, Q, S, r1, q, kQ⟩ := h
  obtain ⟨K0, U⟩ := g
  simp only at hK
  subst hK
  cases q with
  | mk hc ht hk q =>
    cases r1 with
    | cons r1 rn =>
      cases rn with
      | cons r2 rn =>
        cases rn
        have ty := ht.to S r1
        rename_i c t u b v1 v2
        have cv : ClsV v2 u := by
          cases hc with
          | own => cases r2; exact .own _
          | ty => cases r2; exact .ty _
        exact call_isi pins s σ H _ us k I r ⟨_, _, t, u, b, rfl, cv, ty, hk, kQ _ M F _ H q (Same.r F) S (.bl _)⟩
/-! ### operators of an own class -/
def rOwn (C : Addr) (sd : SpD) : DR2 := fun d e M Q => ∃ es es', IsO M d C es ∧ IsO M e C es' ∧ sd [d, e] M Q noE
def rOr (r r' : DR2) : DR2 := fun d e M Q => r d e M Q ∨ r' d e M Q
theorem od_or {f : Value → Value → Sem Value} {r r' : DR2} (h : OpD X g f r) (h' : OpD X g f r') : OpD X g f (rOr r r') := by
  intro pins s σ H x y v u k I rx ry q
  obtain ⟨F, M, d, e, Q, S, r1, r2, ar, kQ⟩ := q
  rcases ar with ar | ar
  · exact h pins s σ H x y v u k I rx ry ⟨F, M, d, e, Q, S, r1, r2, ar, kQ⟩
  · exact h' pins s σ H x y v u k I rx ry ⟨F, M, d, e, Q, S, r1, r2, ar, kQ⟩
theorem cmpBack {Q : Value → Shared → Prop} {v : V} {u : Value} {s : Shared} (r : RelV v u) (q : Q u s) : PySem.W.CmpBack Q u s := by
  cases v with
  | non => cases (show u = _ from r); exact q
  | bl b => cases (show u = _ from r); exact q
  | int i => obtain ⟨t, e⟩ := (show ∃ t, u = Value.int i t from r); subst e; exact q
  | str i => obtain ⟨t, e⟩ := (show ∃ t, u = Value.str i t from r); subst e; exact q
  | byt i => obtain ⟨t, e⟩ := (show ∃ t, u = Value.bytes i t from r); subst e; exact q
  | flt i => obtain ⟨t, e⟩ := (show ∃ t, u = Value.float i t from r); subst e; exact q
  | ref a => cases (show u = _ from r); exact q
  | ty n => cases (show u = _ from r); exact q
/-- a call of an own def at values, nothing raised -/
theorem run_own {k : Nat} {fa : Addr} {sd : SpD} {U : Hp} {Q : D → Mem → Prop} {kk : VK} {us : List Value} {vs : List V} {ds : List D} {pins : List (Addr × Obj)} {σ : L2.St} {s : Shared} {A : Around} {E : Value → Shared → Prop} {R : Value → Shared → Prop} (F : FnD X.prog X.w X.K X.mg X.base k fa sd) (hr : Room k A) (hA : Env0 X.prog X.w X.K X.mg X.base A X.stack s H)
    (I : Inv X pins σ H s) (r : Vals vs us) {F1 : Hp} (S : Sta ⟨X.K, U⟩ F1 M H) (rd : Reps X.K F1 vs ds) (q : sd ds M Q noE) (kQ : ∀ d M' F' v H', Q d M' → Same F1 F' → Sta ⟨X.K, U⟩ F' M' H' → Rep X.K F' v d → kk v H') (hR : ∀ v u H' s', Inv X pins σ H' s' → RelV v u → kk v H' → R u s') :
    wpAny (model X.prog X.w) A (call (.ref fa) us) R E s := by
  have hsp : spOf X.K sd vs H kk (fun _ _ _ => False) := ⟨U, M, F1, ds, Q, noE, S, rd, q, kQ, fun _ _ _ _ _ z => z.elim⟩
  refine wpAny_call (codeAny_mono (F A X.stack s H us vs _ _ hr hA r hsp) fun r s' hq => ?_)
  cases r with
  | error er => exact (cx_no hq).elim
  | ok fl =>
    cases fl with
    | ret u =>
      obtain ⟨v, H', I3, rv, q3⟩ := I.after hq
      exact hR v u H' s' I3 rv q3
    | next => exact False.elim hq
    | brk => exact False.elim hq
    | cont => exact False.elim hq
structure OwnOp (K : PySem.W.Frag) (C fa : Addr) (nm : Str) : Prop where
  at_ : PySem.W.findIn K (.ref C) nm = some (some (.ref fa))
  fn : PySem.W.isFn K (.ref fa) = true
  sf : PySem.W.selfFirst K C = true
theorem od_bin {op : Operator} {k : Nat} {C fa : Addr} {sd : SpD} (o : OwnOp X.K C fa (PySem.dunder op.info.2)) (F : FnD X.prog X.w X.K X.mg X.base k fa sd) (hr : Room k X.A) (hK : g.K = X.K) : OpD X g (binaryOp op) (rOwn C sd) := by
  intro pins s σ H x y v u kk I rx ry h
  obtain ⟨F1, M, d, e, Q, S, r1, r2, ⟨es, es', o1, o2, q⟩, kQ⟩ := h
  obtain ⟨K0, U⟩ := g
  simp only at hK
  subst hK
  obtain ⟨a, dx, kvs, rfl, ha, _⟩ := o1.to S r1
  obtain ⟨b, dy, kvs', rfl, hb, _⟩ := o2.to S r2
  obtain rfl : v = Value.ref a := rx
  obtain rfl : u = Value.ref b := ry
  obtain ⟨mA, J, _⟩ := ins_get I.hok ha
  obtain ⟨mB, J', _⟩ := ins_get I.hok hb
  obtain ⟨od, J, _⟩ := J.look
  obtain ⟨od', J', _⟩ := J'.look
  obtain ⟨m, hF⟩ := I.fr
  refine PySem.W.binop_K hF I.ok.mod.kin J J'.type o.sf o.at_ o.fn ?_
  exact run_own (vs := [.ref a, .ref b]) (R := PySem.W.CmpBack (EP X pins σ kk)) F hr I.env0 I (.cons rfl (.cons rfl .nil)) S (.cons r1 (.cons r2 .nil)) q kQ fun v u H' s' I' rv z => cmpBack rv ⟨v, H', I', rv, z⟩
theorem od_own {cop : CmpOp} {k : Nat} {C fa : Addr} {sd : SpD} (hcp : ∀ v u, compareOp cop v u = richCompare cop v u) (o : OwnOp X.K C fa (cmpInfo cop).2.1) (F : FnD X.prog X.w X.K X.mg X.base k fa sd) (hr : Room k X.A) (hK : g.K = X.K) : OpD X g (compareOp cop) (rOwn C sd) := by
  intro pins s σ H x y v u kk I rx ry h
  obtain ⟨F1, M, d, e, Q, S, r1, r2, ⟨es, es', o1, o2, q⟩, kQ⟩ := h
  obtain ⟨K0, U⟩ := g
  simp only at hK
  subst hK
  obtain ⟨a, dx, kvs, rfl, ha, _⟩ := o1.to S r1
  obtain ⟨b, dy, kvs', rfl, hb, _⟩ := o2.to S r2
  obtain rfl : v = Value.ref a := rx
  obtain rfl : u = Value.ref b := ry
  obtain ⟨mA, J, _⟩ := ins_get I.hok ha
  obtain ⟨mB, J', _⟩ := ins_get I.hok hb
  obtain ⟨od, J, _⟩ := J.look
  obtain ⟨od', J', _⟩ := J'.look
  obtain ⟨m, hF⟩ := I.fr
  rw [hcp]
  refine PySem.W.cmp_K (tb := .ref C) hr.units0 hF I.ok.mod.kin J J'.type (by simp [PySem.W.notFirst]) o.at_ o.fn ?_
  exact run_own (vs := [.ref a, .ref b]) (R := PySem.W.CmpBack (EP X pins σ kk)) F hr I.env0 I (.cons rfl (.cons rfl .nil)) S (.cons r1 (.cons r2 .nil)) q kQ fun v u H' s' I' rv z => cmpBack rv ⟨v, H', I', rv, z⟩
/-! ### the protocol's built-ins over an own class -/
/-- len(o) -/
inductive LenO (C : Addr) (sd : SpD) (M : Mem) (Q : D → Mem → Prop) : List D → Prop
  | mk {d : D} {es : List (Str × D)} : IsO M d C es → sd [d] M (fun z M' => ∃ n : Nat, z = .int (n : Nat) ∧ n < 2 ^ 62 ∧ Q z M') noE → LenO C sd M Q [d]
def rLenO (C : Addr) (sd : SpD) : DC := fun ds M Q => LenC M Q ds ∨ LenO C sd M Q ds
theorem cd_lenO {k : Nat} {C fa : Addr} {sd : SpD} (hw : X.w = Wd.w) (o : OwnOp X.K C fa "__len__") (F : FnD X.prog X.w X.K X.mg X.base k fa sd) (hr : Room (k + 1) X.A) (hK : g.K = X.K) : CallD X g (.builtin "len") (rLenO C sd) := by
  intro pins s σ H vs us kk I r h
  obtain ⟨F1, M, ds, Q, S, r1, q, kQ⟩ := h
  rcases q with q | q
  · exact cd_len hw hK pins s σ H vs us kk I r ⟨F1, M, ds, Q, S, r1, q, kQ⟩
  obtain ⟨K0, U⟩ := g
  simp only at hK
  subst hK
  cases q with
  | mk o1 q =>
    cases r1 with
    | cons r1 rn =>
      cases rn
      obtain ⟨a, dx, kvs, rfl, ha, _⟩ := o1.to S r1
      cases r with
      | cons rx rr =>
        cases rr
        obtain rfl : _ = Value.ref a := rx
        obtain ⟨mA, J, _⟩ := ins_get I.hok ha
        obtain ⟨od, J, _⟩ := J.look
        obtain ⟨m, hF⟩ := I.fr
        refine PySem.W.len_K hF I.ok.mod.kin J o.at_ o.fn ?_
        refine run_own (vs := [.ref a]) (A := X.A.in1) (kk := fun v H' => ∃ n : Nat, v = .int (n : Nat) ∧ n < 2 ^ 62 ∧ kk v H') F hr.in1 I.env0.in1 I (.cons rfl .nil) S (.cons r1 .nil) q (fun d M' F' v H' ⟨n, ez, hn, z⟩ s S' r => ?_) fun v u H' s' I' rv ⟨n, ev, hn, z⟩ => ?_
        · subst ez
          have z' := kQ _ M' F' v H' z s S' r
          cases r
          exact ⟨n, rfl, hn, z'⟩
        · subst ev
          obtain ⟨t, rfl⟩ := (show ∃ t, u = Value.int _ t from rv)
          exact ⟨⟨by omega, by omega⟩, .int (n : Nat), H', I'.tok _, ⟨_, rfl⟩, z⟩
/-- x in o -/
def rInO (neg : Bool) (C : Addr) (sd : SpD) : DR2 := fun d e M Q => ∃ es, IsO M e C es ∧ sd [e, d] M (fun z M' => ∃ b, z = .bl b ∧ Q (.bl (b != neg)) M') noE
theorem od_inO {k : Nat} {C fa : Addr} {sd : SpD} (o : OwnOp X.K C fa "__contains__") (F : FnD X.prog X.w X.K X.mg X.base k fa sd) (hr : Room k X.A) (hK : g.K = X.K) : OpD X g (compareOp .In) (rInO false C sd) := by
  intro pins s σ H x y v u kk I rx ry h
  obtain ⟨F1, M, d, e, Q, S, r1, r2, ⟨es, o1, q⟩, kQ⟩ := h
  obtain ⟨K0, U⟩ := g
  simp only at hK
  subst hK
  obtain ⟨a, dx, kvs, rfl, ha, _⟩ := o1.to S r2
  obtain rfl : u = Value.ref a := ry
  obtain ⟨mA, J, _⟩ := ins_get I.hok ha
  obtain ⟨od, J, _⟩ := J.look
  obtain ⟨m, hF⟩ := I.fr
  refine PySem.W.in_K hF I.ok.mod.kin J o.at_ o.fn ?_
  refine run_own (vs := [.ref a, x]) (kk := fun v H' => ∃ b, v = .bl b ∧ kk (.bl b) H') F hr I.env0 I (.cons rfl (.cons rx .nil)) S (.cons r2 (.cons r1 .nil)) q (fun d M' F' v H' ⟨b, ez, z⟩ s S' r => ?_) fun v u H' s' I' rv ⟨b, ev, z⟩ => ?_
  · subst ez
    rw [ne_false] at z
    cases r
    exact ⟨b, rfl, kQ _ M' F' _ H' z s S' (.bl _)⟩
  · subst ev
    obtain rfl : u = Value.bool b := rv
    exact wpAny_truthy_bool ⟨.bl b, H', I', rfl, z⟩
end
end DL
namespace DL
variable [Wd]
open PySem L2 PySem.Spec PyProof.Rows
section
variable {M : Mem} {K : PySem.W.Frag} {ds : List D} {Qd : D → Mem → Prop} {Ed : XD}
end
end DL
namespace DL
variable [Wd]
open PySem L2 PySem.Spec PyProof.Rows
/-! ### more steps -/
section
variable {ρ : Rho} {M : Mem} {E : XD} {K : PySem.W.Frag}
theorem g_prop {C : Addr} {sd : SpD} {de : DE} {Q : D → Mem → Prop} (q : de ρ M (fun d M1 => ∃ es, IsO M1 d C es ∧ sd [d] M1 Q noE) E) : dProp C sd de ρ M Q E := q
theorem g_star {de : DE} {dA : DA} {Q : List D → Mem → Prop} (q : de ρ M (fun d M1 => ∃ xs, IsS M1 d xs ∧ dA ρ M1 (fun ds M2 => Q (xs ++ ds) M2) E) E) : dStar de dA ρ M Q E := q
theorem atI3 {α : Type} {x y z w : α} {xs : List α} : atI (x :: y :: z :: w :: xs) 3 = some w := atI_nat' (j := 3) rfl rfl
end
end DL
local macro_rules | `(tactic| walk_at "dl") => `(tactic| repeat (first | (with_reducible first | refine DL.g_seq ?_ | refine DL.g_asg ?_ | refine DL.g_sif ?_ | refine DL.g_ret ?_ | refine DL.g_retN ?_ | refine DL.g_drop ?_ | refine DL.g_next ?_ | refine DL.g_cont ?_ | refine DL.g_brk ?_ | refine DL.g_sfor ?_ | refine DL.g_op ?_ | refine DL.g_c ?_ | refine DL.g_nil ?_ | refine DL.g_cons ?_ | refine DL.g_cb ?_ | refine DL.g_call ?_ | refine DL.g_tup ?_ | refine DL.g_lst ?_ | refine DL.g_B ?_ | refine DL.g_not ?_ | refine DL.g_and ?_ | refine DL.g_or ?_ | refine DL.g_if ?_ | refine DL.g_bl ?_ | refine DL.g_in ?_ | refine DL.g_nm ?_ | refine DL.g_fld ?_ | refine DL.IntB.int ?_ | refine DL.AddR.int ?_ | refine DL.SubR.int ?_ | refine DL.EqR.int ?_ | refine DL.EqR.str ?_ | refine DL.EqR.bl ?_ | refine DL.IntC.int ?_ | refine DL.IsR.non ?_ | refine DL.g_lc ?_ | refine DL.g_lc2 ?_ | refine DL.g_dc ?_ | refine DL.g_iany ?_ | refine DL.g_iitm ?_ | refine DL.g_irg1 ?_ | refine DL.g_sl ?_ | refine DL.g_onone ?_ | refine DL.g_osome ?_ | refine DL.g_con ?_ | refine DL.g_bm ?_ | refine DL.g_andV ?_ | refine DL.g_orV ?_ | refine DL.g_notV ?_ | refine DL.g_make ?_ | refine DL.g_meth ?_ | refine DL.g_listint ?_ | refine DL.g_fldS ?_ | refine DL.g_gsub ?_ | refine DL.g_zK ?_ | refine DL.g_try ?_ | refine DL.g_prop ?_ | refine DL.g_propS ?_ | refine DL.g_star ?_ | refine DL.g_xf ?_) | (refine DL.g_var (by first | assumption | rfl) ?_)))
namespace DL
variable [Wd]
open PySem L2 PySem.Spec PyProof.Rows
end DL
namespace DL
variable [Wd]
open PySem L2 PySem.Spec PyProof.Rows
end DL
namespace DL
variable [Wd]
open PySem L2 PySem.Spec PyProof.Rows
/-! ### a made grammar and its methods -/
section
variable {M : Mem} {K : PySem.W.Frag} {ds : List D} {Qd : D → Mem → Prop} {Ed : XD}
section
variable {cG cU : Addr} {g : D} {xs : List Str} {rs : List Kd} {root : Option Str} {S : Tab} {x : Str}
end
end
end DL
namespace DL
variable [Wd]
open PySem L2 PySem.Spec PyProof.Rows
/-! ### the kinds that a law draws -/
section
variable {M : Mem} {K : PySem.W.Frag} {ds : List D} {Qd : D → Mem → Prop} {Ed : XD}
/-- a comprehension whose values change what stands -/
theorem lc_chg {α : Type} {ρ : Rho} {st : Mem → Prop} {de : DE} {j : Nat} {Q : List D → Mem → Prop} (g : α → D) (I : List D → Mem → Prop) (hst : ∀ acc M, I acc M → st M) : ∀ {xs done : List α} {acc : List D} {M : Mem}, acc.length = done.length →
    (∀ i x acc M, (done ++ xs)[i]? = some x → acc.length = i → I acc M → ∀ P1 : D → Mem → Prop, (∀ d M', I (acc ++ [d]) M' → P1 d M') → de (put ρ j (some (g x))) M P1 noE) → (∀ acc M, acc.length = (done ++ xs).length → I acc M → Q acc M) → I acc M → goC (.nm j) dYes de st ρ Q (xs.map g) acc M
  | [], done, acc, M, hl, _, hd, h0 => ⟨hst _ _ h0, hd _ _ (by rw [List.append_nil]; exact hl) h0⟩
  | x :: xs, done, acc, M, hl, hs, hd, h0 => by
    have e : done ++ x :: xs = (done ++ [x]) ++ xs := by simp
    have key : de (put ρ j (some (g x))) M (fun d M3 => goC (.nm j) dYes de st ρ Q (xs.map g) (acc ++ [d]) M3) noE :=
      hs done.length x acc M (by simp) hl h0 _ fun d M' h' => lc_chg g I hst (done := done ++ [x]) (by simp [hl]) (by rw [← e]; exact hs) (by rw [← e]; exact hd) h'
    exact ⟨hst _ _ h0, @g_t _ _ (goC (.nm j) dYes de st ρ Q (xs.map g) acc M) key⟩
theorem cut_low {α : Type} (f : α → D) (xs : List α) (n : Nat) : DL.cutD (xs.map f) (some (n : Int)) none = (xs.drop n).map f := by
  unfold DL.cutD
  rw [HT.sIx_nat, show HT.sIx (xs.map f).length (xs.map f).length none = (xs.map f).length from rfl, List.length_map, List.map_drop]
  by_cases h : n ≤ xs.length
  · rw [Nat.min_eq_left h, List.take_of_length_le (by rw [List.length_drop, List.length_map]; omega)]
  · rw [Nat.min_eq_right (by omega), List.drop_of_length_le (by rw [List.length_map]; omega), List.drop_of_length_le (by rw [List.length_map]; omega), List.take_nil]
end
end DL
namespace DL
variable [Wd]
open PySem L2 PySem.Spec PyProof.Rows
/-! ### helpers of the laws -/
section
variable {ρ : Rho} {M : Mem} {E : XD} {K : PySem.W.Frag}
theorem ne_free {x : Addr} (hx : Free x M) {b : Addr} {m : MO} (h : (b, m) ∈ M) : b ≠ x := fun e => hx m (by rw [← e]; exact h)
theorem src_ne {p c x : Addr} {b : Nat} (S : Src p c b M) (hx : Free x M) : p ≠ x ∧ c ≠ x := by
  obtain ⟨_, _, _, _, _, h1, h2, _⟩ := S.ex
  exact ⟨ne_free hx h1, ne_free hx h2⟩
/-- what was made and frozen leaves all as it was -/
theorem fr_gone {x : Addr} {m : MO} {M' M'' : Mem} (f : Fr [x] ((x, m) :: M) M') (hx : Free x M) (u : Fr [x] M' M'') : Fr [] M M'' := fun a z _ hz => u _ _ (not_mem1 (ne_free hx hz)) (f _ _ (not_mem1 (ne_free hx hz)) (List.mem_cons_of_mem _ hz))
theorem src_more {p c : Addr} {b : Nat} {M' : Mem} (S : Src p c b M) (f : Fr [] M M') : Src p c b M' := S.fr f (by simp) (by simp)
theorem strs_ok' {n : Nat} {xs : List Str} (h : ∀ x ∈ xs, PyData.strOk x = true) : okD (n + 1) (.lst (xs.map .str)) = true := by
  show (xs.map D.str).all (okD n) = true
  rw [List.all_map, List.all_eq_true]
  intro x hx
  cases n <;> exact h x hx
theorem strs_ok'' {n : Nat} {xs : List Str} (h : ∀ x ∈ xs, PyData.strOk x = true) : okD (n + 1) (.tup (xs.map .str)) = true := strs_ok' h
/-- after a test both ways lead on -/
theorem g_join {k : Bool} {t u : DS} {nx : NX} {rt : D → Mem → Prop} {bk ct : NX} {ex : Addr → Addr → Rho → Mem → Prop} (C : Rho → Mem → Prop) (ht : ∀ nx' : NX, (∀ ρ' M', C ρ' M' → nx' ρ' M') → if k = true then t nx' rt bk ct ex ρ M else u nx' rt bk ct ex ρ M) (hn : ∀ ρ' M', C ρ' M' → nx ρ' M') : if k = true then t nx rt bk ct ex ρ M else u nx rt bk ct ex ρ M := ht nx hn
end
end DL
local macro_rules | `(tactic| walk_at "dl") => `(tactic| repeat (first | (with_reducible first | refine DL.g_seq ?_ | refine DL.g_asg ?_ | refine DL.g_sif ?_ | refine DL.g_ret ?_ | refine DL.g_retN ?_ | refine DL.g_drop ?_ | refine DL.g_next ?_ | refine DL.g_cont ?_ | refine DL.g_brk ?_ | refine DL.g_sfor ?_ | refine DL.g_op ?_ | refine DL.g_c ?_ | refine DL.g_nil ?_ | refine DL.g_cons ?_ | refine DL.g_cb ?_ | refine DL.g_call ?_ | refine DL.g_tup ?_ | refine DL.g_lst ?_ | refine DL.g_B ?_ | refine DL.g_not ?_ | refine DL.g_and ?_ | refine DL.g_or ?_ | refine DL.g_if ?_ | refine DL.g_bl ?_ | refine DL.g_in ?_ | refine DL.g_nm ?_ | refine DL.g_fld ?_ | refine DL.IntB.int ?_ | refine DL.AddR.int ?_ | refine DL.SubR.int ?_ | refine DL.EqR.int ?_ | refine DL.EqR.str ?_ | refine DL.EqR.bl ?_ | refine DL.IntC.int ?_ | refine DL.IsR.non ?_ | refine DL.g_lc ?_ | refine DL.g_lc2 ?_ | refine DL.g_dc ?_ | refine DL.g_iany ?_ | refine DL.g_iitm ?_ | refine DL.g_irg1 ?_ | refine DL.g_sl ?_ | refine DL.g_onone ?_ | refine DL.g_osome ?_ | refine DL.g_con ?_ | refine DL.g_bm ?_ | refine DL.g_andV ?_ | refine DL.g_orV ?_ | refine DL.g_notV ?_ | refine DL.g_make ?_ | refine DL.g_meth ?_ | refine DL.g_listint ?_ | refine DL.g_fldS ?_ | refine DL.g_gsub ?_ | refine DL.g_zK ?_ | refine DL.g_try ?_ | refine DL.g_prop ?_ | refine DL.g_propS ?_ | refine DL.g_star ?_ | refine DL.g_xf ?_ | refine DL.g_makeK ?_ | refine DL.g_ival ?_ | refine DL.g_ien ?_ | refine DL.g_irg2 ?_) | (refine DL.g_var (by first | assumption | rfl) ?_)))
namespace DL
variable [Wd]
open PySem L2 PySem.Spec PyProof.Rows
end DL
namespace DL
variable [Wd]
open PySem L2 PySem.Spec PyProof.Rows
/-! ### grammars that are not refused -/
section
variable {M : Mem} {K : PySem.W.Frag}
end
end DL
namespace DL
variable [Wd]
open PySem L2 PySem.Spec PyProof.Rows
/-! ### statements and bodies, as the laws draw them -/
section
variable {M : Mem} {K : PySem.W.Frag} {ds : List D} {Qd : D → Mem → Prop} {Ed : XD}
theorem draw_nat {p c : Addr} {many : Int} {n b : Nat} {Q : D → Mem → Prop} {E : XD} (hm : many = (n : Int)) (h0 : 0 < n) (h1 : n < 1000) (nd : Nd M) (hb : b < 100000000) (S : Src p c b M) (k : ∀ (r : Nat) M', r < n → Nd M' → Src p c (b + 1) M' → Fr [p, c] M M' → Q (.int (r : Nat)) M') : spDraw [.ptr p, .int many] M Q E := by
  refine spDraw_of (by omega) (by omega) nd hb S fun r M' a1 a2 nd' S' f' => ?_
  have := k r.toNat M' (by omega) nd' S' f'
  rwa [Int.toNat_of_nonneg a1] at this
theorem ix_map {α : Type} {Q : D → Mem → Prop} (f : α → D) {xs : List α} {i : Nat} (h : i < xs.length) (q : Q (f xs[i]) M) : IxQ M Q (.lst (xs.map f)) (.int (i : Nat)) := ixq_lst (atI_nat' (j := i) (x := f xs[i]) rfl (by rw [List.getElem?_map]; simp [h])) q
theorem rng_at {lo : Int} {n k : Nat} {d : D} (h : (rng lo n)[k]? = some d) : k < n ∧ d = .int (lo + (k : Int)) := by
  unfold rng at h
  have hlt := (List.getElem?_eq_some_iff.mp h).1
  rw [List.length_map, List.length_range] at hlt
  rw [List.getElem?_map, List.getElem?_range hlt] at h
  exact ⟨hlt, (Option.some.inj h).symm⟩
theorem rng_len {lo : Int} {n : Nat} : (rng lo n).length = n := by unfold rng; rw [List.length_map, List.length_range]
end
end DL
namespace DL
variable [Wd]
open PySem L2 PySem.Spec PyProof.Rows
/-! ### _law_body -/
section
variable {M : Mem} {K : PySem.W.Frag} {ds : List D} {Qd : D → Mem → Prop} {Ed : XD}
section
variable {p c h : Addr} {fs ns : List Str} {w b b' n : Nat} {bd : List Stm} {M0 M' : Mem}
end
end
end DL
namespace DL
variable [Wd]
open PySem L2 PySem.Spec PyProof.Rows
/-! ### walks, as the laws draw them -/
section
variable {M : Mem} {K : PySem.W.Frag} {ds : List D} {Qd : D → Mem → Prop} {Ed : XD}
end
end DL
namespace DL
variable [Wd]
open PySem L2 PySem.Spec PyProof.Rows
/-! ### rows, systems, and what is handed to Program -/
section
variable {M : Mem} {K : PySem.W.Frag} {ds : List D} {Qd : D → Mem → Prop} {Ed : XD}
end
end DL
namespace DL
variable [Wd]
open PySem L2 PySem.Spec PyProof.Rows
/-! ### the checks of a program's bodies -/
section
variable {M : Mem} {K : PySem.W.Frag} {ds : List D} {Qd : D → Mem → Prop} {Ed : XD}
end
end DL
namespace DL
variable [Wd]
open PySem L2 PySem.Spec PyProof.Rows
/-! ### programs -/
section
variable {M : Mem} {K : PySem.W.Frag} {ds : List D} {Qd : D → Mem → Prop} {Ed : XD}
end
end DL
namespace DL
variable [Wd]
open PySem L2 PySem.Spec PyProof.Rows
/-! ### batches, steps, items -/
section
variable {M : Mem} {K : PySem.W.Frag} {ds : List D} {Qd : D → Mem → Prop} {Ed : XD}
end
end DL
namespace DL
variable [Wd]
open PySem L2 PySem.Spec PyProof.Rows
section
variable {M : Mem} {K : PySem.W.Frag} {ds : List D} {Qd : D → Mem → Prop} {Ed : XD}
end
end DL
namespace DL
variable [Wd]
open PySem L2 PySem.Spec PyProof.Rows
/-! ### max(i, j), d.clear(), xs.count(text) -/
section
variable {X : Cx} {g : G}
end
end DL
namespace DL
variable [Wd]
open PySem L2 PySem.Spec PyProof.Rows
end DL
namespace DL
variable [Wd]
open PySem L2 PySem.Spec PyProof.Rows
end DL
namespace DL
variable [Wd]
open PySem L2 PySem.Spec PyProof.Rows
/-! ### _law_sizes of law k02 -/
section
variable {M : Mem} {K : PySem.W.Frag} {ds : List D} {Qd : D → Mem → Prop} {Ed : XD}
end
end DL
namespace DL
variable [Wd]
open PySem L2 PySem.Spec PyProof.Rows
/-! ### for c in a text -/
section
variable {X : Cx} {g : G} {W : WX} {tg e : Expr} {de : DE}
end
end DL
local macro_rules | `(tactic| walk_at "dl") => `(tactic| repeat (first | (with_reducible first | refine DL.g_seq ?_ | refine DL.g_asg ?_ | refine DL.g_sif ?_ | refine DL.g_ret ?_ | refine DL.g_retN ?_ | refine DL.g_drop ?_ | refine DL.g_next ?_ | refine DL.g_cont ?_ | refine DL.g_brk ?_ | refine DL.g_sfor ?_ | refine DL.g_op ?_ | refine DL.g_c ?_ | refine DL.g_nil ?_ | refine DL.g_cons ?_ | refine DL.g_cb ?_ | refine DL.g_call ?_ | refine DL.g_tup ?_ | refine DL.g_lst ?_ | refine DL.g_B ?_ | refine DL.g_not ?_ | refine DL.g_and ?_ | refine DL.g_or ?_ | refine DL.g_if ?_ | refine DL.g_bl ?_ | refine DL.g_in ?_ | refine DL.g_nm ?_ | refine DL.g_fld ?_ | refine DL.IntB.int ?_ | refine DL.AddR.int ?_ | refine DL.SubR.int ?_ | refine DL.EqR.int ?_ | refine DL.EqR.str ?_ | refine DL.EqR.bl ?_ | refine DL.IntC.int ?_ | refine DL.IsR.non ?_ | refine DL.g_lc ?_ | refine DL.g_lc2 ?_ | refine DL.g_dc ?_ | refine DL.g_iany ?_ | refine DL.g_iitm ?_ | refine DL.g_irg1 ?_ | refine DL.g_sl ?_ | refine DL.g_onone ?_ | refine DL.g_osome ?_ | refine DL.g_con ?_ | refine DL.g_bm ?_ | refine DL.g_andV ?_ | refine DL.g_orV ?_ | refine DL.g_notV ?_ | refine DL.g_make ?_ | refine DL.g_meth ?_ | refine DL.g_listint ?_ | refine DL.g_fldS ?_ | refine DL.g_gsub ?_ | refine DL.g_zK ?_ | refine DL.g_try ?_ | refine DL.g_prop ?_ | refine DL.g_propS ?_ | refine DL.g_star ?_ | refine DL.g_xf ?_ | refine DL.g_makeK ?_ | refine DL.g_ival ?_ | refine DL.g_ien ?_ | refine DL.g_irg2 ?_ | refine DL.g_itxt ?_) | (refine DL.g_var (by first | assumption | rfl) ?_)))
namespace DL
variable [Wd]
open PySem L2 PySem.Spec PyProof.Rows
end DL
namespace DL
variable [Wd]
open PySem L2 PySem.Spec PyProof.Rows
/-! ### _law_due of law k02 -/
section
variable {M : Mem} {K : PySem.W.Frag} {ds : List D} {Qd : D → Mem → Prop} {Ed : XD}
end
end DL
namespace DL
variable [Wd]
open PySem L2 PySem.Spec PyProof.Rows
section
variable {M : Mem} {K : PySem.W.Frag} {ds : List D} {Qd : D → Mem → Prop} {Ed : XD}
end
end DL
namespace DL
variable [Wd]
open PySem L2 PySem.Spec PyProof.Rows
section
variable {α β : Type} [DecidableEq α]
end
section
variable {α β : Type} [DecidableEq α] {M : Mem}
end
section
variable {M : Mem} {K : PySem.W.Frag} {ds : List D} {Qd : D → Mem → Prop} {Ed : XD}
end
end DL
namespace DL
variable [Wd]
open PySem L2 PySem.Spec PyProof.Rows
/-! ### the events of a batch's steps -/
section
variable {M : Mem} {K : PySem.W.Frag} {ds : List D} {Qd : D → Mem → Prop} {Ed : XD}
end
end DL
namespace DL
variable [Wd]
open PySem L2 PySem.Spec PyProof.Rows
section
variable {M : Mem} {K : PySem.W.Frag} {ds : List D} {Qd : D → Mem → Prop} {Ed : XD}
end
end DL
namespace DL
variable [Wd]
open PySem L2 PySem.Spec PyProof.Rows
/-! ### the ignored fields of a program -/
section
variable {M : Mem} {K : PySem.W.Frag} {ds : List D} {Qd : D → Mem → Prop} {Ed : XD}
/-- [e for x in xs for y in ys if t] -/
theorem goC2i_if {α : Type} {j1 : Nat} {dt1 : DT} {de : DE} (g f : α → D) (p : α → Bool) {st1 : Mem → Prop} {ρ1 : Rho} {Q : List D → Mem → Prop} (hst : st1 M) : ∀ {ys : List α} {acc : List D}, acc.length + ys.length < sizeLine → (∀ y ∈ ys, (∀ P : Bool → Mem → Prop, P (p y) M → dt1 (put ρ1 j1 (some (g y))) M P noE) ∧ (p y = true → ∀ P1 : D → Mem → Prop, P1 (f y) M → de (put ρ1 j1 (some (g y))) M P1 noE)) → Q (acc ++ (ys.filter p).map f) M → goC2i (.nm j1) dt1 de st1 ρ1 Q (ys.map g) acc M
  | [], acc, _, _, hQ => ⟨hst, by simpa using hQ⟩
  | y :: ys, acc, hl, h, hQ => by
    have hl' : acc.length + (ys.length + 1) < sizeLine := hl
    obtain ⟨a1, a2⟩ := h y List.mem_cons_self
    refine ⟨hst, by omega, a1 _ ?_⟩
    cases e : p y with
    | true =>
      rw [List.filter_cons, if_pos e] at hQ
      rw [if_pos rfl]
      exact a2 e _ (goC2i_if g f p hst (by rw [List.length_append]; simp; omega) (fun z hz => h z (List.mem_cons_of_mem _ hz)) (by simpa using hQ))
    | false =>
      rw [List.filter_cons, if_neg (by rw [e]; exact Bool.false_ne_true)] at hQ
      rw [if_neg Bool.false_ne_true]
      exact goC2i_if g f p hst (by omega) (fun z hz => h z (List.mem_cons_of_mem _ hz)) hQ
end
end DL
namespace DL
variable [Wd]
open PySem L2 PySem.Spec PyProof.Rows
/-! ### the law's own run of a batch on a node and its children -/
section
variable {M : Mem} {K : PySem.W.Frag} {ds : List D} {Qd : D → Mem → Prop} {Ed : XD}
end
end DL
namespace DL
variable [Wd]
open PySem L2 PySem.Spec PyProof.Rows
section
variable {M : Mem} {K : PySem.W.Frag} {ds : List D} {Qd : D → Mem → Prop} {Ed : XD}
end
end DL
namespace DL
variable [Wd]
open PySem L2 PySem.Spec PyProof.Rows
section
variable {M : Mem} {K : PySem.W.Frag} {ds : List D} {Qd : D → Mem → Prop} {Ed : XD}
end
end DL
namespace DL
variable [Wd]
open PySem L2 PySem.Spec PyProof.Rows
section
variable {M : Mem} {K : PySem.W.Frag} {ds : List D} {Qd : D → Mem → Prop} {Ed : XD}
end
end DL
namespace DL
variable [Wd]
open PySem L2 PySem.Spec PyProof.Rows
/-! ### which comes before which -/
section
variable {α β : Type}
end
end DL
namespace DL
variable [Wd]
open PySem L2 PySem.Spec PyProof.Rows
section
variable {M : Mem} {K : PySem.W.Frag} {ds : List D} {Qd : D → Mem → Prop} {Ed : XD}
end
end DL
namespace DL
variable [Wd]
open PySem L2 PySem.Spec PyProof.Rows
/-! ### a dict comprehension that a name gets -/
section
variable {X : Cx}
end
section
variable {X : Cx} {g : G} {W : WX} {pos : Pos} {dt : DT} {dk dv : DE}
end
end DL
namespace DL
variable [Wd]
open PySem L2 PySem.Spec PyProof.Rows
section
variable {X : Cx} {g : G} {W : WX} {pos p : Pos} {a e : Expr} {de dh : DE}
end
end DL
local macro_rules | `(tactic| walk_at "dl") => `(tactic| repeat (first | (with_reducible first | refine DL.g_seq ?_ | refine DL.g_asg ?_ | refine DL.g_sif ?_ | refine DL.g_ret ?_ | refine DL.g_retN ?_ | refine DL.g_drop ?_ | refine DL.g_next ?_ | refine DL.g_cont ?_ | refine DL.g_brk ?_ | refine DL.g_sfor ?_ | refine DL.g_op ?_ | refine DL.g_c ?_ | refine DL.g_nil ?_ | refine DL.g_cons ?_ | refine DL.g_cb ?_ | refine DL.g_call ?_ | refine DL.g_tup ?_ | refine DL.g_lst ?_ | refine DL.g_B ?_ | refine DL.g_not ?_ | refine DL.g_and ?_ | refine DL.g_or ?_ | refine DL.g_if ?_ | refine DL.g_bl ?_ | refine DL.g_in ?_ | refine DL.g_nm ?_ | refine DL.g_fld ?_ | refine DL.IntB.int ?_ | refine DL.AddR.int ?_ | refine DL.SubR.int ?_ | refine DL.EqR.int ?_ | refine DL.EqR.str ?_ | refine DL.EqR.bl ?_ | refine DL.IntC.int ?_ | refine DL.IsR.non ?_ | refine DL.g_lc ?_ | refine DL.g_lc2 ?_ | refine DL.g_dc ?_ | refine DL.g_iany ?_ | refine DL.g_iitm ?_ | refine DL.g_irg1 ?_ | refine DL.g_sl ?_ | refine DL.g_onone ?_ | refine DL.g_osome ?_ | refine DL.g_con ?_ | refine DL.g_bm ?_ | refine DL.g_andV ?_ | refine DL.g_orV ?_ | refine DL.g_notV ?_ | refine DL.g_make ?_ | refine DL.g_meth ?_ | refine DL.g_listint ?_ | refine DL.g_fldS ?_ | refine DL.g_gsub ?_ | refine DL.g_zK ?_ | refine DL.g_try ?_ | refine DL.g_prop ?_ | refine DL.g_propS ?_ | refine DL.g_star ?_ | refine DL.g_xf ?_ | refine DL.g_makeK ?_ | refine DL.g_ival ?_ | refine DL.g_ien ?_ | refine DL.g_irg2 ?_ | refine DL.g_itxt ?_ | refine DL.g_neg ?_) | (refine DL.g_var (by first | assumption | rfl) ?_)))
namespace DL
variable [Wd]
open PySem L2 PySem.Spec PyProof.Rows
end DL
namespace DL
variable [Wd]
open PySem L2 PySem.Spec PyProof.Rows
end DL
namespace DL
variable [Wd]
open PySem L2 PySem.Spec PyProof.Rows
/-! ### walks, distances, the order of what is ready -/
section
variable {α : Type} {R : α → α → Prop}
end
end DL
namespace DL
variable [Wd]
open PySem L2 PySem.Spec PyProof.Rows
section
variable {M : Mem} {K : PySem.W.Frag} {ds : List D} {Qd : D → Mem → Prop} {Ed : XD}
section
variable {β : Type} {v : β → D} {t : List (Item × β)} {a : Item} {b : β} {d : D} {Q : D → Mem → Prop}
end
end
end DL
namespace DL
variable [Wd]
open PySem L2 PySem.Spec PyProof.Rows
/-! ### the search for a way round, level by level -/
section
variable {α : Type} [DecidableEq α] {R : α → α → Prop} {s : α}
end
end DL
namespace DL
variable [Wd]
open PySem L2 PySem.Spec PyProof.Rows
section
variable {M : Mem} {K : PySem.W.Frag} {ds : List D} {Qd : D → Mem → Prop} {Ed : XD}
end
end DL
namespace DL
variable [Wd]
open PySem L2 PySem.Spec PyProof.Rows
section
variable {M : Mem} {K : PySem.W.Frag} {ds : List D} {Qd : D → Mem → Prop} {Ed : XD}
end
end DL
namespace DL
variable [Wd]
open PySem L2 PySem.Spec PyProof.Rows
section
variable {M : Mem} {K : PySem.W.Frag} {ds : List D} {Qd : D → Mem → Prop} {Ed : XD}
end
end DL
namespace DL
variable [Wd]
open PySem L2 PySem.Spec PyProof.Rows
/-! ### xs.count(x), x of any depth -/
section
variable {X : Cx} {g : G}
end
end DL
namespace DL
variable [Wd]
open PySem L2 PySem.Spec PyProof.Rows
section
variable {M : Mem} {K : PySem.W.Frag} {ds : List D} {Qd : D → Mem → Prop} {Ed : XD}
end
end DL
namespace DL
variable [Wd]
open PySem L2 PySem.Spec PyProof.Rows
section
variable {M : Mem} {K : PySem.W.Frag} {ds : List D} {Qd : D → Mem → Prop} {Ed : XD}
end
end DL
namespace DL
variable [Wd]
open PySem L2 PySem.Spec PyProof.Rows
/-! ### far -/
section
variable {R : Item → Item → Prop} {its : List Item} {ps : List (Item × Item)} {s : Item}
end
end DL
namespace DL
variable [Wd]
open PySem L2 PySem.Spec PyProof.Rows
section
variable {M : Mem} {K : PySem.W.Frag} {ds : List D} {Qd : D → Mem → Prop} {Ed : XD}
end
end DL
namespace DL
variable [Wd]
open PySem L2 PySem.Spec PyProof.Rows
end DL
namespace DL
variable [Wd]
open PySem L2 PySem.Spec PyProof.Rows
/-! ### chains -/
section
variable {R : Item → Item → Prop}
end
section
variable {M : Mem} {K : PySem.W.Frag} {ds : List D} {Qd : D → Mem → Prop} {Ed : XD}
end
end DL
namespace DL
variable [Wd]
open PySem L2 PySem.Spec PyProof.Rows
section
variable {M : Mem} {K : PySem.W.Frag} {ds : List D} {Qd : D → Mem → Prop} {Ed : XD}
end
end DL
namespace DL
variable [Wd]
open PySem L2 PySem.Spec PyProof.Rows
/-! ### list(x) of a list or a tuple, in an except clause too -/
section
variable {X : Cx} {g : G}
end
end DL
namespace DL
variable [Wd]
open PySem L2 PySem.Spec PyProof.Rows
section
variable {X : Cx} {g : G}
end
end DL
namespace DL
variable [Wd]
open PySem L2 PySem.Spec PyProof.Rows
section
variable {M : Mem} {K : PySem.W.Frag} {ds : List D} {Qd : D → Mem → Prop} {Ed : XD}
end
end DL
namespace DL
variable [Wd]
open PySem L2 PySem.Spec PyProof.Rows
end DL
namespace DL
variable [Wd]
open PySem L2 PySem.Spec PyProof.Rows
section
variable {M : Mem}
theorem goC2i_N {β : Type} {i : Nat} {de : DE} (g f : β → D) {st1 : Mem → Prop} {ρ1 : Rho} {Q : List D → Mem → Prop} (hst : st1 M) : ∀ {ys : List β} {acc : List D}, acc.length + ys.length < sizeLine → (∀ y ∈ ys, ∀ P1 : D → Mem → Prop, P1 (f y) M → de (put ρ1 i (some (g y))) M P1 noE) → Q (acc ++ ys.map f) M → goC2i (.nm i) dYes de st1 ρ1 Q (ys.map g) acc M
  | [], acc, _, _, hQ => ⟨hst, by simpa using hQ⟩
  | y :: ys, acc, hl, h, hQ => by
    have hl' : acc.length + (ys.length + 1) < sizeLine := hl
    have key : de (put ρ1 i (some (g y))) M (fun e M3 => goC2i (.nm i) dYes de st1 ρ1 Q (ys.map g) (acc ++ [e]) M3) noE :=
      h y List.mem_cons_self _ (goC2i_N g f hst (by rw [List.length_append]; simp; omega) (fun z hz => h z (List.mem_cons_of_mem _ hz)) (by simpa using hQ))
    exact ⟨hst, by omega, @g_t _ _ (goC2i (.nm i) dYes de st1 ρ1 Q (ys.map g) acc M) key⟩
/-- [e for x in xs for y in ys] -/
theorem lc2_N {α β : Type} {j i : Nat} {di1 : DI} {de : DE} {vs1 : List Nat} {st : Mem → Prop} {ρ : Rho} (g : α → D) (ys : α → List β) (g1 : β → D) (f : α → β → D) {Q : List D → Mem → Prop} (hst : st M) : ∀ {xs : List α} {acc : List D}, acc.length + (xs.flatMap fun x => (ys x).map (f x)).length < sizeLine →
    (∀ x ∈ xs, (∀ R : List D → (Mem → Prop) → Mem → Prop, (∀ st1 : Mem → Prop, st1 M → R ((ys x).map g1) st1 M) → di1 (put ρ j (some (g x))) M R noE) ∧ ∀ y ∈ ys x, ∀ P1 : D → Mem → Prop, P1 (f x y) M → de (put (wipeD (put ρ j (some (g x))) vs1) i (some (g1 y))) M P1 noE) →
    Q (acc ++ xs.flatMap fun x => (ys x).map (f x)) M → goC2 (.nm j) dYes di1 (.nm i) dYes de vs1 st ρ Q (xs.map g) acc M
  | [], acc, _, _, hQ => ⟨hst, by simpa using hQ⟩
  | x :: xs, acc, hl, h, hQ => by
    rw [List.flatMap_cons] at hQ hl
    rw [List.length_append, List.length_map] at hl
    obtain ⟨h1, h2⟩ := h x List.mem_cons_self
    have key : di1 (put ρ j (some (g x))) M (fun its1 st1 M3 => goC2i (.nm i) dYes de st1 (wipeD (put ρ j (some (g x))) vs1) (fun acc' M4 => goC2 (.nm j) dYes di1 (.nm i) dYes de vs1 st ρ Q (xs.map g) acc' M4) its1 acc M3) noE :=
      h1 _ fun st1 hs1 => goC2i_N g1 (f x) hs1 (by omega) h2 (lc2_N g ys g1 f hst (by rw [List.length_append, List.length_map]; omega) (fun z hz => h z (List.mem_cons_of_mem _ hz)) (by rw [List.append_assoc]; exact hQ))
    exact ⟨hst, @g_t _ _ (goC2 (.nm j) dYes di1 (.nm i) dYes de vs1 st ρ Q (xs.map g) acc M) key⟩
end
def grpD (b : Bool × List Str) : D := if b.1 then .lst (b.2.map .str) else .tup (b.2.map .str)
def tpl (g : List Str) : D := .tup (g.map .str)
def planE (gs : List (List Str)) : List (Str × D) := [("_groups", .tup (gs.map tpl))]
def planD (c : Addr) (gs : List (List Str)) : D := .obj c (planE gs)
def full (g : List Str) : Bool := decide (0 < g.length)
theorem eqDs_str : ∀ xs ys : List Str, eqDs (xs.map .str) (ys.map .str) = decide (xs = ys)
  | [], [] => rfl
  | [], _ :: _ => rfl
  | _ :: _, [] => rfl
  | x :: xs, y :: ys => by
    show (eqD (.str x) (.str y) && eqDs (xs.map .str) (ys.map .str)) = _
    rw [eqDs_str]
    show ((x == y) && _) = _
    by_cases e : x = y <;> by_cases f : xs = ys <;> simp [e, f]
theorem eqDs_tpl : ∀ xs ys : List (List Str), eqDs (xs.map tpl) (ys.map tpl) = decide (xs = ys)
  | [], [] => rfl
  | [], _ :: _ => rfl
  | _ :: _, [] => rfl
  | x :: xs, y :: ys => by
    show (eqDs (x.map .str) (y.map .str) && eqDs (xs.map tpl) (ys.map tpl)) = _
    rw [eqDs_tpl, eqDs_str]
    by_cases e : x = y <;> by_cases f : xs = ys <;> simp [e, f]
theorem strs_okN (n : Nat) {xs : List Str} (h : ∀ x ∈ xs, PyData.strOk x = true) : (xs.map D.str).all (okD n) = true := by
  rw [List.all_eq_true]
  intro d hd
  obtain ⟨x, hx, rfl⟩ := List.mem_map.mp hd
  cases n <;> exact h x hx
theorem tpls_ok (n : Nat) {gs : List (List Str)} (h : ∀ g ∈ gs, ∀ x ∈ g, PyData.strOk x = true) : (gs.map tpl).all (okD (n + 1)) = true := by
  rw [List.all_eq_true]
  intro d hd
  obtain ⟨g, hg, rfl⟩ := List.mem_map.mp hd
  exact strs_okN n (h g hg)
section
variable {M : Mem} {K : PySem.W.Frag} {ds : List D} {Qd : D → Mem → Prop} {Ed : XD}
structure PlanOk (K : PySem.W.Frag) (cP : Addr) : Prop where
  f : FldOk K cP "_groups"
def dPlanI (K : PySem.W.Frag) : DS := sFldD K (dVar 0) (dCB rTuple (dCons (dLc (iAny (dVar 1)) (.nm 2) (dB (dOp rGt (dCB rLen (dCons (dVar 2) (dNil))) (dC (.int 0)))) (dCB rTuple (dCons (dVar 2) (dNil))) [2]) (dNil))) "_groups"
def spPlan (cP : Addr) : SpD := fun ds M Q _ => ∃ q, ∃ bs : List (Bool × List Str), ds = [.ptr q, .tup (bs.map grpD)] ∧ (q, MO.obj cP []) ∈ M ∧ Nd M ∧ bs.length ≤ 10000 ∧ (∀ b ∈ bs, b.2.length ≤ 10000) ∧ ∀ M', Nd M' → Fr [q] M M' → (q, MO.obj cP (planE ((bs.map (·.2)).filter full))) ∈ M' → Q .non M'
theorem isS_grp (b : Bool × List Str) : IsS M (grpD b) (b.2.map .str) := by
  unfold grpD
  split
  · exact .lst _
  · exact .tup _
theorem purePlan {cP : Addr} {y0 y1 y2 : Str} (PO : PlanOk K cP) (h : spPlan cP ds M Qd Ed) : dPlanI K (fun _ M' => Qd .non M') Qd (fun _ _ => False) (fun _ _ => False) (fun C dd _ M' => Ed C dd M') (start0 [y0, y1, y2] ds) M := by
  obtain ⟨q, bs, rfl, hq, nd, hl, hb, kQ⟩ := h
  unfold dPlanI
  walk_at "dl"
  refine ⟨_, _, .tup _, lt_line (by rw [List.length_map]; omega), lc_if grpD (fun b => tpl b.2) (fun b => full b.2) trivial (fun b _ P h => ?_) (fun b _ _ P1 h1 => ?_) (.inl ?_)⟩
  · walk_at "dl"
    refine isS_len (isS_grp b) ?_
    walk_at "dl"
    rw [List.length_map]
    unfold full at h
    simpa using h
  · walk_at "dl"
    refine tup_of (isS_grp b) h1
  walk_at "dl"
  refine tup_of (.lst _) ?_
  rw [show (bs.filter fun b => full b.2).map (fun b => tpl b.2) = ((bs.map (·.2)).filter full).map tpl by rw [List.filter_map, List.map_map]; rfl]
  walk_at "dl"
  refine fld_new nd hq PO.f .nil (by simp) fun M1 U1 => ?_
  exact kQ M1 U1.nd U1.fr U1.at_
end
end DL
namespace DL
variable [Wd]
open PySem L2 PySem.Spec PyProof.Rows
section
variable {M : Mem} {K : PySem.W.Frag} {ds : List D} {Qd : D → Mem → Prop} {Ed : XD}
/-! ### what a plan answers -/
def dPlWalks (K : PySem.W.Frag) : DS := sRet (dCB rTuple (dCons (dLc2 (iAny (dFld K (dVar 0) "_groups")) (.nm 1) (dYes) (iAny (dVar 1)) (.nm 2) (dYes) (dVar 2) [1, 2] [2]) (dNil)))
def spPlWalks (cP : Addr) : SpD := fun ds M Q _ => ∃ gs : List (List Str), ds = [planD cP gs] ∧ gs.flatten.length ≤ 100000 ∧ Q (.tup (gs.flatten.map .str)) M
theorem flat_str (gs : List (List Str)) : (gs.flatMap fun g => g.map D.str) = gs.flatten.map .str := by
  induction gs with
  | nil => rfl
  | cons g gs ih => rw [List.flatMap_cons, ih, List.flatten_cons, List.map_append]
theorem purePlWalks {cP : Addr} {y0 y1 y2 : Str} (PO : PlanOk K cP) (h : spPlWalks cP ds M Qd Ed) : dPlWalks K (fun _ M' => Qd .non M') Qd (fun _ _ => False) (fun _ _ => False) (fun C dd _ M' => Ed C dd M') (start0 [y0, y1, y2] ds) M := by
  obtain ⟨gs, rfl, hl, kQ⟩ := h
  unfold dPlWalks
  walk_at "dl"
  refine ⟨_, _, _, .obj _ _, PO.f, .head, ?_⟩
  refine ⟨_, _, .tup _, ?_⟩
  refine lc2_N tpl (fun g => g) D.str (fun _ x => D.str x) trivial (by rw [flat_str, List.length_map]; exact lt_line (by show 0 + _ ≤ _; omega)) (fun g hg => ⟨fun R hR => ?_, fun x hx P1 h1 => ?_⟩) (.inl ?_)
  · walk_at "dl"
    exact ⟨_, _, .tup _, hR _ trivial⟩
  · walk_at "dl"
    exact h1
  rw [List.nil_append, flat_str]
  walk_at "dl"
  exact tup_of (.lst _) kQ
end
end DL
namespace DL
variable [Wd]
open PySem L2 PySem.Spec PyProof.Rows
section
variable {M : Mem} {K : PySem.W.Frag} {ds : List D} {Qd : D → Mem → Prop} {Ed : XD}
def OkG (gs : List (List Str)) : Prop := ∀ g ∈ gs, ∀ x ∈ g, PyData.strOk x = true
/-! ### plans compared and added -/
def dPlEq (K : PySem.W.Frag) (cP : Addr) : DS := sRet (dAndV (dCB (rIsi K) (dCons (dVar 1) (dCons (dC (.ptr cP)) (dNil)))) (dOp rEq (dFld K (dVar 0) "_groups") (dFld K (dVar 1) "_groups")))
def spPlEq (cP : Addr) : SpD := fun ds M Q _ => ∃ gs hs : List (List Str), ds = [planD cP gs, planD cP hs] ∧ OkG gs ∧ OkG hs ∧ Q (.bl (decide (gs = hs))) M
theorem purePlEq {cP : Addr} {y0 y1 : Str} (PO : PlanOk K cP) (IC : C8.InsC K cP) (h : spPlEq cP ds M Qd Ed) : dPlEq K cP (fun _ M' => Qd .non M') Qd (fun _ _ => False) (fun _ _ => False) (fun C dd _ M' => Ed C dd M') (start0 [y0, y1] ds) M := by
  obtain ⟨gs, hs, rfl, og, oh, kQ⟩ := h
  unfold dPlEq
  walk_at "dl"
  refine .mk (.own _) (.obj (.obj _ _) IC) IC.me ?_
  refine ⟨true, rfl, g_ift rfl ?_⟩
  walk_at "dl"
  refine ⟨_, _, _, .obj _ _, PO.f, .head, ?_⟩
  walk_at "dl"
  refine ⟨_, _, _, .obj _ _, PO.f, .head, ?_⟩
  have oka : okD 60 (.tup (gs.map tpl)) = true := tpls_ok 58 og
  have okb : okD 60 (.tup (hs.map tpl)) = true := tpls_ok 58 oh
  refine .dat (.plain oka) (.plain okb) oka okb ?_
  rw [show eqD (.tup (gs.map tpl)) (.tup (hs.map tpl)) = decide (gs = hs) from eqDs_tpl gs hs]
  simpa using kQ
def dPlAdd (K : PySem.W.Frag) (cP : Addr) (sdI : SpD) : DS := sSeq (sIf (dNot (dB (dCB (rIsi K) (dCons (dVar 1) (dCons (dC (.ptr cP)) (dNil)))))) (sNever) (sNext)) (sSeq (sAsg (dLst (dStar (dFld K (dVar 0) "_groups") (dStar (dFld K (dVar 1) "_groups") (dNil)))) (gNm 2)) (sRet (dZK K (dMake cP sdI (dStar (dVar 2) dNil)))))
def spPlAdd (cP : Addr) : SpD := fun ds M Q _ => ∃ gs hs : List (List Str), ds = [planD cP gs, planD cP hs] ∧ gs.length ≤ 5000 ∧ hs.length ≤ 5000 ∧ (∀ g ∈ gs ++ hs, 0 < g.length ∧ g.length ≤ 10000) ∧ Nd M ∧ ∀ M', Nd M' → Fr [] M M' → Q (planD cP (gs ++ hs)) M'
theorem star_plan {cP : Addr} {bs : List (Bool × List Str)} {q : Addr} {Q : D → Mem → Prop} {E : XD} (hq : Free q M) (nd : Nd M) (hl : bs.length ≤ 10000) (hb : ∀ b ∈ bs, b.2.length ≤ 10000) (k : ∀ M', Nd M' → Fr [] M M' → Q (planD cP ((bs.map (·.2)).filter full)) M') :
    SpD.star 1 (spPlan cP) (.ptr q :: bs.map grpD) ((q, .obj cP []) :: M) (fun d M2 => d = .non ∧ ∃ d' M'', FzK K (.ptr q) M2 d' M'' ∧ Q d' M'') E := by
  refine ⟨[.ptr q], bs.map grpD, rfl, rfl, by rw [List.length_map]; exact Nat.le_of_lt (lt_line (by omega)), ?_⟩
  refine ⟨q, bs, rfl, List.mem_cons_self, nd_new hq nd, hl, hb, fun M' nd' f' hm => ⟨rfl, ?_⟩⟩
  obtain ⟨M2, U⟩ := del_ex nd' hm
  exact ⟨_, M2, .one U.up rfl, k M2 U.nd (fr_gone f' hq U.fr)⟩
theorem purePlAdd {cP : Addr} {y0 y1 y2 : Str} (PO : PlanOk K cP) (IC : C8.InsC K cP) (h : spPlAdd cP ds M Qd Ed) : dPlAdd K cP (SpD.star 1 (spPlan cP)) (fun _ M' => Qd .non M') Qd (fun _ _ => False) (fun _ _ => False) (fun C dd _ M' => Ed C dd M') (start0 [y0, y1, y2] ds) M := by
  obtain ⟨gs, hs, rfl, hg, hh, hf, nd, kQ⟩ := h
  unfold dPlAdd
  walk_at "dl"
  refine .mk (.own _) (.obj (.obj _ _) IC) IC.me ?_
  walk_at "dl"
  refine g_iff' rfl ?_
  walk_at "dl"
  refine ⟨_, _, _, .obj _ _, PO.f, .head, ?_⟩
  walk_at "dl"
  refine ⟨_, .tup _, ?_⟩
  walk_at "dl"
  refine ⟨_, _, _, .obj _ _, PO.f, .head, ?_⟩
  walk_at "dl"
  refine ⟨_, .tup _, ?_⟩
  walk_at "dl"
  rw [List.append_nil, ← List.map_append]
  refine ⟨Nat.le_of_lt (lt_line (by rw [List.length_map, List.length_append]; omega)), .inl ?_⟩
  walk_at "dl"
  refine ⟨_, .lst _, ?_⟩
  walk_at "dl"
  rw [List.append_nil, show (gs ++ hs).map tpl = ((gs ++ hs).map fun g => (false, g)).map grpD by rw [List.map_map]; rfl]
  intro q hq
  refine star_plan hq nd (by rw [List.length_map, List.length_append]; omega) (fun b hb => ?_) fun M' nd' f' => ?_
  · obtain ⟨g, hg, rfl⟩ := List.mem_map.mp hb
    exact (hf g hg).2
  have e : (((gs ++ hs).map fun g => (false, g)).map (·.2)).filter full = gs ++ hs := by
    rw [List.map_map]
    show ((gs ++ hs).map id).filter full = _
    rw [List.map_id, List.filter_eq_self]
    intro g hg
    exact decide_eq_true (hf g hg).1
  rw [e]
  walk_at "dl"
  exact kQ M' nd' f'
theorem flat_ok {gs : List (List Str)} (h : OkG gs) : ∀ x ∈ gs.flatten, PyData.strOk x = true := fun x hx => by
  obtain ⟨g, hg, hx⟩ := List.mem_flatten.mp hx
  exact h g hg x hx
end
end DL
namespace DL
variable [Wd]
open PySem L2 PySem.Spec PyProof.Rows
def NE (a : List (List Str)) : Prop := ∀ g ∈ a, 0 < g.length
theorem NE_full (a : List (List Str)) : NE (a.filter full) := fun g hg => of_decide_eq_true (List.mem_filter.mp hg).2
theorem flat_full (a : List (List Str)) : (a.filter full).flatten = a.flatten := by
  induction a with
  | nil => rfl
  | cons g a ih =>
    rw [List.filter_cons]
    cases g with
    | nil => rw [if_neg (by decide), ih]; rfl
    | cons x xs => rw [if_pos (by simp [full]), List.flatten_cons, ih, List.flatten_cons]
end DL
namespace DL
variable [Wd]
open PySem L2 PySem.Spec PyProof.Rows
section
variable {X : Cx} {g : G}
/-! ### is True, is not True -/
inductive IsRB (neg : Bool) (M : Mem) (Q : D → Mem → Prop) : D → D → Prop
  | bl {a b : Bool} : Q (.bl (decide (a = b) != neg)) M → IsRB neg M Q (.bl a) (.bl b)
theorem od_isB : OpD X g (compareOp .Is) (fun d e M Q => IsRB false M Q d e) := by
  intro pins s σ H x y v u k I rx ry h
  obtain ⟨F, M, d, e, Q, S, r1, r2, ar, kQ⟩ := h
  cases ar with
  | bl q => rw [ne_false] at q; cases r1; cases r2; exact op_is_bl pins s σ H _ _ v u k I rx ry ⟨_, _, rfl, rfl, kQ _ M F _ H q (Same.r F) S (.bl _)⟩
abbrev rIsB : DR2 := fun d e M Q => IsRB false M Q d e
end
end DL
namespace DL
variable [Wd]
open PySem L2 PySem.Spec PyProof.Rows
/-! ### iteration over an own object whose __iter__ gives iter of a tuple -/
/-- at it an iterator over the tuple at t, nothing taken yet -/
abbrev tiObj (t : Addr) : Obj := { cls := .type "tuple_iterator", data := .fields #[.ref t, .int 0 0] }
def TiO (t it : Addr) : HO := .ext fun h => h.get? it = some (tiObj t)
theorem tiO_ok {P : Program} {w : World} {H : Hp} {h : Heap} {t it : Addr} (e : h.get? it = some (tiObj t)) : ObjOk P w H h it (TiO t it) := ⟨e, ⟨_, e⟩, fun h1 h2 q k => k _ q⟩
def rIterT (K : PySem.W.Frag) (n : Nat) : List V → Hp → VK → Prop := fun xs H Q => ∃ (t : Addr) (zs : List V), xs = [.ref t] ∧ SqT K H t zs ∧ ∀ it, n ≤ it → H it = none → Q (.ref it) (upd H it (TiO t it))
theorem dboot_iter : bootBuiltins "iter" = some (.builtin "iter") := by decide +kernel
section
variable {X : Cx}
theorem call_iterT : CallR X (.builtin "iter") (rIterT X.K X.s_0.heap.objs.size) := by
  intro pins s σ H xs us Q I r h
  obtain ⟨t, zs, rfl, hq, q⟩ := h
  obtain rfl := Vals.ref1 r
  obtain ⟨its, _, pl, _⟩ := I.tuple hq
  apply Calls.call_function_entry (by decide +kernel) (by decide +kernel) PySem.W.kdk_entry_iter (PySem.W.kdk_args_iter (.ref t))
  unfold Builtin.«iter»
  apply wpAny_bind (m := someArgs "iter" 1 2 _)
  apply wpAny_of_eq (a := [Value.ref t]) (by first | rfl | kernel_rfl!)
  apply wpAny_bind (m := pyIter (.ref t))
  apply wpAny_pyIter_tuple (show s.heap.IsTuple t its.toArray from pl)
  refine wpAny_pure ⟨_, rfl, ?_⟩
  exact ⟨.ref s.heap.objs.size, _, I.laid (t' := s.toks) (fun b u e => Heap.get?_push_of_some _ e) (Nat.le_refl _) (tiO_ok (Heap.get?_push_size _ rfl)), rfl, q _ I.sz (I.hok.fresh (Nat.le_refl _))⟩
/-- the body of __iter__: return iter(self.fld) -/
def tIterB (K : PySem.W.Frag) (n : Nat) (fld : Str) : TS := tRet (tCB (rIterT K n) (tCons (tFld K (tVar 0) fld) tNil))
end
theorem paired_imp {α β : Type} {F G : α → β → Prop} (h : ∀ a b, F a b → G a b) {l : List α} {m : List β} (p : PySem.Paired F l m) : PySem.Paired G l m := by
  induction p with
  | nil => exact .nil
  | cons a _ ih => exact .cons (h _ _ a) ih
/-- what is forgotten of the abstract heap -/
theorem objOk_less {P : Program} {w : World} {H : Hp} {h : Heap} {it a t : Addr} {o : HO} (hn : H it = none) (x : ObjOk P w (upd H it (TiO t it)) h a o) : ObjOk P w H h a o := by
  induction o with
  | dT kvs =>
    obtain ⟨x1, x2, ys, x3, x4⟩ := x
    refine ⟨x1, x2, ys, paired_imp (fun p q ⟨z1, z2, z3⟩ => ⟨z1, ?_, z3⟩) x3, x4⟩
    by_cases e : q.2.1 = it
    · rw [e, upd_same] at z2; cases z2
    · rwa [upd_ne e] at z2
  | ins C dx fs =>
    obtain ⟨x1, x2⟩ := x
    refine ⟨?_, x2⟩
    by_cases e : dx = it
    · rw [e, upd_same] at x1; cases x1
    · rwa [upd_ne e] at x1
  | frz o u ih => exact ⟨x.1, ih x.2⟩
  | lst _ => exact x
  | tup _ => exact x
  | dK _ => exact x
  | set _ _ => exact x
  | own _ => exact x
  | xd _ => exact x
  | met _ _ => exact x
  | rng _ _ => exact x
  | tbl _ => exact x
  | ext _ => exact x
/-- a def __iter__ that has run: an iterator over the tuple is laid, all else stands -/
def IterRan (P : Program) (w : World) (outer : List PySem.Env) (H : Hp) (s : Shared) (t : Addr) (r : Result) (s' : Shared) : Prop :=
  ∃ it, r = .ok (.ret (.ref it)) ∧ s.heap.objs.size ≤ it ∧ H it = none ∧ s'.heap.get? it = some (tiObj t) ∧ s'.os = s.os ∧ AllBare s'.gens ∧ Un (frs outer) [] H H s.heap s'.heap ∧ HOk P w H s'.heap
theorem run_iter {P : Program} {w : World} {K : PySem.W.Frag} {mg : Str → Option Value} {base : Heap} {x qual fld : Str} {st : Stmt} {f : Addr} {fd : FuncData} {k : Nat} (Fu : Fun K x qual st f fd) (S : FnScope ["self"] ["self"] (defScope st))
    (hb : ∀ (cdv : Value) (A : Around) (outer : List PySem.Env) (s : Shared) (H : Hp) (E : XK), PSs (cxOf (L2.CX P w) P w K mg base ["self"] qual (defScope st) f cdv A outer s H E) (defBody st) (tIterB K s.heap.objs.size fld))
    {A : Around} {outer : List PySem.Env} {s : Shared} {H : Hp} {args : Args} {a C dx t : Addr} {fs : List (Str × V)} {zs : List V} (hr : Room (k + 1) A) (e0 : Env0 P w K mg base A outer s H) (bd : BindsTo s fd args ((["self"] : List Str).zip [.ref a]))
    (ha : H a = some (.ins C dx fs)) (cl : Cls K C) (no : NoAttr K C fld) (hl : fs.lookup fld = some (.ref t)) (ht : SqT K H t zs) : codeAny (model P w) A (.call (.ref f) args) (IterRan P w outer H s t) s := by
  obtain ⟨oc, od, kV, doc, pm, an, cdv, ct, osl, rfl, lk, hcd⟩ := Fu.ex
  have kin : K.In s.heap := e0.mod.kin.keeps fun b o e => (e0.bs b o e).1
  have nolim : s.heap.NoLimit := e0.mod.nolimit.keeps fun b o e => (e0.bs b o e).1
  apply codeAny_call_function hr.depth (kin _ _ lk) rfl S.co S.gen rfl (PySem.W.codeRec_of kin hcd)
  apply bd
  apply wpAny_newFunctionEnv_cells S.kind
  · intro y hy
    rcases S.par y.1 (List.of_mem_zip (show (y.1, y.2) ∈ _ from hy)).1 with q | q
    · exact .inl q
    · exact .inr ⟨q, PySem.W.cellsFrom_some _ _ _ (.inl q)⟩
  intro env he s1 y
  subst he
  refine ⟨nolim.keeps y.toInCall.keep, codeAny_func ?_⟩
  have I : Inv (cxOf (L2.CX P w) P w K mg base ["self"] qual (defScope st) f cdv A outer s H fun _ _ _ => False) [] (start ["self"] [.ref a]) H s1 := inv_start S hr.hd e0 rfl (.cons rfl .nil) y
  let Q : VK := fun v H' => ∃ it, v = .ref it ∧ s.heap.objs.size ≤ it ∧ H it = none ∧ H' = upd H it (TiO t it)
  have body := (hb cdv A outer s H fun _ _ _ => False).run [] s1 (start ["self"] [.ref a]) H { nx := fun _ _ => False, rt := Q } I
    ⟨.ref a, rfl, a, C, dx, fs, .ref t, rfl, ha, cl, no, hl, t, zs, rfl, ht, fun it h1 h2 => ⟨it, rfl, h1, h2, rfl⟩⟩
  refine wpAny_mono body (fun fl s' hs => ?_) fun e s' hs => ?_
  · cases fl with
    | ret u =>
      obtain ⟨v, σ', H', J, rv, it, rfl, h1, h2, rfl⟩ := hs
      obtain rfl : u = Value.ref it := rv
      have ok := J.hok
      have at_ : s'.heap.get? it = some (tiObj t) := (ok it _ upd_same).1
      refine ⟨it, rfl, h1, h2, at_, J.os, J.bare, ?_, fun b o e => objOk_less h2 (ok b o (by rw [upd_ne (ne_of_none e h2)]; exact e))⟩
      have U := J.base
      exact ⟨U.keep, U.slot, fun b o _ n _ => n, U.there, fun b xs e => e, fun b o u e => e, fun b ps e => ⟨#[], by rw [Array.append_empty]; exact e⟩⟩
    | next =>
      obtain ⟨σ', H', J, q⟩ := hs
      exact False.elim q
    | brk =>
      obtain ⟨_, _, _, q⟩ := hs
      exact False.elim q
    | cont =>
      obtain ⟨_, _, _, q⟩ := hs
      exact False.elim q
  · exact wpAny_mono hs (fun _ s'' z => (cx_no z).elim) fun _ s'' z => (cx_no z).elim
/-- a class's own __iter__ -/
structure IterC (K : PySem.W.Frag) (C fa : Addr) : Prop where
  at_ : PySem.W.findIn K (.ref C) "__iter__" = some (some (.ref fa))
  fn : PySem.W.isFn K (.ref fa) = true
def IterFn (P : Program) (w : World) (K : PySem.W.Frag) (mg : Str → Option Value) (base : Heap) (k : Nat) (f : Addr) (fld : Str) : Prop :=
  ∀ (A : Around) (outer : List PySem.Env) (s : Shared) (H : Hp) (a C dx t : Addr) (fs : List (Str × V)) (zs : List V), Room k A → Env0 P w K mg base A outer s H →
    H a = some (.ins C dx fs) → Cls K C → NoAttr K C fld → fs.lookup fld = some (.ref t) → SqT K H t zs → codeAny (model P w) A (.call (.ref f) ⟨[.ref a], []⟩) (IterRan P w outer H s t) s
theorem iterFn_of {P : Program} {w : World} {K : PySem.W.Frag} {mg : Str → Option Value} {base : Heap} {x qual fld : Str} {st : Stmt} {f : Addr} {fd : FuncData} {k : Nat} (Fu : Fun K x qual st f fd) (S : FnScope ["self"] ["self"] (defScope st)) (bi : Binds K fd ["self"] [])
    (hb : ∀ (cdv : Value) (A : Around) (outer : List PySem.Env) (s : Shared) (H : Hp) (E : XK), PSs (cxOf (L2.CX P w) P w K mg base ["self"] qual (defScope st) f cdv A outer s H E) (defBody st) (tIterB K s.heap.objs.size fld)) : IterFn P w K mg base (k + 1) f fld :=
  fun A outer s H a C dx t fs zs hr e0 ha cl no hl ht => run_iter Fu S hb hr e0 (bi s [.ref a] (e0.mod.kin.keeps fun b o e => (e0.bs b o e).1) rfl) ha cl no hl ht
def iOwn (C : Addr) (fld : Str) (de : DE) : DI := fun ρ M Q E => de ρ M (fun d M1 => ∃ es ds, IsO M1 d C es ∧ Has es fld (.tup ds) ∧ Q ds (fun _ => True) M1) E
section
variable {X : Cx} {g : G} {W : WX} {e tg : Expr} {de : DE}
theorem di_own {k : Nat} {C fa : Addr} {fld : Str} (hK : g.K = X.K) (o : IterC X.K C fa) (fo : FldOk X.K C fld) (F : IterFn X.prog X.w X.K X.mg X.base k fa fld) (hr : Room k X.A) (he : PE X e (liftE g W de)) : PI X tg e (liftI g W (iOwn C fld de)) := by
  refine ⟨fun pins s σ H R I ⟨ρ, M, F1, Q, E, S, En, q, kQ, kE⟩ => ?_⟩
  obtain ⟨K0, U⟩ := g
  simp only at hK
  subst hK
  have one := he.run pins s σ H (fun x H1 => ∃ d M' F', (∃ es ds, IsO M' d C es ∧ Has es fld (.tup ds) ∧ Q ds (fun _ => True) M') ∧ Same F1 F' ∧ Sta ⟨X.K, U⟩ F' M' H1 ∧ Rep X.K F' x d) I
    ⟨ρ, M, F1, _, E, S, En, q, fun d M' F' v H' z s S' r => ⟨d, M', F', z, s, S', r⟩, kE⟩
  refine thn one fun u s1 ⟨x, H1, I1, rx, d, M', F', ⟨es, ds, ho, hs, z⟩, sm, S', r⟩ => ?_
  obtain ⟨a, dx, kvs, rfl, ha, l, rr⟩ := ho.to S' r
  obtain ⟨v2, h1, h2⟩ := hs.rep l rr
  obtain rfl : u = Value.ref a := rx
  cases h2 with
  | @tup t xs _ hF r2 =>
  have hT : SqT X.K H1 _ xs := S'.sub.sqT hF
  obtain ⟨mA, J, _⟩ := ins_get I1.hok ha
  obtain ⟨od, J, _⟩ := J.look
  obtain ⟨m, hFr⟩ := I1.fr
  refine PySem.W.owit_iter hFr I1.ok.mod.kin J o.at_ o.fn ?_
  refine wpAny_call (codeAny_mono (F X.A X.stack s1 H1 a C dx _ kvs xs hr I1.env0 ha fo.cl fo.no h1 hT) fun r s' hq => ?_)
  obtain ⟨it, rfl, hsz, hn, at_, os, bare, un, hok⟩ := hq
  have I2 : Inv X pins σ H1 s' := I1.call' os un hok bare (fun b z => absurd z (by simp))
  unfold PySem.W.OwitIt
  refine wpAny_specialOf (T := "tuple_iterator") ⟨_, at_, rfl⟩ PySem.F.slot_tuple_iterator_next.lookup ?_
  refine ⟨it, [it], fun i h => h.IsTupleIter it _ i, Itt X.K _, H1, rfl, I2, turn_tuple _ it, ⟨_, at_, rfl, rfl⟩, fun b hb => ?_, ?_⟩
  · rw [List.mem_singleton.mp hb]
    exact I1.fpOk hsz hn
  refine kQ _ _ M' U noH F' _ H1 z (Same.r _) same_no sm S' ⟨fun _ _ e => (nomatch e), fun i d U' F2 M2 H2 _ s2 S2 _ e => ?_, fun i U' F2 M2 H2 _ s2 S2 _ e => ?_⟩
  · obtain ⟨v, hv, rv⟩ := r2.get e
    refine ⟨⟨_, v, S2.sub.sqT (sqT_mono s2 hF), hv⟩, fun x H3 ⟨eH, y⟩ => ?_⟩
    subst eH
    have y' := y _ (S2.sub.sqT (sqT_mono s2 hF))
    rw [hv] at y'
    cases y'
    exact ⟨F2, Same.r F2, S2, rv.mono s2⟩
  · exact ⟨_, S2.sub.sqT (sqT_mono s2 hF), by rw [r2.length]; exact e⟩
end
end DL
namespace DL
variable [Wd]
open PySem L2 PySem.Spec PyProof.Rows
/-! ### calls of a staticmethod by its class -/
structure SMet (K : PySem.W.Frag) (C : Addr) (m : Str) (p f : Addr) : Prop where
  at_ : PySem.W.findCls K (.ref C) (.type "type") m = some (.get (.builtin "staticmethod.__get__") (.ref p) .none (.ref C))
  rc : ∃ rest, PySem.W.recIn K p "staticmethod" = some (.ref f :: rest)
  kk : PySem.W.keepIn K (.ref f) = true
section
variable {X : Cx} {g : G} {W : WX} {e : Expr} {es : List Expr} {dA : DA} {x m : Str} {p apos pos : Pos}
theorem de_scall {k : Nat} {C q fa : Addr} {sd : SpD} {pl : Sem Bool} (r : ClX.CRead X.K C (.type "type")) (c : SMet X.K C m q fa) (F : FnD X.prog X.w X.K X.mg X.base k fa sd) (hr : Room k X.A) (hg : Gl X x) (hm : X.mg x = some (.ref C)) (hK : g.K = X.K) (tk : Takes X W) (ha : PA X (e :: es) (liftA g W dA))
    (hst : starEach (e :: es) X.env = (false, eval e X.env) :: starEach es X.env := by rfl) (hpl : (backTo pos (starEach es X.env)).any (·.1) = false := by rfl)
    (ht : eval (.Call (.Attribute (.Name x p) m apos) (e :: es) [] pos) X.env = (do
      let ov ← eval (.Name x p) X.env
      standAt apos.atName
      let (f, first) ← holding [ov] (getMethod ov m pl)
      callWith pos f first (backTo pos (starEach (e :: es) X.env)) (backToKw pos (keywordEach [] X.env))) := by rfl) (hdb : (x == ("__debug__" : Str)) = false := by decide) :
    PE X (.Call (.Attribute (.Name x p) m apos) (e :: es) [] pos) (liftE g W (dCall sd dA)) := by
  refine ⟨fun pins s σ H kk I ⟨ρ, M, F1, Q, E, S, En, z0, kQ, kE⟩ => ?_⟩
  obtain ⟨K0, U⟩ := g
  simp only at hK
  subst hK
  refine PySem.W.methodCall_KW (pl := pl) (thn ((pe_glob hg hm (v := .ref C) rfl hdb).run pins s σ H (fun y H1 => y = .ref C ∧ H1 = H) I ⟨rfl, rfl⟩) fun u s1 ⟨y, H1, I1, ry, ey, eH⟩ => ?_) ht
  subst ey eH
  obtain rfl : u = Value.ref C := ry
  obtain ⟨rest, hp⟩ := c.rc
  refine PySem.W.method_cls I1.kIn r.ga (PySem.W.cls_bind I1.kIn r.rd c.at_ (wpAny_call (PySem.W.sm_get (s := { s1 with toks := s1.toks + 1 }) I1.kIn hp (PySem.W.handed_on rfl ?_))))
  have I2 := I1.tok (s1.toks + 1)
  refine PySem.W.callWith_K (h₀ := X.base) I2.ok.mod.kin c.kk (thn (ha.run pos pins _ σ H1 (fun vs H2 => ∃ M1 F2 ds, Same F1 F2 ∧ Sta ⟨X.K, U⟩ F2 M1 H2 ∧ Reps X.K F2 vs ds ∧ sd ds M1 Q E) I2
    ⟨ρ, M, F1, _, E, S, En, z0, fun ds M1 F2 vs H1 z s S' r => ⟨M1, F2, ds, s, S', r, z⟩, kE⟩) fun us s2 ⟨vs, H2, I3, rv, M1, F2, ds, s12, S1, r1, q1⟩ => ⟨I3.kIn, ?_⟩) hst hpl
  exact run_fnD (Ex := fun cls d H' => W cls d σ H') F hr tk (fun _ _ _ h => h) I3 rv ⟨U, M1, F2, ds, Q, E, S1, r1, q1, fun d M' F' v H' z s S' r => kQ d M' F' v H' z (s12.t s) S' r, fun C dd M' F' H' z s S' => kE C dd M' F' H' z (s12.t s) S'⟩
end
end DL
namespace DL
open PySem
end DL
namespace DL
variable [Wd]
open PySem L2 PySem.Spec PyProof.Rows
end DL
namespace DL
variable [Wd]
open PySem L2 PySem.Spec PyProof.Rows
section
variable {M : Mem} {K : PySem.W.Frag} {ds : List D} {Qd : D → Mem → Prop} {Ed : XD}
end
end DL
namespace DL
variable [Wd]
open PySem L2 PySem.Spec PyProof.Rows
section
variable {M : Mem} {K : PySem.W.Frag} {ds : List D} {Qd : D → Mem → Prop} {Ed : XD}
end
end DL
namespace DL
variable [Wd]
open PySem L2 PySem.Spec PyProof.Rows
section
variable {M : Mem} {K : PySem.W.Frag} {ds : List D} {Qd : D → Mem → Prop} {Ed : XD}
end
end DL
namespace DL
variable [Wd]
open PySem L2 PySem.Spec PyProof.Rows
/-! ### operators of an own class with an int on the right -/
structure OwnInt (K : PySem.W.Frag) (C : Addr) (nm : String) : Prop where
  rr : ∃ rc, PySem.W.findIn K (.ref C) (PySem.dunderR nm) = some rc ∧ (rc = none ∨ ∃ g : Addr, rc = some (.ref g))
  l1 : ∃ fo, PySem.W.findIn K (.type "int") (PySem.dunder nm) = some fo
  l2 : ∃ ro, PySem.W.findIn K (.type "int") (PySem.dunderR nm) = some ro
  su : PySem.W.subIn K (.type "int") (.ref C) = some false
def rOwnI (C : Addr) (sd : SpD) : DR2 := fun d e M Q => ∃ es n, IsO M d C es ∧ e = .int n ∧ sd [d, e] M Q noE
section
variable {X : Cx} {g : G}
theorem od_ownI {op : Operator} {k : Nat} {C fa : Addr} {sd : SpD} (o : OwnOp X.K C fa (PySem.dunder op.info.2)) (oi : OwnInt X.K C op.info.2) (F : FnD X.prog X.w X.K X.mg X.base k fa sd) (hr : Room k X.A) (hK : g.K = X.K) : OpD X g (binaryOp op) (rOwnI C sd) := by
  intro pins s σ H x y v u kk I rx ry h
  obtain ⟨F1, M, d, e, Q, S, r1, r2, ⟨es, n, o1, rfl, q⟩, kQ⟩ := h
  obtain ⟨K0, U⟩ := g
  simp only at hK
  subst hK
  obtain ⟨a, dx, kvs, rfl, ha, _⟩ := o1.to S r1
  obtain rfl : v = Value.ref a := rx
  cases r2
  obtain ⟨t, rfl⟩ : ∃ t, u = Value.int n t := ry
  obtain ⟨mA, J, _⟩ := ins_get I.hok ha
  obtain ⟨od, J, _⟩ := J.look
  obtain ⟨m, hF⟩ := I.fr
  obtain ⟨rc, h1, h2⟩ := oi.rr
  obtain ⟨fo, h3⟩ := oi.l1
  obtain ⟨ro, h4⟩ := oi.l2
  refine PySem.W.ksp_binT (T := "int") hF I.ok.mod.kin J rfl o.sf o.at_ o.fn h1 h2 h3 h4 oi.su ?_
  exact run_own (vs := [.ref a, .int n]) (R := PySem.W.CmpBack (EP X pins σ kk)) F hr I.env0 I (.cons rfl (.cons ⟨t, rfl⟩ .nil)) S (.cons r1 (.cons (.int n) .nil)) q kQ fun v u H' s' I' rv z => cmpBack rv ⟨v, H', I', rv, z⟩
/-- str(o) -/
inductive StrO (C : Addr) (sd : SpD) (M : Mem) (Q : D → Mem → Prop) : List D → Prop
  | mk {d : D} {es : List (Str × D)} : IsO M d C es → sd [d] M (fun z M' => ∃ x, z = .str x ∧ Q z M') noE → StrO C sd M Q [d]
abbrev rStrO (C : Addr) (sd : SpD) : DC := fun ds M Q => StrO C sd M Q ds
theorem cd_strO {k : Nat} {C fa : Addr} {sd : SpD} (o : OwnOp X.K C fa "__str__") (F : FnD X.prog X.w X.K X.mg X.base k fa sd) (hr : Room (k + 2) X.A) (hK : g.K = X.K) : CallD X g (.type "str") (rStrO C sd) := by
  intro pins s σ H vs us kk I r h
  obtain ⟨F1, M, ds, Q, S, r1, q, kQ⟩ := h
  obtain ⟨K0, U⟩ := g
  simp only at hK
  subst hK
  cases q with
  | mk o1 q =>
    cases r1 with
    | cons r1 rn =>
      cases rn
      obtain ⟨a, dx, kvs, rfl, ha, _⟩ := o1.to S r1
      cases r with
      | cons rx rr =>
        cases rr
        obtain rfl : _ = Value.ref a := rx
        obtain ⟨mA, J, _⟩ := ins_get I.hok ha
        obtain ⟨od, J, _⟩ := J.look
        refine PySem.W.kso_call (hr.in1.in1).units0 I.kIn J o.at_ o.fn ?_
        refine run_own (vs := [.ref a]) (A := X.A.in1.in1) (kk := fun v H' => ∃ x : Str, v = .str x ∧ kk v H') F hr.in1.in1 I.env0.in1.in1 I (.cons rfl .nil) S (.cons r1 .nil) q (fun d M' F' v H' ⟨x, ez, z⟩ s S' r => ?_) fun v u H' s' I' rv ⟨x, ev, z⟩ => ?_
        · subst ez
          have z' := kQ _ M' F' v H' z s S' r
          cases r
          exact ⟨x, rfl, z'⟩
        · subst ev
          obtain ⟨t, rfl⟩ := (show ∃ t, u = Value.str _ t from rv)
          exact ⟨.str x, H', I', ⟨_, rfl⟩, z⟩
/-- sep.join(xs) -/
inductive JoinM (M : Mem) (Q : D → Mem → Prop) : D → List D → Prop
  | mk {a : Str} {e : D} {ys : List Str} : IsS M e (ys.map .str) → (ys.map (·.length)).sum + ys.length * a.length ≤ 16777216 → Q (.str (PySem.Txt.join a ys)) M → JoinM M Q (.str a) [e]
theorem md_join (hK : g.K = X.K) : MtD X g "str.join" (fun d ds M Q => JoinM M Q d ds) := by
  intro pins s σ H x vs v us k I rx rv h
  obtain ⟨F, M, d, ds, Q, S, r1, r2, q, kQ⟩ := h
  cases q with
  | mk hs hl q =>
    cases r1
    cases r2 with
    | cons r2 rn =>
      cases rn
      obtain ⟨p, xs, rfl, hq, rr⟩ := hs.to S r2
      obtain rfl := strs_rep rr
      rw [hK] at hq
      exact mt_join pins s σ H _ _ v us k I rx rv ⟨_, p, _, rfl, rfl, hq, hl, kQ _ M F _ H q (Same.r F) S (.str _)⟩
abbrev rJoin : DM := fun d ds M Q => JoinM M Q d ds
end
end DL
namespace DL
variable [Wd]
open PySem L2 PySem.Spec PyProof.Rows
section
variable {prog : Program} {w : World} {A : Around} {E : Value → Shared → Prop} {s : Shared} {x : Addr} {C dx : Addr}
theorem int_mul_own {n : Int} {t : Tok} {Q : Value → Shared → Prop} (hx : s.heap.get? x = some (PySem.W.instObj C dx)) (h : Q .notImplemented s) : wpAny (model prog w) A (call (.builtin "int.__mul__") [.int n t, .ref x]) Q E s := by
  refine wpAny_call (codeAny_call_builtin PySem.F.slot_int_mul.plain PySem.F.entry_int_mul (PySem.F.slot_int_mul.check _ _ _ _ _ _ _ _ (typeIs_int _ _ _) (PySem.F.args_int_mul_2 _ _) ?_))
  unfold Builtin.«int.__mul__» Builtin.Int.intBinary
  refine wpAny_bind (m := slotArgs "__mul__" 1 _) (wpAny_of_eq (a := (Value.int n t, [Value.ref x])) (by first | rfl | kernel_rfl!) ?_)
  refine wpAny_bind (m := Builtin.Int.intOfSelf (.int n t)) (wpAny_of_eq (a := n) (by first | rfl | kernel_rfl!) ?_)
  refine wpAny_bind (m := asInt? (.ref x)) ?_
  show wpAny _ _ (do match (← load x).data with | .prim (.int i _) => pure (some i) | _ => pure none) _ _ s
  refine wpAny_bind (wpAny_load hx (wpAny_pure ?_))
  exact wpAny_bind (wpAny_rule (wpAny_pure h))
/-- int * o, o of an own class with __rmul__ -/
theorem int_rmul {K : PySem.W.Frag} {f : Addr} {od : Option Obj} {n : Int} {t : Tok} {Q : Value → Shared → Prop} (X : K.In s.heap) (I : PySem.W.InstAt s.heap x (PySem.W.instObj C dx) C od) (hx : s.heap.get? x = some (PySem.W.instObj C dx))
    (hc : PySem.W.selfFirst K C = true) (hs : PySem.W.findIn K (.ref C) (PySem.dunderR "mul") = some (some (.ref f))) (hf : PySem.W.isFn K (.ref f) = true) (hm : ∃ g : Addr, PySem.W.findIn K (.ref C) (PySem.dunder "mul") = some (some (.ref g))) (hsub : PySem.W.subIn K (.ref C) (.type "int") = some false)
    (h : wpAny (model prog w) A (call (.ref f) [.ref x, .int n t]) (PySem.W.CmpBack Q) E s) : wpAny (model prog w) A (binaryOp .Mult (.int n t) (.ref x)) Q E s := by
  obtain ⟨cd, rest, hcd, hcm⟩ := PySem.W.ksp_first hc
  obtain ⟨g, hg⟩ := hm
  have one := PySem.W.ksp_try X I hs hf h
  have two : wpAny (model prog w) A (tryMethod (.int n t) (PySem.dunder "mul") (.ref x)) (fun r s' => r = none ∧ s' = s) E s := by
    unfold tryMethod
    refine wpAny_bind (wpAny_callSpecial?_slot (typeIs_int s n t) PySem.F.slot_int_mul (int_mul_own hx ?_))
    exact wpAny_pure ⟨rfl, rfl⟩
  obtain ⟨hh, gg, d, tt, os⟩ := s
  have L1 : PySem.W.Looks (model prog w) hh (typeOf (.ref x)) (.ref C) := I.type
  have L2 : PySem.W.Looks (model prog w) hh (typeOf (.int n t)) (.type "int") := PySem.W.Looks.of_pure rfl
  have L3 : PySem.W.Looks (model prog w) hh (fillsNumberSlot (.ref C) "mul") true := PySem.W.fills_K X hcd hcm hg
  have L4 : PySem.W.Looks (model prog w) hh (fillsNumberSlot (.type "int") "mul") true := PySem.W.Looks.of_pure PySem.F.fills_int_mul
  have L5 : PySem.W.Looks (model prog w) hh (isSubtype (.ref C) (.type "int")) false := PySem.W.looks_subIn X hsub
  have L7 : PySem.W.Looks (model prog w) hh (numberSlotInPython (.type "int") "mul") false := PySem.W.Looks.of_pure rfl
  have hne : (Value.type "int" == Value.ref C) = false := Bool.eq_false_iff.mpr fun q => by cases beq_iff_eq.mp q
  simp only [binaryOp, show Operator.Mult.info = ("*", "mul") from rfl]
  refine wpAny_holding (wpAny_bind ?_)
  unfold binaryOp1
  refine wpAny_bind (L2.at (wpAny_bind (L1.at (wpAny_bind (L4.at ?_)))))
  simp only [hne, Bool.false_eq_true, if_false]
  open PySem.W in ksp_lk
  refine wpAny_mono two (fun r s' hr' => ?_) fun _ _ e => e
  obtain ⟨rfl, rfl⟩ := hr'
  open PySem.W in ksp_lk
  refine wpAny_mono one (fun r s' hr' => ?_) fun _ _ e => e
  obtain ⟨v, rfl, hq⟩ := hr'
  open PySem.W in ksp_lk
  exact hq
end
structure OwnRmul (K : PySem.W.Frag) (C f : Addr) : Prop where
  sf : PySem.W.selfFirst K C = true
  at_ : PySem.W.findIn K (.ref C) (PySem.dunderR "mul") = some (some (.ref f))
  fn : PySem.W.isFn K (.ref f) = true
  mul : ∃ g : Addr, PySem.W.findIn K (.ref C) (PySem.dunder "mul") = some (some (.ref g))
  su : PySem.W.subIn K (.ref C) (.type "int") = some false
def rOwnR (C : Addr) (sd : SpD) : DR2 := fun d e M Q => ∃ es n, IsO M e C es ∧ d = .int n ∧ sd [e, d] M Q noE
theorem od_rmul {X : Cx} {g : G} {k : Nat} {C fa : Addr} {sd : SpD} (o : OwnRmul X.K C fa) (F : FnD X.prog X.w X.K X.mg X.base k fa sd) (hr : Room k X.A) (hK : g.K = X.K) : OpD X g (binaryOp .Mult) (rOwnR C sd) := by
  intro pins s σ H x y v u kk I rx ry h
  obtain ⟨F1, M, d, e, Q, S, r1, r2, ⟨es, n, o1, rfl, q⟩, kQ⟩ := h
  obtain ⟨K0, U⟩ := g
  simp only at hK
  subst hK
  obtain ⟨a, dx, kvs, rfl, ha, _⟩ := o1.to S r2
  obtain rfl : u = Value.ref a := ry
  cases r1
  obtain ⟨t, rfl⟩ : ∃ t, v = Value.int n t := rx
  obtain ⟨mA, J0, _⟩ := ins_get I.hok ha
  obtain ⟨od, J, _⟩ := J0.look
  refine int_rmul I.kIn J J0.obj o.sf o.at_ o.fn o.mul o.su ?_
  exact run_own (vs := [.ref a, .int n]) (R := PySem.W.CmpBack (EP X pins σ kk)) F hr I.env0 I (.cons rfl (.cons ⟨t, rfl⟩ .nil)) S (.cons r2 (.cons (.int n) .nil)) q kQ fun v u H' s' I' rv z => cmpBack rv ⟨v, H', I', rv, z⟩
end DL
namespace DL
variable [Wd]
open PySem L2 PySem.Spec PyProof.Rows
/-! ### def f(a=None, *v) -/
def SpD.starN (sd : SpD) : SpD := fun ds M Q E => ∃ a rest, (ds = [] ∧ a = .non ∧ rest = [] ∨ ds = a :: rest) ∧ rest.length ≤ sizeLine ∧ sd [a, .tup rest] M Q E
section
variable {P : Program} {w : World} {K : PySem.W.Frag} {mg : Str → Option Value} {base : Heap}
theorem fnD_ofStarN {x qual p1 pv : Str} {st : Stmt} {f : Addr} {fd : FuncData} {N : List Str} {k : Nat} {sd : SpD} (Fu : FunD K x qual (defArgs st) (defBody st) (defScope st) [V.non] [] f fd) (S : FnScope N [p1, pv] (defScope st))
    (hb0 : ∀ (T : Addr) (kV doc pm : Value) (an : Option Addr) (cdv ct d : Value), ∃ kk, bindArgs (PySem.W.fnOf x qual (defArgs st) (defBody st) (defScope st) (.ref T) kV doc pm an cdv ct) ⟨[], []⟩ = seqItems? (.ref T) >>= kk ∧ kk (some #[d]) = (newTuple [] >>= fun t => pure [(p1, d), (pv, t)]))
    (hb1 : ∀ (T : Addr) (kV doc pm : Value) (an : Option Addr) (cdv ct d a : Value) (rest : List Value), ∃ kk, bindArgs (PySem.W.fnOf x qual (defArgs st) (defBody st) (defScope st) (.ref T) kV doc pm an cdv ct) ⟨a :: rest, []⟩ = seqItems? (.ref T) >>= kk ∧ kk (some #[d]) = (newTuple rest >>= fun t => pure [(p1, a), (pv, t)]))
    (hbody : ∀ (cdv : Value) (A : Around) (outer : List PySem.Env) (s : Shared) (H : Hp) (U : Hp) (E : XK) (ds : List D) (M : Mem) (Qd : D → Mem → Prop) (Ed : XD), Room k (A.deeper (PyProof.Rows.envOfC qual (defScope st) s.heap.objs.size f cdv)) → sd ds M Qd Ed →
      ∃ body : DS, PSs (cxOf (L2.CX P w) P w K mg base N qual (defScope st) f cdv A outer s H E) (defBody st) (liftS ⟨K, U⟩ (fun cls d _ H => E cls d H) body) ∧
        body (fun _ M' => Qd .non M') Qd (fun _ _ => False) (fun _ _ => False) (fun C dd _ M' => Ed C dd M') (start0 N ds) M) : FnD P w K mg base (k + 1) f (SpD.starN sd) := by
  obtain ⟨oc, od, dV, kV, doc, pm, an, cdv, ct, osl, rfl, lk, hcd, hD, _⟩ := Fu.ex
  obtain ⟨e, _⟩ | ⟨_, T, o, its, m, rfl, lT, oT, rT⟩ := hD
  · cases e
  have hits : its = [Value.none] := by
    cases rT with
    | cons a b =>
      cases b
      cases a
      rfl
  subst hits
  intro A outer s H us vs Q E hr e0 r ⟨U, M, F, ds, Qd, Ed, S0, rd, ⟨a, rest, hds, hz, h⟩, kQ, kE⟩
  have kin : K.In s.heap := e0.mod.kin.keeps fun b o e => (e0.bs b o e).1
  have body : ∀ {v : V} {u : Value} {vr : List V} {ur : List Value}, RelV v u → Vals vr ur → Rep K F v a → Reps K F vr rest →
      (∃ kk, bindArgs (PySem.W.fnOf x qual (defArgs st) (defBody st) (defScope st) (.ref T) kV doc pm an cdv ct) ⟨us, []⟩ = seqItems? (.ref T) >>= kk ∧ kk (some #[Value.none]) = (newTuple ur >>= fun t => pure [(p1, u), (pv, t)])) →
      codeAny (model P w) A (.call (.ref f) ⟨us, []⟩) (CR (L2.CX P w) outer P w H s Q E) s := by
    intro v u vr ur rv rr ra rs ⟨kk, b1, b2⟩
    have hn : H s.heap.objs.size = Option.none := e0.hok.fresh (Nat.le_refl _)
    have hzr : vr.length ≤ sizeLine := by rw [rs.length]; exact hz
    have hzu : ur.length ≤ sizeLine := by rw [← rr.length]; exact hzr
    refine StX.run_bnd (ps := [p1, pv]) (G := fun xs H2 => ∃ p, H p = Option.none ∧ xs = [v, V.ref p] ∧ H2 = upd H p (.tup vr)) lk hcd S hr e0 (fun A' Ex Q' hq => ?_) fun s2 H2 xs ⟨p, hp, ex, eH⟩ hr' => ?_
    · rw [b1]
      refine wpAny_bind (wpAny_seqItems (kin _ _ lT) oT ?_)
      rw [show ([Value.none] : List Value).toArray = #[Value.none] from rfl, b2]
      refine wpAny_bind (wpAny_newTuple (wpAny_pure ?_) hzu)
      have lay : ObjOk P w (upd H s.heap.objs.size (.tup vr)) (s.heap.push ({ cls := .type "tuple", data := .seq ur.toArray } : Obj)) s.heap.objs.size (.tup vr) := ⟨hzr, ur, rr, ⟨_, Heap.get?_push_size _ rfl, rfl, _, rfl⟩⟩
      have unl := StX.un_laid (fs := frs outer) (s := s) (o := ({ cls := .type "tuple", data := .seq ur.toArray } : Obj)) (u := .tup vr) hn
      exact hq _ _ [v, V.ref s.heap.objs.size] [u, Value.ref s.heap.objs.size] (StX.env0_laid e0 lay) unl rfl (fun e s' => StX.cxUp outer s H _ _ E e s' unl (fun b o q => Heap.get?_push_of_some _ q) rfl) (.cons rv (.cons rfl .nil)) rfl ⟨_, hn, rfl, rfl⟩
    · subst ex eH
      obtain ⟨sm, S'⟩ := S0.newF (o := .tup vr) hp
      obtain ⟨bd, hp1, hq1⟩ := hbody cdv A outer s2 (upd H p (.tup vr)) U E [a, .tup rest] M Qd Ed hr' h
      refine ⟨_, hp1, start0 N [a, .tup rest], M, _, _, _, _, _, _, S', env_start (.cons (ra.mono sm) (.cons (.tup upd_same (rs.mono sm)) .nil)), hq1, ?_, ?_, ?_, ?_, ?_⟩
      · exact fun ρ' M' F' σ' H' z s S' En => kQ _ M' F' .non H' z (sm.t s) S' .non
      · exact fun d M' F' v H' z s S' r => kQ d M' F' v H' z (sm.t s) S' r
      · exact fun ρ' M' F' σ' H' z s S' En => z.elim
      · exact fun ρ' M' F' σ' H' z s S' En => z.elim
      · exact fun C dd ρ' M' F' σ' H' z s S' En => kE C dd M' F' H' z (sm.t s) S'
  rcases hds with ⟨rfl, rfl, rfl⟩ | rfl
  · cases rd
    cases r
    exact body (v := .non) (u := Value.none) rfl .nil .non .nil (hb0 T kV doc pm an cdv ct _)
  · cases rd with
    | cons ra rs =>
      cases r with
      | cons rv rr => exact body rv rr ra rs (hb1 T kV doc pm an cdv ct _ _ _)
end
end DL
namespace DL
variable [Wd]
open PySem L2 PySem.Spec PyProof.Rows
section
variable {X : Cx} {g : G} {W : WX} {x m : Str} {p apos pos : Pos}
theorem dboot_str : bootBuiltins "str" = some (.type "str") := by decide +kernel
/-- a staticmethod called with nothing -/
theorem de_scall0 {k : Nat} {C q fa : Addr} {sd : SpD} {pl : Sem Bool} (r : ClX.CRead X.K C (.type "type")) (c : SMet X.K C m q fa) (F : FnD X.prog X.w X.K X.mg X.base k fa sd) (hr : Room k X.A) (hg : Gl X x) (hm : X.mg x = some (.ref C)) (hK : g.K = X.K) (tk : Takes X W)
    (ht : eval (.Call (.Attribute (.Name x p) m apos) [] [] pos) X.env = (do
      let ov ← eval (.Name x p) X.env
      standAt apos.atName
      let (f, first) ← holding [ov] (getMethod ov m pl)
      callWith pos f first (backTo pos (starEach [] X.env)) (backToKw pos (keywordEach [] X.env))) := by rfl) (hdb : (x == ("__debug__" : Str)) = false := by decide) :
    PE X (.Call (.Attribute (.Name x p) m apos) [] [] pos) (liftE g W (dCall sd dNil)) := by
  refine ⟨fun pins s σ H kk I ⟨ρ, M, F1, Q, E, S, En, z0, kQ, kE⟩ => ?_⟩
  obtain ⟨K0, U⟩ := g
  simp only at hK
  subst hK
  refine PySem.W.methodCall_KW (pl := pl) (thn ((pe_glob hg hm (v := .ref C) rfl hdb).run pins s σ H (fun y H1 => y = .ref C ∧ H1 = H) I ⟨rfl, rfl⟩) fun u s1 ⟨y, H1, I1, ry, ey, eH⟩ => ?_) ht
  subst ey eH
  obtain rfl : u = Value.ref C := ry
  obtain ⟨rest, hp⟩ := c.rc
  refine PySem.W.method_cls I1.kIn r.ga (PySem.W.cls_bind I1.kIn r.rd c.at_ (wpAny_call (PySem.W.sm_get (s := { s1 with toks := s1.toks + 1 }) I1.kIn hp (PySem.W.handed_on rfl ?_))))
  have I2 := I1.tok (s1.toks + 1)
  exact PySem.W.callWith_K0 I2.kIn c.kk (run_fnD (us := []) (Ex := fun cls d H' => W cls d σ H') F hr tk (fun _ _ _ h => h) I2 .nil ⟨U, M, F1, [], Q, E, S, .nil, z0, kQ, kE⟩)
end
end DL
namespace DL
variable [Wd]
open PySem L2 PySem.Spec PyProof.Rows
theorem tmul_same (l : Addr) (ys : Array Value) (m : Nat) (od : Option Addr) (so : Array (Option Value)) (k : Int) (tk0 : Tok) (e0 : (decide (k < -(2 ^ 63)) || decide (k ≥ 2 ^ 63)) = false) (e1 : (ys.isEmpty || k == 1) = true) :
    Meets (Builtin.«tuple.__mul__» ⟨[.ref l, .int k tk0], []⟩) (fun _ R s => s.heap.get? l = some { cls := .type "tuple", dict := od, data := .seq ys m, slots := so } ∧ R (.ok (.ret (Value.ref l))) s) :=
  .of_wp fun prog w A R s h => by
    obtain ⟨hp, gg, d, tk, os⟩ := s
    obtain ⟨hx, h⟩ := h
    have ix := AutoSeq1.idx_int
    wp_walk using wpAny_loadPart' hx
    refine wpAny_ite_false (decide_eq_false (by rw [e0]; decide)) ?_
    wp_walk using wpAny_loadPart' hx
    exact ⟨_, rfl, h⟩
theorem tmul_none (l : Addr) (ys : Array Value) (m : Nat) (od : Option Addr) (so : Array (Option Value)) (k : Int) (tk0 : Tok) (e0 : (decide (k < -(2 ^ 63)) || decide (k ≥ 2 ^ 63)) = false) (e1 : (ys.isEmpty || k == 1) = false) (e2 : (decide (k ≤ 0) || ys.isEmpty) = true) :
    Meets (Builtin.«tuple.__mul__» ⟨[.ref l, .int k tk0], []⟩) (fun _ R s => s.heap.get? l = some { cls := .type "tuple", dict := od, data := .seq ys m, slots := so } ∧
      R (.ok (.ret (Value.ref s.heap.objs.size))) { s with heap := s.heap.push { cls := Value.type "tuple", data := Data.seq #[] }, toks := s.toks }) :=
  .of_wp fun prog w A R s h => by
    obtain ⟨hp, gg, d, tk, os⟩ := s
    obtain ⟨hx, h⟩ := h
    have ix := AutoSeq1.idx_int
    wp_walk using wpAny_loadPart' hx
    refine wpAny_ite_false (decide_eq_false (by rw [e0]; decide)) ?_
    wp_walk using wpAny_loadPart' hx
    exact ⟨_, rfl, h⟩
/-- a tuple, so many times -/
def rTimes (K : PySem.W.Frag) : R2 := fun x y H Q => ∃ l k xs, x = .ref l ∧ y = .int k ∧ SqT K H l xs ∧ 0 ≤ k ∧ k ≤ 1000 ∧ xs.length ≤ 1000 ∧
  ((xs = [] ∨ k = 1) → Q (.ref l) H) ∧ (¬ (xs = [] ∨ k = 1) → ∀ p, H p = none → Q (.ref p) (upd H p (.tup (List.replicate k.toNat xs).flatten)))
section
variable {X : Cx} {g : G}
theorem op_times : OpR X (binaryOp .Mult) (rTimes X.K) := by
  intro pins s σ H x y v u Q I rx ry h
  obtain ⟨l, k, xs, rfl, rfl, hT, h0, h1, hz, q1, q2⟩ := h
  by_cases c : xs ≠ [] ∧ 2 ≤ k
  · exact op_repT pins s σ H _ _ v u Q I rx ry ⟨l, k, xs, rfl, rfl, hT, c.1, c.2, h1, hz, q2 (fun e => e.elim c.1 (by omega))⟩
  cases rx
  obtain ⟨t, rfl⟩ := ry
  obtain ⟨its, r, ⟨⟨cls, dd, data, sl⟩, ho, hc, n, hd⟩, hs⟩ := I.tuple hT
  simp only at hc hd
  subst hc hd
  have hle : xs.length = its.length := r.length
  have c0 : (decide (k < -(2 ^ 63)) || decide (k ≥ 2 ^ 63)) = false := by
    rw [decide_eq_false (by omega : ¬ k < -(2 ^ 63)), decide_eq_false (by omega : ¬ k ≥ 2 ^ 63)]
    rfl
  have hi : its.toArray.isEmpty = decide (xs = []) := by
    cases its with
    | nil => rw [List.eq_nil_of_length_eq_zero hle]; rfl
    | cons a b => cases xs with
      | nil => exact absurd hle (by simp)
      | cons y ys => rfl
  refine wpAny_binaryOp_repeat_ref
    (T := "tuple") (U := "int") rfl ⟨_, ho, rfl⟩ (fun z => typeIs_int z k t)
    noFill_tuple_mul F.fills_int_mul F.slot_int_rmul repeat_tuple F.slot_int_index.lookup ?_
  refine call_meets F.slot_int_rmul (typeIs_int s k t)
    F.entry_int_rmul (F.args_int_rmul_2 _ _) (int_rmul_tuple k t l its.toArray n dd sl) ⟨ho, rfl, ⟨_, ho, rfl⟩, ?_⟩
  by_cases e : xs = [] ∨ k = 1
  · have c1 : (its.toArray.isEmpty || k == 1) = true := by
      rw [hi]
      rcases e with e | e
      · rw [decide_eq_true e]; rfl
      · subst e; simp
    refine call_meets F.slot_tuple_mul ⟨_, ho, rfl⟩
      F.entry_tuple_mul (F.args_tuple_mul_2 _ _) (tmul_same l its.toArray n dd sl k t c0 c1) ⟨ho, ?_⟩
    exact ⟨.ref l, H, I, rfl, q1 e⟩
  · have k0 : k = 0 := by
      have : xs ≠ [] := fun z => e (.inl z)
      have : ¬ 2 ≤ k := fun z => c ⟨this, z⟩
      have : k ≠ 1 := fun z => e (.inr z)
      omega
    subst k0
    have c1 : (its.toArray.isEmpty || (0 : Int) == 1) = false := by
      rw [hi, decide_eq_false (fun z => e (.inl z))]; rfl
    refine call_meets F.slot_tuple_mul ⟨_, ho, rfl⟩
      F.entry_tuple_mul (F.args_tuple_mul_2 _ _) (tmul_none l its.toArray n dd sl 0 t c0 c1 (by rfl)) ⟨ho, ?_⟩
    refine ⟨.ref s.heap.objs.size, _, I.laid (t' := s.toks) (o := .tup []) (fun b ob q => Heap.get?_push_of_some _ q) (Nat.le_refl _) ?_, rfl, q2 e _ (I.hok.fresh (Nat.le_refl _))⟩
    exact ⟨Nat.zero_le _, _, .nil, IsTup.new _ _⟩
inductive MulT (M : Mem) (Q : D → Mem → Prop) : D → D → Prop
  | mk {ds : List D} {n : Int} : 0 ≤ n → n ≤ 1000 → ds.length ≤ 1000 → Q (.tup (List.replicate n.toNat ds).flatten) M → MulT M Q (.tup ds) (.int n)
theorem od_times (hK : g.K = X.K) : OpD X g (binaryOp .Mult) (fun d e M Q => MulT M Q d e) := by
  intro pins s σ H x y v u k I rx ry h
  obtain ⟨F, M, d, e, Q, S, r1, r2, ar, kQ⟩ := h
  cases ar with
  | mk h0 h1 hl q =>
    cases r2
    cases r1 with
    | tup hp ra =>
      have k1 := S.sub.sqT (K := g.K) hp
      rw [hK] at k1
      refine op_times pins s σ H _ _ v u k I rx ry ⟨_, _, _, rfl, rfl, k1, h0, h1, by rw [ra.length]; exact hl, fun e => ?_, fun _ p hp => ?_⟩
      · rename_i es m a xs
        have e2 : (List.replicate m.toNat es).flatten = es := by
          rcases e with e | e
          · rw [(xs_nil ra).mp e]; simp
          · subst e; simp
        rw [e2] at q
        exact kQ _ M F _ H q (Same.r F) S (.tup hp ra)
      · obtain ⟨s, S'⟩ := S.newF (o := .tup _) hp
        exact kQ _ M _ _ _ q s S' (.tup upd_same ((ra.flat _).mono s))
abbrev rMulT : DR2 := fun d e M Q => MulT M Q d e
end
end DL
namespace DL
variable [Wd]
open PySem L2 PySem.Spec PyProof.Rows
/-! ### plans of groups that may live -/
abbrev Gb := D × List Str
def GP (M : Mem) (bs : List Gb) : Prop := ∀ b ∈ bs, IsS M b.1 (b.2.map .str)
theorem IsS.fr {ps : List Addr} {M M' : Mem} {d : D} {xs : List D} (h : IsS M d xs) (f : Fr ps M M') (hp : ∀ p, d = .ptr p → p ∉ ps) : IsS M' d xs := by
  cases h with
  | lst => exact .lst _
  | rol => exact .rol _
  | tup => exact .tup _
  | ptr hm => exact .ptr (f _ _ (hp _ rfl) hm)
theorem IsS.fr0 {M M' : Mem} {d : D} {xs : List D} (h : IsS M d xs) (f : Fr [] M M') : IsS M' d xs := h.fr f fun _ _ => by simp
theorem gp_tpl (M : Mem) (gs : List (List Str)) : GP M (gs.map fun g => (tpl g, g)) := fun b hb => by
  obtain ⟨g, _, rfl⟩ := List.mem_map.mp hb
  exact .tup _
section
variable {M : Mem} {K : PySem.W.Frag} {ds : List D} {Qd : D → Mem → Prop} {Ed : XD}
def spPlanG (cP : Addr) : SpD := fun ds M Q _ => ∃ q, ∃ bs : List Gb, ds = [.ptr q, .tup (bs.map (·.1))] ∧ (q, MO.obj cP []) ∈ M ∧ Nd M ∧ GP M bs ∧ bs.length ≤ 10000 ∧ (∀ b ∈ bs, b.2.length ≤ 10000) ∧
  ∀ M', Nd M' → Fr [q] M M' → (q, MO.obj cP (planE ((bs.map (·.2)).filter full))) ∈ M' → Q .non M'
theorem purePlanG {cP : Addr} {y0 y1 y2 : Str} (PO : PlanOk K cP) (h : spPlanG cP ds M Qd Ed) : dPlanI K (fun _ M' => Qd .non M') Qd (fun _ _ => False) (fun _ _ => False) (fun C dd _ M' => Ed C dd M') (start0 [y0, y1, y2] ds) M := by
  obtain ⟨q, bs, rfl, hq, nd, hg, hl, hb, kQ⟩ := h
  unfold dPlanI
  walk_at "dl"
  refine ⟨_, _, .tup _, lt_line (by rw [List.length_map]; omega), lc_if (fun b : Gb => b.1) (fun b => tpl b.2) (fun b => full b.2) trivial (fun b hb P h => ?_) (fun b hb _ P1 h1 => ?_) (.inl ?_)⟩
  · walk_at "dl"
    refine isS_len (hg b hb) ?_
    walk_at "dl"
    rw [List.length_map]
    unfold full at h
    simpa using h
  · walk_at "dl"
    refine tup_of (hg b hb) h1
  walk_at "dl"
  refine tup_of (.lst _) ?_
  rw [show (bs.filter fun b => full b.2).map (fun b => tpl b.2) = ((bs.map (·.2)).filter full).map tpl by rw [List.filter_map, List.map_map]; rfl]
  walk_at "dl"
  refine fld_new nd hq PO.f .nil (by simp) fun M1 U1 => ?_
  exact kQ M1 U1.nd U1.fr U1.at_
theorem star_planG {cP : Addr} {bs : List Gb} {q : Addr} {Q : D → Mem → Prop} {E : XD} (hq : Free q M) (nd : Nd M) (hg : GP M bs) (hl : bs.length ≤ 10000) (hb : ∀ b ∈ bs, b.2.length ≤ 10000) (k : ∀ M', Nd M' → Fr [] M M' → Q (planD cP ((bs.map (·.2)).filter full)) M') :
    SpD.star 1 (spPlanG cP) (.ptr q :: bs.map (·.1)) ((q, .obj cP []) :: M) (fun d M2 => d = .non ∧ ∃ d' M'', FzK K (.ptr q) M2 d' M'' ∧ Q d' M'') E := by
  refine ⟨[.ptr q], bs.map (·.1), rfl, rfl, by rw [List.length_map]; exact Nat.le_of_lt (lt_line (by omega)), ?_⟩
  refine ⟨q, bs, rfl, List.mem_cons_self, nd_new hq nd, fun b hb => (hg b hb).fr0 Fr.refl.cons, hl, hb, fun M' nd' f' hm => ⟨rfl, ?_⟩⟩
  obtain ⟨M2, U⟩ := del_ex nd' hm
  exact ⟨_, M2, .one U.up rfl, k M2 U.nd (fr_gone f' hq U.fr)⟩
/-- .. of tuples -/
theorem star_planT {cP : Addr} {gs : List (List Str)} {q : Addr} {Q : D → Mem → Prop} {E : XD} (hq : Free q M) (nd : Nd M) (hl : gs.length ≤ 10000) (hb : ∀ g ∈ gs, g.length ≤ 10000) (k : ∀ M', Nd M' → Fr [] M M' → Q (planD cP (gs.filter full)) M') :
    SpD.star 1 (spPlanG cP) (.ptr q :: gs.map tpl) ((q, .obj cP []) :: M) (fun d M2 => d = .non ∧ ∃ d' M'', FzK K (.ptr q) M2 d' M'' ∧ Q d' M'') E := by
  have := star_planG (K := K) (cP := cP) (E := E) (Q := Q) (bs := gs.map fun g => (tpl g, g)) hq nd (gp_tpl M gs) (by rw [List.length_map]; exact hl) (fun b hb' => by
    obtain ⟨g, hg, rfl⟩ := List.mem_map.mp hb'
    exact hb g hg) (by rw [List.map_map]; show ∀ M', Nd M' → Fr [] M M' → Q (planD cP ((gs.map id).filter full)) M'; rw [List.map_id]; exact k)
  rw [List.map_map] at this
  exact this
theorem full_all {gs : List (List Str)} (h : ∀ g ∈ gs, 0 < g.length) : gs.filter full = gs := by
  rw [List.filter_eq_self]
  exact fun g hg => decide_eq_true (h g hg)
theorem purePlAddG {cP : Addr} {y0 y1 y2 : Str} (PO : PlanOk K cP) (IC : C8.InsC K cP) (h : spPlAdd cP ds M Qd Ed) : dPlAdd K cP (SpD.star 1 (spPlanG cP)) (fun _ M' => Qd .non M') Qd (fun _ _ => False) (fun _ _ => False) (fun C dd _ M' => Ed C dd M') (start0 [y0, y1, y2] ds) M := by
  obtain ⟨gs, hs, rfl, hg, hh, hf, nd, kQ⟩ := h
  unfold dPlAdd
  walk_at "dl"
  refine .mk (.own _) (.obj (.obj _ _) IC) IC.me ?_
  walk_at "dl"
  refine g_iff' rfl ?_
  walk_at "dl"
  refine ⟨_, _, _, .obj _ _, PO.f, .head, ?_⟩
  walk_at "dl"
  refine ⟨_, .tup _, ?_⟩
  walk_at "dl"
  refine ⟨_, _, _, .obj _ _, PO.f, .head, ?_⟩
  walk_at "dl"
  refine ⟨_, .tup _, ?_⟩
  walk_at "dl"
  rw [List.append_nil, ← List.map_append]
  refine ⟨Nat.le_of_lt (lt_line (by rw [List.length_map, List.length_append]; omega)), .inl ?_⟩
  walk_at "dl"
  refine ⟨_, .lst _, ?_⟩
  walk_at "dl"
  rw [List.append_nil]
  intro q hq
  refine star_planT hq nd (by rw [List.length_append]; omega) (fun g hg => (hf g hg).2) fun M' nd' f' => ?_
  rw [full_all fun g hg => (hf g hg).1]
  walk_at "dl"
  exact kQ M' nd' f'
end
end DL
namespace Q
open PySem PySem.Spec PyProof.Rows L2 DL
variable [Wd]
def top (i : Nat) : Stmt := PySem.Challenge.pw_fusewalks_k10_plan_groups.main.body.getD i (.Pass ⟨0, 0, 0, 0⟩)
/-- where things stand -/
structure Ad where
  c_Plan : Addr
  f__law_source : Addr
  f__law_draw : Addr
  m_Plan___init__ : Addr
  m_Plan___iter__ : Addr
  m_Plan___len__ : Addr
  m_Plan___contains__ : Addr
  m_Plan___eq__ : Addr
  m_Plan___str__ : Addr
  m_Plan_walks : Addr
  f__law_names : Addr
  f__law_groups : Addr
  m_Plan___add__ : Addr
  m_Plan___or__ : Addr
  m_Plan___mul__ : Addr
  m_Plan_apart : Addr
  m_Plan_together : Addr
  f__law_apart : Addr
  f__law_together : Addr
  f__law_is : Addr
  f__law_plan : Addr
  m_Plan___rmul__ : Addr
  f_law : Addr
  q_Plan_apart : Addr
  q_Plan_together : Addr
  p_Plan_walks : Addr
abbrev s__law_source : Stmt := top 4
abbrev N__law_source : List Str := ["_law_script", "_law_cells", "_law_cell"]
theorem sc__law_source : FnScope N__law_source ["_law_script"] (defScope s__law_source) := ⟨rfl, rfl, rfl, by decide +kernel, rfl, by decide +kernel, by decide +kernel⟩
abbrev s__law_draw : Stmt := top 5
abbrev N__law_draw : List Str := ["_law_source_here", "_law_many", "_law_cells", "_law_at", "_law_number", "_law_mixed"]
theorem sc__law_draw : FnScope N__law_draw ["_law_source_here", "_law_many"] (defScope s__law_draw) := ⟨rfl, rfl, rfl, by decide +kernel, rfl, by decide +kernel, by decide +kernel⟩
abbrev s_Plan___init__ : Stmt := inClass (top 1) 0
abbrev N_Plan___init__ : List Str := ["self", "groups", "group"]
theorem sc_Plan___init__ : FnScope N_Plan___init__ ["self", "groups"] (defScope s_Plan___init__) := ⟨rfl, rfl, rfl, by decide +kernel, rfl, by decide +kernel, by decide +kernel⟩
abbrev s_Plan___iter__ : Stmt := inClass (top 1) 1
abbrev N_Plan___iter__ : List Str := ["self"]
theorem sc_Plan___iter__ : FnScope N_Plan___iter__ ["self"] (defScope s_Plan___iter__) := ⟨rfl, rfl, rfl, by decide +kernel, rfl, by decide +kernel, by decide +kernel⟩
abbrev s_Plan___len__ : Stmt := inClass (top 1) 2
abbrev N_Plan___len__ : List Str := ["self"]
theorem sc_Plan___len__ : FnScope N_Plan___len__ ["self"] (defScope s_Plan___len__) := ⟨rfl, rfl, rfl, by decide +kernel, rfl, by decide +kernel, by decide +kernel⟩
abbrev s_Plan___contains__ : Stmt := inClass (top 1) 3
abbrev N_Plan___contains__ : List Str := ["self", "name", "group"]
theorem sc_Plan___contains__ : FnScope N_Plan___contains__ ["self", "name"] (defScope s_Plan___contains__) := ⟨rfl, rfl, rfl, by decide +kernel, rfl, by decide +kernel, by decide +kernel⟩
abbrev s_Plan___eq__ : Stmt := inClass (top 1) 4
abbrev N_Plan___eq__ : List Str := ["self", "other"]
theorem sc_Plan___eq__ : FnScope N_Plan___eq__ ["self", "other"] (defScope s_Plan___eq__) := ⟨rfl, rfl, rfl, by decide +kernel, rfl, by decide +kernel, by decide +kernel⟩
abbrev s_Plan___str__ : Stmt := inClass (top 1) 5
abbrev N_Plan___str__ : List Str := ["self", "group"]
theorem sc_Plan___str__ : FnScope N_Plan___str__ ["self"] (defScope s_Plan___str__) := ⟨rfl, rfl, rfl, by decide +kernel, rfl, by decide +kernel, by decide +kernel⟩
abbrev s_Plan_walks : Stmt := inClass (top 1) 11
abbrev N_Plan_walks : List Str := ["self", "group", "name"]
theorem sc_Plan_walks : FnScope N_Plan_walks ["self"] (defScope s_Plan_walks) := ⟨rfl, rfl, rfl, by decide +kernel, rfl, by decide +kernel, by decide +kernel⟩
abbrev s__law_names : Stmt := top 6
abbrev N__law_names : List Str := ["_law_source_here", "_law_count", "_law_letters", "_law_ahead", "_law_behind", "_law_uneven", "_law_first", "_law_fill", "_law_k"]
theorem sc__law_names : FnScope N__law_names ["_law_source_here", "_law_count"] (defScope s__law_names) := ⟨rfl, rfl, rfl, by decide +kernel, rfl, by decide +kernel, by decide +kernel⟩
abbrev s__law_groups : Stmt := top 7
abbrev N__law_groups : List Str := ["_law_source_here", "_law_names_here", "_law_groups_here", "_law_n", "_law_k"]
theorem sc__law_groups : FnScope N__law_groups ["_law_source_here", "_law_names_here"] (defScope s__law_groups) := ⟨rfl, rfl, rfl, by decide +kernel, rfl, by decide +kernel, by decide +kernel⟩
abbrev s_Plan___add__ : Stmt := inClass (top 1) 6
abbrev N_Plan___add__ : List Str := ["self", "other", "groups"]
theorem sc_Plan___add__ : FnScope N_Plan___add__ ["self", "other"] (defScope s_Plan___add__) := ⟨rfl, rfl, rfl, by decide +kernel, rfl, by decide +kernel, by decide +kernel⟩
abbrev s_Plan___or__ : Stmt := inClass (top 1) 7
abbrev N_Plan___or__ : List Str := ["self", "other", "names"]
theorem sc_Plan___or__ : FnScope N_Plan___or__ ["self", "other"] (defScope s_Plan___or__) := ⟨rfl, rfl, rfl, by decide +kernel, rfl, by decide +kernel, by decide +kernel⟩
abbrev s_Plan___mul__ : Stmt := inClass (top 1) 8
abbrev N_Plan___mul__ : List Str := ["self", "times", "groups"]
theorem sc_Plan___mul__ : FnScope N_Plan___mul__ ["self", "times"] (defScope s_Plan___mul__) := ⟨rfl, rfl, rfl, by decide +kernel, rfl, by decide +kernel, by decide +kernel⟩
abbrev s_Plan_apart : Stmt := inClass (top 1) 12
abbrev N_Plan_apart : List Str := ["first", "names", "groups", "name"]
theorem sc_Plan_apart : FnScope N_Plan_apart ["first", "names"] (defScope s_Plan_apart) := ⟨rfl, rfl, rfl, by decide +kernel, rfl, by decide +kernel, by decide +kernel⟩
abbrev s_Plan_together : Stmt := inClass (top 1) 13
abbrev N_Plan_together : List Str := ["first", "names"]
theorem sc_Plan_together : FnScope N_Plan_together ["first", "names"] (defScope s_Plan_together) := ⟨rfl, rfl, rfl, by decide +kernel, rfl, by decide +kernel, by decide +kernel⟩
abbrev s__law_apart : Stmt := top 9
abbrev N__law_apart : List Str := ["_law_names_here"]
theorem sc__law_apart : FnScope N__law_apart ["_law_names_here"] (defScope s__law_apart) := ⟨rfl, rfl, rfl, by decide +kernel, rfl, by decide +kernel, by decide +kernel⟩
abbrev s__law_together : Stmt := top 10
abbrev N__law_together : List Str := ["_law_names_here"]
theorem sc__law_together : FnScope N__law_together ["_law_names_here"] (defScope s__law_together) := ⟨rfl, rfl, rfl, by decide +kernel, rfl, by decide +kernel, by decide +kernel⟩
abbrev s__law_is : Stmt := top 11
abbrev N__law_is : List Str := ["_law_plan_here", "_law_groups_here", "_law_names_here", "_law_due", "_law_group", "_law_walks", "_law_name"]
theorem sc__law_is : FnScope N__law_is ["_law_plan_here", "_law_groups_here", "_law_names_here"] (defScope s__law_is) := ⟨rfl, rfl, rfl, by decide +kernel, rfl, by decide +kernel, by decide +kernel⟩
abbrev s__law_plan : Stmt := top 8
abbrev N__law_plan : List Str := ["_law_groups_here", "_law_rest", "_law_group"]
theorem sc__law_plan : FnScope N__law_plan ["_law_groups_here"] (defScope s__law_plan) := ⟨rfl, rfl, rfl, by decide +kernel, rfl, by decide +kernel, by decide +kernel⟩
abbrev s_Plan___rmul__ : Stmt := inClass (top 1) 9
abbrev N_Plan___rmul__ : List Str := ["self", "times"]
theorem sc_Plan___rmul__ : FnScope N_Plan___rmul__ ["self", "times"] (defScope s_Plan___rmul__) := ⟨rfl, rfl, rfl, by decide +kernel, rfl, by decide +kernel, by decide +kernel⟩
abbrev s_law : Stmt := top 12
abbrev N_law : List Str := ["_law_script", "_law_source_here", "_law_names_here", "_law_one", "_law_two", "_law_given", "_law_group", "_law_first", "_law_second", "_law_times", "_law_few", "_law_n", "_law_joined", "_law_flat", "_law_same", "_law_name"]
theorem sc_law : FnScope N_law ["_law_script"] (defScope s_law) := ⟨rfl, rfl, rfl, by decide +kernel, rfl, by decide +kernel, by decide +kernel⟩
/-! ### the promises -/
def sd__law_source (K : PySem.W.Frag) (A : Ad) : SpD := spSource
def sd__law_draw (K : PySem.W.Frag) (A : Ad) : SpD := spDraw
def sdx_Plan___init__ (K : PySem.W.Frag) (A : Ad) : SpD := spPlanG A.c_Plan
def sd_Plan___init__ (K : PySem.W.Frag) (A : Ad) : SpD := SpD.star 1 (sdx_Plan___init__ K A)

def sd_Plan___eq__ (K : PySem.W.Frag) (A : Ad) : SpD := spPlEq A.c_Plan
def sd_Plan_walks (K : PySem.W.Frag) (A : Ad) : SpD := spPlWalks A.c_Plan
def sd__law_names (K : PySem.W.Frag) (A : Ad) : SpD := spNames
def sd_Plan___add__ (K : PySem.W.Frag) (A : Ad) : SpD := spPlAdd A.c_Plan
def grL (g : List Str) : D := .lst (g.map .str)
/-- groups that are small -/
structure SmG (n : Nat) (gs : List (List Str)) : Prop where
  l : gs.length ≤ n
  g : ∀ g ∈ gs, g.length ≤ 100
  x : ∀ g ∈ gs, ∀ x ∈ g, NameOk x
def jn1 (g : List Str) : Str := PySem.Txt.join "|" g
def planS (gs : List (List Str)) : Str := PySem.Txt.join " + " (gs.map jn1)
def sd_Plan___len__ (K : PySem.W.Frag) (A : Ad) : SpD := fun ds M Q _ => ∃ gs : List (List Str), ds = [planD A.c_Plan gs] ∧ Q (.int (gs.length : Nat)) M
def sd_Plan___contains__ (K : PySem.W.Frag) (A : Ad) : SpD := fun ds M Q _ => ∃ (gs : List (List Str)) (x : Str), ds = [planD A.c_Plan gs, .str x] ∧ gs.length ≤ 1000 ∧ Q (.bl (decide (x ∈ gs.flatten))) M
def sd_Plan___str__ (K : PySem.W.Frag) (A : Ad) : SpD := fun ds M Q _ => ∃ gs : List (List Str), ds = [planD A.c_Plan gs] ∧ SmG 1000 gs ∧ Q (.str (planS gs)) M
def sd_Plan___or__ (K : PySem.W.Frag) (A : Ad) : SpD := fun ds M Q _ => ∃ gs hs : List (List Str), ds = [planD A.c_Plan gs, planD A.c_Plan hs] ∧ gs.flatten.length ≤ 1000 ∧ hs.flatten.length ≤ 1000 ∧ Nd M ∧ ∀ M', Nd M' → Fr [] M M' → Q (planD A.c_Plan ([gs.flatten ++ hs.flatten].filter full)) M'
def spMulP (c : Addr) : SpD := fun ds M Q _ => ∃ (gs : List (List Str)) (n : Nat), ds = [planD c gs, .int n] ∧ n ≤ 1000 ∧ gs.length ≤ 10 ∧ (∀ g ∈ gs, 0 < g.length ∧ g.length ≤ 10000) ∧ Nd M ∧ ∀ M', Nd M' → Fr [] M M' → Q (planD c (List.replicate n gs).flatten) M'
def sd_Plan___mul__ (K : PySem.W.Frag) (A : Ad) : SpD := spMulP A.c_Plan
def sd_Plan___rmul__ (K : PySem.W.Frag) (A : Ad) : SpD := spMulP A.c_Plan
/-- the names that are handed to apart and together -/
def NmA (names : List Str) (ds : List D) : Prop := (names = [] ∧ ds = [.non, .tup []]) ∨ ∃ x xs, names = x :: xs ∧ ds = [.str x, .tup (xs.map .str)]
def sdx_Plan_apart (K : PySem.W.Frag) (A : Ad) : SpD := fun ds M Q _ => ∃ names : List Str, NmA names ds ∧ names.length ≤ 100 ∧ Nd M ∧ ∀ M', Nd M' → Fr [] M M' → Q (planD A.c_Plan (names.map fun x => [x])) M'
def sd_Plan_apart (K : PySem.W.Frag) (A : Ad) : SpD := SpD.starN (sdx_Plan_apart K A)
def sdx_Plan_together (K : PySem.W.Frag) (A : Ad) : SpD := fun ds M Q _ => ∃ names : List Str, NmA names ds ∧ names.length ≤ 100 ∧ Nd M ∧ ∀ M', Nd M' → Fr [] M M' → Q (planD A.c_Plan ([names].filter full)) M'
def sd_Plan_together (K : PySem.W.Frag) (A : Ad) : SpD := SpD.starN (sdx_Plan_together K A)
def sd__law_apart (K : PySem.W.Frag) (A : Ad) : SpD := fun ds M Q _ => ∃ names : List Str, ds = [.lst (names.map .str)] ∧ names.length ≤ 3 ∧ Nd M ∧ ∀ M', Nd M' → Fr [] M M' → Q (planD A.c_Plan (names.map fun x => [x])) M'
def sd__law_together (K : PySem.W.Frag) (A : Ad) : SpD := fun ds M Q _ => ∃ names : List Str, ds = [.lst (names.map .str)] ∧ names.length ≤ 3 ∧ Nd M ∧ ∀ M', Nd M' → Fr [] M M' → Q (planD A.c_Plan ([names].filter full)) M'
def sd__law_groups (K : PySem.W.Frag) (A : Ad) : SpD := fun ds M Q _ => ∃ p c b, ∃ ns : List Str, ds = [.ptr p, .lst (ns.map .str)] ∧ 0 < ns.length ∧ ns.length ≤ 20 ∧ Nd M ∧ b < 50000000 ∧ Src p c b M ∧ ∀ (gs : List (List Str)) M', gs.length ≤ 6 → (∀ g ∈ gs, g.length ≤ 4 ∧ ∀ x ∈ g, x ∈ ns) → Nd M' → Src p c (b + 40) M' → Fr [p, c] M M' → Q (.lst (gs.map grL)) M'
def sd__law_plan (K : PySem.W.Frag) (A : Ad) : SpD := fun ds M Q _ => ∃ (d : D) (bs : List Gb), ds = [d] ∧ IsM M d (bs.map (·.1)) ∧ GP M bs ∧ bs.length ≤ 6 ∧ (∀ b ∈ bs, b.2.length ≤ 1000) ∧ Nd M ∧ ∀ M', Nd M' → Fr [] M M' → Q (planD A.c_Plan ((bs.map (·.2)).filter full)) M'
def sd__law_is (K : PySem.W.Frag) (A : Ad) : SpD := fun ds M Q _ => ∃ (gs : List (List Str)) (ns : List Str), ds = [planD A.c_Plan (gs.filter full), .lst (gs.map grL), .lst (ns.map .str)] ∧ SmG 1000 gs ∧ ns.length ≤ 100 ∧ Q (.bl true) M
def lawSp : SpD := fun ds M Q _ => ∃ ns : List Int, ds = [.rol (ns.map .int)] ∧ ns.length ≤ 63 ∧ Nd M ∧ ∀ M', Q (.bl true) M'
def sd_law (K : PySem.W.Frag) (A : Ad) : SpD := lawSp
/-- what the top has left -/
structure Txt (K : PySem.W.Frag) (mg : Str → Option Value) (A : Ad) : Prop where
  g__law_source : mg "_law_source" = some (.ref A.f__law_source)
  k__law_source : PySem.W.keepIn K (.ref A.f__law_source) = true
  g__law_draw : mg "_law_draw" = some (.ref A.f__law_draw)
  k__law_draw : PySem.W.keepIn K (.ref A.f__law_draw) = true
  g__law_names : mg "_law_names" = some (.ref A.f__law_names)
  k__law_names : PySem.W.keepIn K (.ref A.f__law_names) = true
  g__law_groups : mg "_law_groups" = some (.ref A.f__law_groups)
  k__law_groups : PySem.W.keepIn K (.ref A.f__law_groups) = true
  g__law_apart : mg "_law_apart" = some (.ref A.f__law_apart)
  k__law_apart : PySem.W.keepIn K (.ref A.f__law_apart) = true
  g__law_together : mg "_law_together" = some (.ref A.f__law_together)
  k__law_together : PySem.W.keepIn K (.ref A.f__law_together) = true
  g__law_is : mg "_law_is" = some (.ref A.f__law_is)
  k__law_is : PySem.W.keepIn K (.ref A.f__law_is) = true
  g__law_plan : mg "_law_plan" = some (.ref A.f__law_plan)
  k__law_plan : PySem.W.keepIn K (.ref A.f__law_plan) = true
  g_law : mg "law" = some (.ref A.f_law)
  k_law : PySem.W.keepIn K (.ref A.f_law) = true
  g_Plan : mg "Plan" = some (.ref A.c_Plan)
  cl_Plan : Cls K A.c_Plan
  mk_Plan : Mk K A.c_Plan A.m_Plan___init__
  rc_Plan : ClX.CRead K A.c_Plan (.type "type")
  it_Plan___iter__ : IterC K A.c_Plan A.m_Plan___iter__
  me_Plan___iter__ : Meth K A.c_Plan "__iter__" A.m_Plan___iter__
  ow_Plan___iter__ : OwnOp K A.c_Plan A.m_Plan___iter__ "__iter__"
  me_Plan___len__ : Meth K A.c_Plan "__len__" A.m_Plan___len__
  ow_Plan___len__ : OwnOp K A.c_Plan A.m_Plan___len__ "__len__"
  me_Plan___contains__ : Meth K A.c_Plan "__contains__" A.m_Plan___contains__
  ow_Plan___contains__ : OwnOp K A.c_Plan A.m_Plan___contains__ "__contains__"
  me_Plan___eq__ : Meth K A.c_Plan "__eq__" A.m_Plan___eq__
  ow_Plan___eq__ : OwnOp K A.c_Plan A.m_Plan___eq__ "__eq__"
  me_Plan___str__ : Meth K A.c_Plan "__str__" A.m_Plan___str__
  ow_Plan___str__ : OwnOp K A.c_Plan A.m_Plan___str__ "__str__"
  me_Plan___add__ : Meth K A.c_Plan "__add__" A.m_Plan___add__
  ow_Plan___add__ : OwnOp K A.c_Plan A.m_Plan___add__ "__add__"
  me_Plan___or__ : Meth K A.c_Plan "__or__" A.m_Plan___or__
  ow_Plan___or__ : OwnOp K A.c_Plan A.m_Plan___or__ "__or__"
  me_Plan___mul__ : Meth K A.c_Plan "__mul__" A.m_Plan___mul__
  ow_Plan___mul__ : OwnOp K A.c_Plan A.m_Plan___mul__ "__mul__"
  oi_Plan___mul__ : OwnInt K A.c_Plan "mul"
  st_Plan_apart : SMet K A.c_Plan "apart" A.q_Plan_apart A.m_Plan_apart
  st_Plan_together : SMet K A.c_Plan "together" A.q_Plan_together A.m_Plan_together
  me_Plan___rmul__ : Meth K A.c_Plan "__rmul__" A.m_Plan___rmul__
  or_Plan___rmul__ : OwnRmul K A.c_Plan A.m_Plan___rmul__
  pr_Plan_walks : PropOf K A.c_Plan "walks" A.p_Plan_walks A.m_Plan_walks
  fo_Plan__groups : FldOk K A.c_Plan "_groups"
  ic_Plan : C8.InsC K A.c_Plan
  z_any : mg "any" = none
  z_bool : mg "bool" = none
  z_int : mg "int" = none
  z_isinstance : mg "isinstance" = none
  z_iter : mg "iter" = none
  z_len : mg "len" = none
  z_list : mg "list" = none
  z_range : mg "range" = none
  z_str : mg "str" = none
  z_sum : mg "sum" = none
  z_tuple : mg "tuple" = none
def d__law_source (K : PySem.W.Frag) (A : Ad) : DS := sSeq (sAsg (dLc (iAny (dSl (dVar 0) (oNone) (oSome (dC (.int 63))))) (.nm 2) (dYes) (dCB rInt (dCons (dVar 2) (dNil))) [2]) (gNm 1)) (sRet (dLst (dCons (dVar 1) (dCons (dLc (iAny (dVar 1)) (.nm 2) (dYes) (dOp rGe (dVar 2) (dOp rPow (dC (.int 10)) (dC (.int 18)))) [2]) (dCons (dC (.int 0)) (dCons (dC (.int 0)) (dCons (dOp rMod (dCB rInt (dCons (dCB rSum (dCons (dVar 1) (dNil))) (dNil))) (dC (.int 1000003))) (dNil))))))))
def d__law_draw (K : PySem.W.Frag) (A : Ad) : DS := sSeq (sAsg (dOp rIx (dVar 0) (dC (.int 0))) (gNm 2)) (sSeq (sAsg (dOp rIx (dVar 0) (dC (.int 2))) (gNm 3)) (sSeq (sIf (dB (dOp rLt (dVar 3) (dCB rLen (dCons (dVar 2) (dNil))))) (sSeq (sAsg (dOp rIx (dVar 2) (dVar 3)) (gNm 4)) (sSeq (sAsg (dOp rDiv (dVar 4) (dVar 1)) (gSub (dVar 2) (dVar 3))) (sSeq (sIf (dOr (dNot (dB (dOp rIx (dOp rIx (dVar 0) (dC (.int 1))) (dVar 3)))) (dB (dOp rEq (dOp rIx (dVar 2) (dVar 3)) (dC (.int 0))))) (sAsg (dOp rAdd (dVar 3) (dC (.int 1))) (gSub (dVar 0) (dC (.int 2)))) (sNext)) (sRet (dOp rMod (dCB rInt (dCons (dVar 4) (dNil))) (dVar 1)))))) (sNext)) (sSeq (sIf (dB (dOp rEq (dOp rIx (dVar 0) (dC (.int 4))) (dC (.int 0)))) (sRet (dC (.int 0))) (sNext)) (sSeq (sAsg (dOp rAdd (dOp rIx (dVar 0) (dC (.int 3))) (dC (.int 1))) (gSub (dVar 0) (dC (.int 3)))) (sSeq (sAsg (dOp rMod (dCB rInt (dCons (dOp rMul (dOp rAdd (dOp rIx (dVar 0) (dC (.int 4))) (dOp rMul (dOp rIx (dVar 0) (dC (.int 3))) (dC (.int 7919)))) (dC (.int 48271))) (dNil))) (dC (.int 2147483647))) (gNm 5)) (sRet (dOp rMod (dOp rDiv (dOp rMod (dCB rInt (dCons (dOp rMul (dVar 5) (dVar 5)) (dNil))) (dC (.int 998244353))) (dC (.int 7))) (dVar 1))))))))
def d_Plan___init__ (K : PySem.W.Frag) (A : Ad) : DS := sFldD K (dVar 0) (dCB rTuple (dCons (dLc (iAny (dVar 1)) (.nm 2) (dB (dOp rGt (dCB rLen (dCons (dVar 2) (dNil))) (dC (.int 0)))) (dCB rTuple (dCons (dVar 2) (dNil))) [2]) (dNil))) "_groups"
def d_Plan___len__ (K : PySem.W.Frag) (A : Ad) : DS := sRet (dCB rLen (dCons (dFld K (dVar 0) "_groups") (dNil)))
def d_Plan___contains__ (K : PySem.W.Frag) (A : Ad) : DS := sRet (dCB rAny (dCons (dLc (iAny (dFld K (dVar 0) "_groups")) (.nm 2) (dYes) (dOp rIn (dVar 1) (dVar 2)) [2]) (dNil)))
def d_Plan___eq__ (K : PySem.W.Frag) (A : Ad) : DS := sRet (dAndV (dCB (rIsi K) (dCons (dVar 1) (dCons (dC (.ptr A.c_Plan)) (dNil)))) (dOp rEq (dFld K (dVar 0) "_groups") (dFld K (dVar 1) "_groups")))
def d_Plan___str__ (K : PySem.W.Frag) (A : Ad) : DS := sRet (dBM "str" rJoin (dC (.str (" + " : Str))) (dCons (dLc (iAny (dFld K (dVar 0) "_groups")) (.nm 1) (dYes) (dBM "str" rJoin (dC (.str ("|" : Str))) (dCons (dVar 1) (dNil))) [1]) (dNil)))
def d_Plan_walks (K : PySem.W.Frag) (A : Ad) : DS := sRet (dCB rTuple (dCons (dLc2 (iAny (dFld K (dVar 0) "_groups")) (.nm 1) (dYes) (iAny (dVar 1)) (.nm 2) (dYes) (dVar 2) [1, 2] [2]) (dNil)))
def d__law_names (K : PySem.W.Frag) (A : Ad) : DS := sSeq (sAsg (dC (.str ("abcdefghijklmnopqrstuvwxyz" : Str))) (gNm 2)) (sSeq (sAsg (dCall (sd__law_draw K A) (dCons (dVar 0) (dCons (dC (.int 4)) (dNil)))) (gNm 3)) (sSeq (sAsg (dCall (sd__law_draw K A) (dCons (dVar 0) (dCons (dC (.int 4)) (dNil)))) (gNm 4)) (sSeq (sAsg (dCall (sd__law_draw K A) (dCons (dVar 0) (dCons (dC (.int 2)) (dNil)))) (gNm 5)) (sSeq (sAsg (dCall (sd__law_draw K A) (dCons (dVar 0) (dCons (dC (.int 26)) (dNil)))) (gNm 6)) (sSeq (sAsg (dOp rIx (dVar 2) (dCall (sd__law_draw K A) (dCons (dVar 0) (dCons (dC (.int 26)) (dNil))))) (gNm 7)) (sRet (dLc (iRg1 (dCons (dVar 1) (dNil))) (.nm 8) (dYes) (dOp rAdd (dOp rAdd (dOp rMul (dVar 7) (dVar 3)) (dOp rIx (dVar 2) (dOp rMod (dCB rInt (dCons (dOp rAdd (dVar 6) (dVar 8)) (dNil))) (dC (.int 26))))) (dOp rMul (dVar 7) (dOp rAdd (dVar 4) (dOp rMul (dVar 5) (dOp rMod (dCB rInt (dCons (dVar 8) (dNil))) (dC (.int 3))))))) [8])))))))
def d__law_groups (K : PySem.W.Frag) (A : Ad) : DS := sSeq (sAsg (dLst (dNil)) (gNm 2)) (sSeq (sFor (iRg1 (dCons (dCall (sd__law_draw K A) (dCons (dVar 0) (dCons (dC (.int 7)) (dNil)))) (dNil))) (gNm 3) (sDrop (dBM "list" rApp (dVar 2) (dCons (dLc (iRg1 (dCons (dCall (sd__law_draw K A) (dCons (dVar 0) (dCons (dC (.int 5)) (dNil)))) (dNil))) (.nm 4) (dYes) (dOp rIx (dVar 1) (dCall (sd__law_draw K A) (dCons (dVar 0) (dCons (dCB rLen (dCons (dVar 1) (dNil))) (dNil))))) [4]) (dNil))))) (sRet (dZK K (dVar 2))))
def d_Plan___add__ (K : PySem.W.Frag) (A : Ad) : DS := sSeq (sIf (dNot (dB (dCB (rIsi K) (dCons (dVar 1) (dCons (dC (.ptr A.c_Plan)) (dNil)))))) (sNever) (sNext)) (sSeq (sAsg (dLst (dStar (dFld K (dVar 0) "_groups") (dStar (dFld K (dVar 1) "_groups") (dNil)))) (gNm 2)) (sRet (dZK K (dMake A.c_Plan (sd_Plan___init__ K A) (dStar (dVar 2) dNil)))))
def d_Plan___or__ (K : PySem.W.Frag) (A : Ad) : DS := sSeq (sIf (dNot (dB (dCB (rIsi K) (dCons (dVar 1) (dCons (dC (.ptr A.c_Plan)) (dNil)))))) (sNever) (sNext)) (sSeq (sAsg (dOp rAdd (dProp A.c_Plan (sd_Plan_walks K A) (dVar 0)) (dProp A.c_Plan (sd_Plan_walks K A) (dVar 1))) (gNm 2)) (sRet (dZK K (dMake A.c_Plan (sd_Plan___init__ K A) (dCons (dVar 2) (dNil))))))
def d_Plan___mul__ (K : PySem.W.Frag) (A : Ad) : DS := sSeq (sAsg (dOp rMulT (dFld K (dVar 0) "_groups") (dVar 1)) (gNm 2)) (sRet (dZK K (dMake A.c_Plan (sd_Plan___init__ K A) (dStar (dVar 2) dNil))))
def d_Plan_apart (K : PySem.W.Frag) (A : Ad) : DS := sSeq (sIf (dB (dOp rIs (dVar 0) (dC .non))) (sRet (dZK K (dMake A.c_Plan (sd_Plan___init__ K A) dNil))) (sNext)) (sSeq (sAsg (dLc (iAny (dTup (dCons (dVar 0) (dStar (dVar 1) (dNil))))) (.nm 3) (dYes) (dTup (dCons (dVar 3) (dNil))) [3]) (gNm 2)) (sRet (dZK K (dMake A.c_Plan (sd_Plan___init__ K A) (dStar (dVar 2) dNil)))))
def d_Plan_together (K : PySem.W.Frag) (A : Ad) : DS := sSeq (sIf (dB (dOp rIs (dVar 0) (dC .non))) (sRet (dZK K (dMake A.c_Plan (sd_Plan___init__ K A) dNil))) (sNext)) (sRet (dZK K (dMake A.c_Plan (sd_Plan___init__ K A) (dCons (dTup (dCons (dVar 0) (dStar (dVar 1) (dNil)))) (dNil)))))
def d__law_apart (K : PySem.W.Frag) (A : Ad) : DS := sSeq (sIf (dB (dOp rEq (dCB rLen (dCons (dVar 0) (dNil))) (dC (.int 0)))) (sRet (dZK K (dCall (sd_Plan_apart K A) dNil))) (sNext)) (sSeq (sIf (dB (dOp rEq (dCB rLen (dCons (dVar 0) (dNil))) (dC (.int 1)))) (sRet (dZK K (dCall (sd_Plan_apart K A) (dCons (dOp rIx (dVar 0) (dC (.int 0))) (dNil))))) (sNext)) (sSeq (sIf (dB (dOp rEq (dCB rLen (dCons (dVar 0) (dNil))) (dC (.int 2)))) (sRet (dZK K (dCall (sd_Plan_apart K A) (dCons (dOp rIx (dVar 0) (dC (.int 0))) (dCons (dOp rIx (dVar 0) (dC (.int 1))) (dNil)))))) (sNext)) (sRet (dZK K (dCall (sd_Plan_apart K A) (dCons (dOp rIx (dVar 0) (dC (.int 0))) (dCons (dOp rIx (dVar 0) (dC (.int 1))) (dCons (dOp rIx (dVar 0) (dC (.int 2))) (dNil)))))))))
def d__law_together (K : PySem.W.Frag) (A : Ad) : DS := sSeq (sIf (dB (dOp rEq (dCB rLen (dCons (dVar 0) (dNil))) (dC (.int 0)))) (sRet (dZK K (dCall (sd_Plan_together K A) dNil))) (sNext)) (sSeq (sIf (dB (dOp rEq (dCB rLen (dCons (dVar 0) (dNil))) (dC (.int 1)))) (sRet (dZK K (dCall (sd_Plan_together K A) (dCons (dOp rIx (dVar 0) (dC (.int 0))) (dNil))))) (sNext)) (sSeq (sIf (dB (dOp rEq (dCB rLen (dCons (dVar 0) (dNil))) (dC (.int 2)))) (sRet (dZK K (dCall (sd_Plan_together K A) (dCons (dOp rIx (dVar 0) (dC (.int 0))) (dCons (dOp rIx (dVar 0) (dC (.int 1))) (dNil)))))) (sNext)) (sRet (dZK K (dCall (sd_Plan_together K A) (dCons (dOp rIx (dVar 0) (dC (.int 0))) (dCons (dOp rIx (dVar 0) (dC (.int 1))) (dCons (dOp rIx (dVar 0) (dC (.int 2))) (dNil)))))))))
def d__law_is (K : PySem.W.Frag) (A : Ad) : DS := sSeq (sAsg (dLc (iAny (dVar 1)) (.nm 4) (dB (dOp rGt (dCB rLen (dCons (dVar 4) (dNil))) (dC (.int 0)))) (dCB rTuple (dCons (dVar 4) (dNil))) [4]) (gNm 3)) (sSeq (sAsg (dLst (dNil)) (gNm 5)) (sSeq (sFor (iAny (dVar 3)) (gNm 4) (sAsg (dOp rAdd (dVar 5) (dCB rList (dCons (dVar 4) (dNil)))) (gNm 5))) (sSeq (sIf (dOr (dB (dOp rNe (dLc (iOwn A.c_Plan "_groups" (dVar 0)) (.nm 4) (dYes) (dVar 4) [4]) (dVar 3))) (dOr (dB (dOp rNe (dCB (rLenO A.c_Plan (sd_Plan___len__ K A)) (dCons (dVar 0) (dNil))) (dCB rLen (dCons (dVar 3) (dNil))))) (dB (dOp rNe (dProp A.c_Plan (sd_Plan_walks K A) (dVar 0)) (dCB rTuple (dCons (dVar 5) (dNil))))))) (sRet (dC (.bl false))) (sNext)) (sSeq (sFor (iAny (dOp rAdd (dVar 2) (dLst (dCons (dC (.str ("unknownname" : Str))) (dNil))))) (gNm 6) (sIf (dB (dOp rNe (dOp (rOr rIn (rInO false A.c_Plan (sd_Plan___contains__ K A))) (dVar 6) (dVar 0)) (dOp (rOr rIn (rInO false A.c_Plan (sd_Plan___contains__ K A))) (dVar 6) (dVar 5)))) (sRet (dC (.bl false))) (sNext))) (sRet (dOp rEq (dCB (rStrO A.c_Plan (sd_Plan___str__ K A)) (dCons (dVar 0) (dNil))) (dBM "str" rJoin (dC (.str (" + " : Str))) (dCons (dLc (iAny (dVar 3)) (.nm 4) (dYes) (dBM "str" rJoin (dC (.str ("|" : Str))) (dCons (dVar 4) (dNil))) [4]) (dNil)))))))))
def d__law_plan (K : PySem.W.Frag) (A : Ad) : DS := sSeq (sIf (dB (dOp rEq (dCB rLen (dCons (dVar 0) (dNil))) (dC (.int 0)))) (sRet (dZK K (dMake A.c_Plan (sd_Plan___init__ K A) dNil))) (sNext)) (sSeq (sIf (dB (dOp rEq (dCB rLen (dCons (dVar 0) (dNil))) (dC (.int 1)))) (sRet (dZK K (dMake A.c_Plan (sd_Plan___init__ K A) (dCons (dOp rIx (dVar 0) (dC (.int 0))) (dNil))))) (sNext)) (sSeq (sIf (dB (dOp rEq (dCB rLen (dCons (dVar 0) (dNil))) (dC (.int 2)))) (sRet (dZK K (dMake A.c_Plan (sd_Plan___init__ K A) (dCons (dOp rIx (dVar 0) (dC (.int 0))) (dCons (dCB rTuple (dCons (dOp rIx (dVar 0) (dC (.int 1))) (dNil))) (dNil)))))) (sNext)) (sSeq (sIf (dB (dOp rEq (dCB rLen (dCons (dVar 0) (dNil))) (dC (.int 3)))) (sRet (dZK K (dMake A.c_Plan (sd_Plan___init__ K A) (dCons (dOp rIx (dVar 0) (dC (.int 0))) (dCons (dOp rIx (dVar 0) (dC (.int 1))) (dCons (dOp rIx (dVar 0) (dC (.int 2))) (dNil))))))) (sNext)) (sSeq (sAsg (dZK K (dMake A.c_Plan (sd_Plan___init__ K A) (dCons (dOp rIx (dVar 0) (dC (.int 3))) (dNil)))) (gNm 1)) (sSeq (sFor (iAny (dSl (dVar 0) (oSome (dC (.int 4))) (oNone))) (gNm 2) (sAsg (dOp (rOr rAdd (rOwn A.c_Plan (sd_Plan___add__ K A))) (dVar 1) (dZK K (dMake A.c_Plan (sd_Plan___init__ K A) (dCons (dVar 2) (dNil))))) (gNm 1))) (sRet (dOp (rOr rAdd (rOwn A.c_Plan (sd_Plan___add__ K A))) (dZK K (dMake A.c_Plan (sd_Plan___init__ K A) (dCons (dCB rTuple (dCons (dOp rIx (dVar 0) (dC (.int 0))) (dNil))) (dCons (dOp rIx (dVar 0) (dC (.int 1))) (dCons (dOp rIx (dVar 0) (dC (.int 2))) (dNil)))))) (dVar 1))))))))
def d_Plan___rmul__ (K : PySem.W.Frag) (A : Ad) : DS := sRet (dOp (rOwnI A.c_Plan (sd_Plan___mul__ K A)) (dVar 0) (dVar 1))
def d_law (K : PySem.W.Frag) (A : Ad) : DS := sSeq (sAsg (dCall (sd__law_source K A) (dCons (dVar 0) (dNil))) (gNm 1)) (sSeq (sAsg (dZK K (dCall (sd__law_names K A) (dCons (dVar 1) (dCons (dC (.int 6)) (dNil))))) (gNm 2)) (sSeq (sAsg (dZK K (dCall (sd__law_groups K A) (dCons (dVar 1) (dCons (dVar 2) (dNil))))) (gNm 3)) (sSeq (sAsg (dZK K (dCall (sd__law_groups K A) (dCons (dVar 1) (dCons (dVar 2) (dNil))))) (gNm 4)) (sSeq (sAsg (dLc (iAny (dVar 3)) (.nm 6) (dYes) (dCB rList (dCons (dVar 6) (dNil))) [6]) (gNm 5)) (sSeq (sAsg (dZK K (dCall (sd__law_plan K A) (dCons (dVar 5) (dNil)))) (gNm 7)) (sSeq (sIf (dB (dOp rNe (dVar 5) (dVar 3))) (sRet (dC (.bl false))) (sNext)) (sSeq (sFor (iAny (dVar 5)) (gNm 6) (sDrop (dBM "list" rApp (dVar 6) (dCons (dC (.str ("unknownname" : Str))) (dNil))))) (sSeq (sDrop (dBM "list" rApp (dVar 5) (dCons (dLst (dCons (dC (.str ("unknownname" : Str))) (dNil))) (dNil)))) (sSeq (sAsg (dZK K (dCall (sd__law_plan K A) (dCons (dLc (iAny (dVar 4)) (.nm 6) (dYes) (dCB rList (dCons (dVar 6) (dNil))) [6]) (dNil)))) (gNm 8)) (sSeq (sAsg (dCall (sd__law_draw K A) (dCons (dVar 1) (dCons (dC (.int 4)) (dNil)))) (gNm 9)) (sSeq (sIf (dB (dOp (rOr rEq (rOwn A.c_Plan (sd_Plan___eq__ K A))) (dCall (sd__law_draw K A) (dCons (dVar 1) (dCons (dC (.int 8)) (dNil)))) (dC (.int 7)))) (sAsg (dCall (sd__law_draw K A) (dCons (dVar 1) (dCons (dC (.int 101)) (dNil)))) (gNm 9)) (sNext)) (sSeq (sAsg (dLc (iRg1 (dCons (dCall (sd__law_draw K A) (dCons (dVar 1) (dCons (dC (.int 4)) (dNil)))) (dNil))) (.nm 11) (dYes) (dOp rIx (dVar 2) (dCall (sd__law_draw K A) (dCons (dVar 1) (dCons (dCB rLen (dCons (dVar 2) (dNil))) (dNil))))) [11]) (gNm 10)) (sSeq (sAsg (dLst (dNil)) (gNm 12)) (sSeq (sFor (iAny (dOp (rOr rAdd (rOwn A.c_Plan (sd_Plan___add__ K A))) (dVar 3) (dVar 4))) (gNm 6) (sAsg (dOp (rOr rAdd (rOwn A.c_Plan (sd_Plan___add__ K A))) (dVar 12) (dVar 6)) (gNm 12))) (sSeq (sAsg (dLc (iAny (dVar 3)) (.nm 6) (dB (dOp rGt (dCB rLen (dCons (dVar 6) (dNil))) (dC (.int 0)))) (dCB rTuple (dCons (dVar 6) (dNil))) [6]) (gNm 13)) (sSeq (sAsg (dOp (rOr rEq (rOwn A.c_Plan (sd_Plan___eq__ K A))) (dVar 7) (dVar 8)) (gNm 14)) (sSeq (sIf (dOr (dNot (dB (dCB (rIsi K) (dCons (dVar 14) (dCons (dC (.ty "bool")) (dNil)))))) (dB (dOp rNe (dVar 14) (dOp (rOr rEq (rOwn A.c_Plan (sd_Plan___eq__ K A))) (dVar 13) (dLc (iAny (dVar 4)) (.nm 6) (dB (dOp rGt (dCB rLen (dCons (dVar 6) (dNil))) (dC (.int 0)))) (dCB rTuple (dCons (dVar 6) (dNil))) [6]))))) (sRet (dC (.bl false))) (sNext)) (sSeq (sIf (dOr (dNot (dB (dZK K (dCall (sd__law_is K A) (dCons (dOp (rOr rAdd (rOwn A.c_Plan (sd_Plan___add__ K A))) (dVar 7) (dVar 8)) (dCons (dOp (rOr rAdd (rOwn A.c_Plan (sd_Plan___add__ K A))) (dVar 3) (dVar 4)) (dCons (dVar 2) (dNil)))))))) (dNot (dB (dZK K (dCall (sd__law_is K A) (dCons (dOp (rOwn A.c_Plan (sd_Plan___or__ K A)) (dVar 7) (dVar 8)) (dCons (dLst (dCons (dVar 12) (dNil))) (dCons (dVar 2) (dNil))))))))) (sRet (dC (.bl false))) (sNext)) (sSeq (sIf (dOr (dNot (dB (dZK K (dCall (sd__law_is K A) (dCons (dOp (rOwnI A.c_Plan (sd_Plan___mul__ K A)) (dVar 7) (dVar 9)) (dCons (dOp rMul (dVar 3) (dVar 9)) (dCons (dVar 2) (dNil)))))))) (dNot (dB (dZK K (dCall (sd__law_is K A) (dCons (dOp (rOwnR A.c_Plan (sd_Plan___rmul__ K A)) (dVar 9) (dVar 7)) (dCons (dOp rMul (dVar 3) (dVar 9)) (dCons (dVar 2) (dNil))))))))) (sRet (dC (.bl false))) (sNext)) (sSeq (sIf (dOr (dNot (dB (dZK K (dCall (sd__law_is K A) (dCons (dZK K (dCall (sd__law_apart K A) (dCons (dVar 10) (dNil)))) (dCons (dLc (iAny (dVar 10)) (.nm 15) (dYes) (dLst (dCons (dVar 15) (dNil))) [15]) (dCons (dVar 2) (dNil)))))))) (dNot (dB (dZK K (dCall (sd__law_is K A) (dCons (dZK K (dCall (sd__law_together K A) (dCons (dVar 10) (dNil)))) (dCons (dLst (dCons (dVar 10) (dNil))) (dCons (dVar 2) (dNil))))))))) (sRet (dC (.bl false))) (sNext)) (sSeq (sIf (dOr (dNot (dB (dZK K (dCall (sd__law_is K A) (dCons (dVar 7) (dCons (dVar 3) (dCons (dVar 2) (dNil)))))))) (dNot (dB (dZK K (dCall (sd__law_is K A) (dCons (dVar 8) (dCons (dVar 4) (dCons (dVar 2) (dNil))))))))) (sRet (dC (.bl false))) (sNext)) (sSeq (sIf (dB (dOp rNe (dOp (rOr rEq (rOwn A.c_Plan (sd_Plan___eq__ K A))) (dVar 7) (dOp (rOwn A.c_Plan (sd_Plan___or__ K A)) (dVar 7) (dZK K (dMake A.c_Plan (sd_Plan___init__ K A) dNil)))) (dOp rLt (dCB rLen (dCons (dVar 13) (dNil))) (dC (.int 2))))) (sRet (dC (.bl false))) (sNext)) (sRet (dAndV (dOp (rOr rEq (rOwn A.c_Plan (sd_Plan___eq__ K A))) (dOp (rOr rEq (rOwn A.c_Plan (sd_Plan___eq__ K A))) (dVar 7) (dZK K (dMake A.c_Plan (sd_Plan___init__ K A) dNil))) (dOp (rOr rEq (rOwn A.c_Plan (sd_Plan___eq__ K A))) (dCB rLen (dCons (dVar 13) (dNil))) (dC (.int 0)))) (dOp rIsB (dOp (rOr rEq (rOwn A.c_Plan (sd_Plan___eq__ K A))) (dVar 7) (dZK K (dCall (sd__law_plan K A) (dCons (dVar 3) (dNil))))) (dC (.bl true)))))))))))))))))))))))))))
section
variable {P : Program} {K : PySem.W.Frag} {mg : Str → Option Value} {base : Heap} {A : Ad}
theorem h__law_source (T : Txt K mg A) {f : Addr} {cdv : Value} {A0 : Around} {outer : List PySem.Env} {s : Shared} {H U : Hp} {E : XK} (hr : Room 0 (A0.deeper (envOfC "_law_source" (defScope s__law_source) s.heap.objs.size f cdv))) :
    PSs (cxOf (L2.CX P Wd.w) P Wd.w K mg base N__law_source "_law_source" (defScope s__law_source) f cdv A0 outer s H E) (defBody s__law_source) (liftS ⟨K, U⟩ (fun cls d _ H => E cls d H) (d__law_source K A)) :=
  (dss_cons (ds_setLc (i := 1) (own := [("_law_cell", 2)]) (ct := .nm 2) (dt := dYes) (de := dCB rInt (dCons (dVar 2) (dNil))) rfl rfl sc__law_source.nd rfl rfl (sw_true rfl rfl rfl (by decide +kernel)) (di_any rfl (de_slice rfl (de_var 0) do_none (do_some de_int))) (blkOk_by (N := N__law_source) (sc := defScope s__law_source) (by decide +kernel)) (by decide) (fun _ _ _ _ _ => (pg_name (i := 2) sc__law_source.nd rfl (by first | exact Or.inl rfl | exact Or.inr rfl))) (fun _ _ _ _ _ _ => dts_nil) (fun _ _ _ _ _ _ => (de_callTy cd_int (by rfl) T.z_int dboot_int (da_cons (de_var 2) da_nil)))) (dss_one (ds_ret (de_lst (da_cons (de_var 1) (da_cons (de_lc (own := [("_law_cell", 2)]) (ct := .nm 2) (dt := dYes) (de := dOp rGe (dVar 2) (dOp rPow (dC (.int 10)) (dC (.int 18)))) rfl rfl sc__law_source.nd (di_any rfl (de_var 1)) (blkOk_by (N := N__law_source) (sc := defScope s__law_source) (by decide +kernel)) (by decide) (fun _ _ _ _ _ => (pg_name (i := 2) sc__law_source.nd rfl (by first | exact Or.inl rfl | exact Or.inr rfl))) (fun _ _ _ _ _ _ => dts_nil) (fun _ _ _ _ _ _ => (de_cmp od_ge (de_var 2) (de_op od_pow de_int de_int) (nomark _)))) (da_cons de_int (da_cons de_int (da_cons (de_op od_mod (de_callTy cd_int (by rfl) T.z_int dboot_int (da_cons (de_callB (cd_sum rfl rfl) (by rfl) T.z_sum dboot_sum (da_cons (de_var 1) da_nil)) da_nil)) de_int) da_nil)))))))))
theorem h__law_draw (T : Txt K mg A) {f : Addr} {cdv : Value} {A0 : Around} {outer : List PySem.Env} {s : Shared} {H U : Hp} {E : XK} (hr : Room 0 (A0.deeper (envOfC "_law_draw" (defScope s__law_draw) s.heap.objs.size f cdv))) :
    PSs (cxOf (L2.CX P Wd.w) P Wd.w K mg base N__law_draw "_law_draw" (defScope s__law_draw) f cdv A0 outer s H E) (defBody s__law_draw) (liftS ⟨K, U⟩ (fun cls d _ H => E cls d H) (d__law_draw K A)) :=
  (dss_cons (ds_set (i := 2) sc__law_draw.nd rfl (by first | exact Or.inl rfl | exact Or.inr rfl) (de_ix (od_ix rfl rfl (hu64 hr)) (de_var 0) de_int)) (dss_cons (ds_set (i := 3) sc__law_draw.nd rfl (by first | exact Or.inl rfl | exact Or.inr rfl) (de_ix (od_ix rfl rfl (hu64 hr)) (de_var 0) de_int)) (dss_cons (ds_if (dt_cmp od_lt (de_var 3) (de_callB (cd_len rfl rfl) (by rfl) T.z_len PySem.boot_len (da_cons (de_var 2) da_nil)) (nomark _)) (dss_cons (ds_set (i := 4) sc__law_draw.nd rfl (by first | exact Or.inl rfl | exact Or.inr rfl) (de_ix (od_ix rfl rfl (hu64 hr)) (de_var 2) (de_var 3))) (dss_cons (ds_asg (de_op od_div (de_var 4) (de_var 1)) (dg_sub rfl (hu64 hr) (de_var 2) (de_var 3))) (dss_cons (ds_if (dt_w (dw_or (dt_not (dt_val (de_ix (od_ix rfl rfl (hu64 hr)) (de_ix (od_ix rfl rfl (hu64 hr)) (de_var 0) de_int) (de_var 3)))) (dw_or1 (dt_cmp (od_eq rfl (hu64 hr)) (de_ix (od_ix rfl rfl (hu64 hr)) (de_var 2) (de_var 3)) de_int (nomark _))))) (dss_one (ds_asg (de_op (od_add rfl) (de_var 3) de_int) (dg_sub rfl (hu64 hr) (de_var 0) de_int))) dss_nil) (dss_one (ds_ret (de_op od_mod (de_callTy cd_int (by rfl) T.z_int dboot_int (da_cons (de_var 4) da_nil)) (de_var 1))))))) dss_nil) (dss_cons (ds_if (dt_cmp (od_eq rfl (hu64 hr)) (de_ix (od_ix rfl rfl (hu64 hr)) (de_var 0) de_int) de_int (nomark _)) (dss_one (ds_ret de_int)) dss_nil) (dss_cons (ds_asg (de_op (od_add rfl) (de_ix (od_ix rfl rfl (hu64 hr)) (de_var 0) de_int) de_int) (dg_sub rfl (hu64 hr) (de_var 0) de_int)) (dss_cons (ds_set (i := 5) sc__law_draw.nd rfl (by first | exact Or.inl rfl | exact Or.inr rfl) (de_op od_mod (de_callTy cd_int (by rfl) T.z_int dboot_int (da_cons (de_op od_mul (de_op (od_add rfl) (de_ix (od_ix rfl rfl (hu64 hr)) (de_var 0) de_int) (de_op od_mul (de_ix (od_ix rfl rfl (hu64 hr)) (de_var 0) de_int) de_int)) de_int) da_nil)) de_int)) (dss_one (ds_ret (de_op od_mod (de_op od_div (de_op od_mod (de_callTy cd_int (by rfl) T.z_int dboot_int (da_cons (de_op od_mul (de_var 5) (de_var 5)) da_nil)) de_int) de_int) (de_var 1))))))))))
theorem h_Plan___init__ (T : Txt K mg A) {f : Addr} {cdv : Value} {A0 : Around} {outer : List PySem.Env} {s : Shared} {H U : Hp} {E : XK} (hr : Room 0 (A0.deeper (envOfC "Plan.__init__" (defScope s_Plan___init__) s.heap.objs.size f cdv))) :
    PSs (cxOf (L2.CX P Wd.w) P Wd.w K mg base N_Plan___init__ "Plan.__init__" (defScope s_Plan___init__) f cdv A0 outer s H E) (defBody s_Plan___init__) (liftS ⟨K, U⟩ (fun cls d _ H => E cls d H) (d_Plan___init__ K A)) :=
  (dss_one (ds_fld rfl (de_var 0) (de_callTy (cd_tuple rfl rfl) (by rfl) T.z_tuple dboot_tuple (da_cons (de_lc (own := [("group", 2)]) (ct := .nm 2) (dt := dB (dOp rGt (dCB rLen (dCons (dVar 2) (dNil))) (dC (.int 0)))) (de := dCB rTuple (dCons (dVar 2) (dNil))) rfl rfl sc_Plan___init__.nd (di_any rfl (de_var 1)) (blkOk_by (N := N_Plan___init__) (sc := defScope s_Plan___init__) (by decide +kernel)) (by decide) (fun _ _ _ _ _ => (pg_name (i := 2) sc_Plan___init__.nd rfl (by first | exact Or.inl rfl | exact Or.inr rfl))) (fun _ _ _ _ _ _ => (dts_one (dt_cmp od_gt (de_callB (cd_len rfl rfl) (by rfl) T.z_len PySem.boot_len (da_cons (de_var 2) da_nil)) de_int (nomark _)))) (fun _ _ _ _ _ _ => (de_callTy (cd_tuple rfl rfl) (by rfl) T.z_tuple dboot_tuple (da_cons (de_var 2) da_nil)))) da_nil))))
theorem h_Plan___iter__ (T : Txt K mg A) {f : Addr} {cdv : Value} {A0 : Around} {outer : List PySem.Env} {s : Shared} {H : Hp} {E : XK} :
    PSs (cxOf (L2.CX P Wd.w) P Wd.w K mg base N_Plan___iter__ "Plan.__iter__" (defScope s_Plan___iter__) f cdv A0 outer s H E) (defBody s_Plan___iter__) (tIterB K s.heap.objs.size "_groups") :=
  (pss_one (ps_ret (pe_callB call_iterT (by rfl) T.z_iter dboot_iter (pa_cons (pe_fld (pe_var (i := 0) rfl (by first | exact Or.inl rfl | exact Or.inr (Or.inl rfl) | exact Or.inr (Or.inr rfl))) rfl) pa_nil))))
theorem h_Plan___len__ (T : Txt K mg A) {f : Addr} {cdv : Value} {A0 : Around} {outer : List PySem.Env} {s : Shared} {H U : Hp} {E : XK} (hr : Room 0 (A0.deeper (envOfC "Plan.__len__" (defScope s_Plan___len__) s.heap.objs.size f cdv))) :
    PSs (cxOf (L2.CX P Wd.w) P Wd.w K mg base N_Plan___len__ "Plan.__len__" (defScope s_Plan___len__) f cdv A0 outer s H E) (defBody s_Plan___len__) (liftS ⟨K, U⟩ (fun cls d _ H => E cls d H) (d_Plan___len__ K A)) :=
  (dss_one (ds_ret (de_callB (cd_len rfl rfl) (by rfl) T.z_len PySem.boot_len (da_cons (de_fld rfl (de_var 0)) da_nil))))
theorem h_Plan___contains__ (T : Txt K mg A) {f : Addr} {cdv : Value} {A0 : Around} {outer : List PySem.Env} {s : Shared} {H U : Hp} {E : XK} (hr : Room 0 (A0.deeper (envOfC "Plan.__contains__" (defScope s_Plan___contains__) s.heap.objs.size f cdv))) :
    PSs (cxOf (L2.CX P Wd.w) P Wd.w K mg base N_Plan___contains__ "Plan.__contains__" (defScope s_Plan___contains__) f cdv A0 outer s H E) (defBody s_Plan___contains__) (liftS ⟨K, U⟩ (fun cls d _ H => E cls d H) (d_Plan___contains__ K A)) :=
  (dss_one (ds_ret (de_callB (cd_any rfl rfl) (by rfl) T.z_any dboot_any (da_cons (de_lc (own := [("group", 2)]) (ct := .nm 2) (dt := dYes) (de := dOp rIn (dVar 1) (dVar 2)) rfl rfl sc_Plan___contains__.nd (di_any rfl (de_fld rfl (de_var 0))) (blkOk_by (N := N_Plan___contains__) (sc := defScope s_Plan___contains__) (by decide +kernel)) (by decide) (fun _ _ _ _ _ => (pg_name (i := 2) sc_Plan___contains__.nd rfl (by first | exact Or.inl rfl | exact Or.inr rfl))) (fun _ _ _ _ _ _ => dts_nil) (fun _ _ _ _ _ _ => (de_cmp (od_in rfl rfl (hu65 hr)) (de_var 1) (de_var 2) (by with_unfolding_all rfl)))) da_nil))))
theorem h_Plan___eq__ (T : Txt K mg A) {f : Addr} {cdv : Value} {A0 : Around} {outer : List PySem.Env} {s : Shared} {H U : Hp} {E : XK} (hr : Room 0 (A0.deeper (envOfC "Plan.__eq__" (defScope s_Plan___eq__) s.heap.objs.size f cdv))) :
    PSs (cxOf (L2.CX P Wd.w) P Wd.w K mg base N_Plan___eq__ "Plan.__eq__" (defScope s_Plan___eq__) f cdv A0 outer s H E) (defBody s_Plan___eq__) (liftS ⟨K, U⟩ (fun cls d _ H => E cls d H) (d_Plan___eq__ K A)) :=
  (dss_one (ds_ret (de_and (de_callB (cd_isi rfl) (by rfl) T.z_isinstance dboot_isinstance (da_cons (de_var 1) (da_cons (de_globC (by rfl) T.g_Plan) da_nil))) (de_one (de_cmp (od_eq rfl (hu64 hr)) (de_fld rfl (de_var 0)) (de_fld rfl (de_var 1)) (nomark _))))))
theorem h_Plan___str__ (T : Txt K mg A) {f : Addr} {cdv : Value} {A0 : Around} {outer : List PySem.Env} {s : Shared} {H U : Hp} {E : XK} (hr : Room 0 (A0.deeper (envOfC "Plan.__str__" (defScope s_Plan___str__) s.heap.objs.size f cdv))) :
    PSs (cxOf (L2.CX P Wd.w) P Wd.w K mg base N_Plan___str__ "Plan.__str__" (defScope s_Plan___str__) f cdv A0 outer s H E) (defBody s_Plan___str__) (liftS ⟨K, U⟩ (fun cls d _ H => E cls d H) (d_Plan___str__ K A)) :=
  (dss_one (ds_ret (de_bm PySem.F.plainAttrs_str PySem.F.slot_str_join PySem.F.type_str_join rfl (md_join rfl) de_str (da_cons (de_lc (own := [("group", 1)]) (ct := .nm 1) (dt := dYes) (de := dBM "str" rJoin (dC (.str ("|" : Str))) (dCons (dVar 1) (dNil))) rfl rfl sc_Plan___str__.nd (di_any rfl (de_fld rfl (de_var 0))) (blkOk_by (N := N_Plan___str__) (sc := defScope s_Plan___str__) (by decide +kernel)) (by decide) (fun _ _ _ _ _ => (pg_name (i := 1) sc_Plan___str__.nd rfl (by first | exact Or.inl rfl | exact Or.inr rfl))) (fun _ _ _ _ _ _ => dts_nil) (fun _ _ _ _ _ _ => (de_bm PySem.F.plainAttrs_str PySem.F.slot_str_join PySem.F.type_str_join rfl (md_join rfl) de_str (da_cons (de_var 1) da_nil)))) da_nil))))
theorem h_Plan_walks (T : Txt K mg A) {f : Addr} {cdv : Value} {A0 : Around} {outer : List PySem.Env} {s : Shared} {H U : Hp} {E : XK} (hr : Room 0 (A0.deeper (envOfC "Plan.walks" (defScope s_Plan_walks) s.heap.objs.size f cdv))) :
    PSs (cxOf (L2.CX P Wd.w) P Wd.w K mg base N_Plan_walks "Plan.walks" (defScope s_Plan_walks) f cdv A0 outer s H E) (defBody s_Plan_walks) (liftS ⟨K, U⟩ (fun cls d _ H => E cls d H) (d_Plan_walks K A)) :=
  (dss_one (ds_ret (de_callTy (cd_tuple rfl rfl) (by rfl) T.z_tuple dboot_tuple (da_cons (de_lc2 (own := [("group", 1), ("name", 2)]) (vs1 := [2]) (ct := .nm 1) (ct1 := .nm 2) (dt := dYes) (di1 := iAny (dVar 1)) (dt1 := dYes) (de := dVar 2) rfl rfl sc_Plan_walks.nd (di_any rfl (de_fld rfl (de_var 0))) (blkOk_by (N := N_Plan_walks) (sc := defScope s_Plan_walks) (by decide +kernel)) (by decide) (by decide) (by decide) (fun _ _ _ _ _ => (pg_name (i := 1) sc_Plan_walks.nd rfl (by first | exact Or.inl rfl | exact Or.inr rfl))) (fun _ _ _ _ _ _ => dts_nil) (fun _ _ _ _ _ _ => (di_any rfl (de_var 1))) (fun _ _ _ _ _ => (pg_name (i := 2) sc_Plan_walks.nd rfl (by first | exact Or.inl rfl | exact Or.inr rfl))) (fun _ _ _ _ _ _ => dts_nil) (fun _ _ _ _ _ _ => (de_var 2))) da_nil))))
theorem h__law_names (T : Txt K mg A) (G__law_draw : FnD P Wd.w K mg base 1 A.f__law_draw (sd__law_draw K A)) {f : Addr} {cdv : Value} {A0 : Around} {outer : List PySem.Env} {s : Shared} {H U : Hp} {E : XK} (hr : Room 1 (A0.deeper (envOfC "_law_names" (defScope s__law_names) s.heap.objs.size f cdv))) :
    PSs (cxOf (L2.CX P Wd.w) P Wd.w K mg base N__law_names "_law_names" (defScope s__law_names) f cdv A0 outer s H E) (defBody s__law_names) (liftS ⟨K, U⟩ (fun cls d _ H => E cls d H) (d__law_names K A)) :=
  (dss_cons (ds_set (i := 2) sc__law_names.nd rfl (by first | exact Or.inl rfl | exact Or.inr rfl) de_str) (dss_cons (ds_set (i := 3) sc__law_names.nd rfl (by first | exact Or.inl rfl | exact Or.inr rfl) (de_call G__law_draw (hr.mono (by decide)) (by rfl) T.g__law_draw T.k__law_draw rfl (takes_of rfl rfl rfl rfl) (da_cons (de_var 0) (da_cons de_int da_nil)))) (dss_cons (ds_set (i := 4) sc__law_names.nd rfl (by first | exact Or.inl rfl | exact Or.inr rfl) (de_call G__law_draw (hr.mono (by decide)) (by rfl) T.g__law_draw T.k__law_draw rfl (takes_of rfl rfl rfl rfl) (da_cons (de_var 0) (da_cons de_int da_nil)))) (dss_cons (ds_set (i := 5) sc__law_names.nd rfl (by first | exact Or.inl rfl | exact Or.inr rfl) (de_call G__law_draw (hr.mono (by decide)) (by rfl) T.g__law_draw T.k__law_draw rfl (takes_of rfl rfl rfl rfl) (da_cons (de_var 0) (da_cons de_int da_nil)))) (dss_cons (ds_set (i := 6) sc__law_names.nd rfl (by first | exact Or.inl rfl | exact Or.inr rfl) (de_call G__law_draw (hr.mono (by decide)) (by rfl) T.g__law_draw T.k__law_draw rfl (takes_of rfl rfl rfl rfl) (da_cons (de_var 0) (da_cons de_int da_nil)))) (dss_cons (ds_set (i := 7) sc__law_names.nd rfl (by first | exact Or.inl rfl | exact Or.inr rfl) (de_ix (od_ix rfl rfl (hu64 hr)) (de_var 2) (de_call G__law_draw (hr.mono (by decide)) (by rfl) T.g__law_draw T.k__law_draw rfl (takes_of rfl rfl rfl rfl) (da_cons (de_var 0) (da_cons de_int da_nil))))) (dss_one (ds_ret (de_lc (own := [("_law_k", 8)]) (ct := .nm 8) (dt := dYes) (de := dOp rAdd (dOp rAdd (dOp rMul (dVar 7) (dVar 3)) (dOp rIx (dVar 2) (dOp rMod (dCB rInt (dCons (dOp rAdd (dVar 6) (dVar 8)) (dNil))) (dC (.int 26))))) (dOp rMul (dVar 7) (dOp rAdd (dVar 4) (dOp rMul (dVar 5) (dOp rMod (dCB rInt (dCons (dVar 8) (dNil))) (dC (.int 3))))))) rfl rfl sc__law_names.nd (di_range1 (by rfl) T.z_range (da_cons (de_var 1) da_nil)) (blkOk_by (N := N__law_names) (sc := defScope s__law_names) (by decide +kernel)) (by decide) (fun _ _ _ _ _ => (pg_name (i := 8) sc__law_names.nd rfl (by first | exact Or.inl rfl | exact Or.inr rfl))) (fun _ _ _ _ _ _ => dts_nil) (fun _ _ _ _ _ _ => (de_op (od_add rfl) (de_op (od_add rfl) (de_op od_mul (de_var 7) (de_var 3)) (de_ix (od_ix rfl rfl (hu64 hr)) (de_var 2) (de_op od_mod (de_callTy cd_int (by rfl) T.z_int dboot_int (da_cons (de_op (od_add rfl) (de_var 6) (de_var 8)) da_nil)) de_int))) (de_op od_mul (de_var 7) (de_op (od_add rfl) (de_var 4) (de_op od_mul (de_var 5) (de_op od_mod (de_callTy cd_int (by rfl) T.z_int dboot_int (da_cons (de_var 8) da_nil)) de_int)))))))))))))))
theorem h__law_groups (T : Txt K mg A) (G__law_draw : FnD P Wd.w K mg base 1 A.f__law_draw (sd__law_draw K A)) {f : Addr} {cdv : Value} {A0 : Around} {outer : List PySem.Env} {s : Shared} {H U : Hp} {E : XK} (hr : Room 1 (A0.deeper (envOfC "_law_groups" (defScope s__law_groups) s.heap.objs.size f cdv))) :
    PSs (cxOf (L2.CX P Wd.w) P Wd.w K mg base N__law_groups "_law_groups" (defScope s__law_groups) f cdv A0 outer s H E) (defBody s__law_groups) (liftS ⟨K, U⟩ (fun cls d _ H => E cls d H) (d__law_groups K A)) :=
  (dss_cons (ds_set (i := 2) sc__law_groups.nd rfl (by first | exact Or.inl rfl | exact Or.inr rfl) (de_lst da_nil)) (dss_cons (ds_for (passes_of rfl) rfl (di_range1 (by rfl) T.z_range (da_cons (de_call G__law_draw (hr.mono (by decide)) (by rfl) T.g__law_draw T.k__law_draw rfl (takes_of rfl rfl rfl rfl) (da_cons (de_var 0) (da_cons de_int da_nil))) da_nil)) (fun _ => (dg_name (i := 3) sc__law_groups.nd rfl (by first | exact Or.inl rfl | exact Or.inr rfl))) (fun _ => (dss_one (ds_expr (de_bm PySem.F.plainAttrs_list PySem.F.slot_list_append PySem.F.type_list_append rfl md_append (de_var 2) (da_cons (de_lc (own := [("_law_k", 4)]) (ct := .nm 4) (dt := dYes) (de := dOp rIx (dVar 1) (dCall (sd__law_draw K A) (dCons (dVar 0) (dCons (dCB rLen (dCons (dVar 1) (dNil))) (dNil))))) rfl rfl sc__law_groups.nd (di_range1 (by rfl) T.z_range (da_cons (de_call G__law_draw (hr.mono (by decide)) (by rfl) T.g__law_draw T.k__law_draw rfl (takes_of rfl rfl rfl rfl) (da_cons (de_var 0) (da_cons de_int da_nil))) da_nil)) (blkOk_by (N := N__law_groups) (sc := defScope s__law_groups) (by decide +kernel)) (by decide) (fun _ _ _ _ _ => (pg_name (i := 4) sc__law_groups.nd rfl (by first | exact Or.inl rfl | exact Or.inr rfl))) (fun _ _ _ _ _ _ => dts_nil) (fun _ _ _ _ _ _ => (de_ix (od_ix rfl rfl (hu64 hr)) (de_var 1) (de_call G__law_draw (hr.mono (by decide)) (by rfl) T.g__law_draw T.k__law_draw rfl takes0 (da_cons (de_var 0) (da_cons (de_callB (cd_len rfl rfl) (by rfl) T.z_len PySem.boot_len (da_cons (de_var 1) da_nil)) da_nil)))))) da_nil)))))) (dss_one (ds_ret (by exact de_zK rfl (de_var 2))))))
theorem h_Plan___add__ (T : Txt K mg A) (G_Plan___init__ : FnD P Wd.w K mg base 1 A.m_Plan___init__ (sd_Plan___init__ K A)) {f : Addr} {cdv : Value} {A0 : Around} {outer : List PySem.Env} {s : Shared} {H U : Hp} {E : XK} (hr : Room 2 (A0.deeper (envOfC "Plan.__add__" (defScope s_Plan___add__) s.heap.objs.size f cdv))) :
    PSs (cxOf (L2.CX P Wd.w) P Wd.w K mg base N_Plan___add__ "Plan.__add__" (defScope s_Plan___add__) f cdv A0 outer s H E) (defBody s_Plan___add__) (liftS ⟨K, U⟩ (fun cls d _ H => E cls d H) (d_Plan___add__ K A)) :=
  (dss_cons (ds_if (dt_not (dt_val (de_callB (cd_isi rfl) (by rfl) T.z_isinstance dboot_isinstance (da_cons (de_var 1) (da_cons (de_globC (by rfl) T.g_Plan) da_nil))))) dss_never dss_nil) (dss_cons (ds_set (i := 2) sc_Plan___add__.nd rfl (by first | exact Or.inl rfl | exact Or.inr rfl) (de_lst (da_star rfl (de_fld rfl (de_var 0)) (da_star rfl (de_fld rfl (de_var 1)) da_nil)))) (dss_one (ds_ret (by exact de_zK rfl (de_makeS1 T.mk_Plan G_Plan___init__ (hr.mono (by decide)) (by rfl) T.g_Plan rfl (takes_of rfl rfl rfl rfl) (de_var 2)))))))
theorem h_Plan___or__ (T : Txt K mg A) (G_Plan_walks : FnD P Wd.w K mg base 1 A.m_Plan_walks (sd_Plan_walks K A)) (G_Plan___init__ : FnD P Wd.w K mg base 1 A.m_Plan___init__ (sd_Plan___init__ K A)) {f : Addr} {cdv : Value} {A0 : Around} {outer : List PySem.Env} {s : Shared} {H U : Hp} {E : XK} (hr : Room 2 (A0.deeper (envOfC "Plan.__or__" (defScope s_Plan___or__) s.heap.objs.size f cdv))) :
    PSs (cxOf (L2.CX P Wd.w) P Wd.w K mg base N_Plan___or__ "Plan.__or__" (defScope s_Plan___or__) f cdv A0 outer s H E) (defBody s_Plan___or__) (liftS ⟨K, U⟩ (fun cls d _ H => E cls d H) (d_Plan___or__ K A)) :=
  (dss_cons (ds_if (dt_not (dt_val (de_callB (cd_isi rfl) (by rfl) T.z_isinstance dboot_isinstance (da_cons (de_var 1) (da_cons (de_globC (by rfl) T.g_Plan) da_nil))))) dss_never dss_nil) (dss_cons (ds_set (i := 2) sc_Plan___or__.nd rfl (by first | exact Or.inl rfl | exact Or.inr rfl) (de_op (od_add rfl) (de_prop T.cl_Plan T.pr_Plan_walks G_Plan_walks (hr.mono (by decide)) rfl (de_var 0)) (de_prop T.cl_Plan T.pr_Plan_walks G_Plan_walks (hr.mono (by decide)) rfl (de_var 1)))) (dss_one (ds_ret (by exact de_zK rfl (de_make T.mk_Plan G_Plan___init__ (hr.mono (by decide)) (by rfl) T.g_Plan rfl (takes_of rfl rfl rfl rfl) (da_cons (de_var 2) da_nil)))))))
theorem h_Plan___mul__ (T : Txt K mg A) (G_Plan___init__ : FnD P Wd.w K mg base 1 A.m_Plan___init__ (sd_Plan___init__ K A)) {f : Addr} {cdv : Value} {A0 : Around} {outer : List PySem.Env} {s : Shared} {H U : Hp} {E : XK} (hr : Room 2 (A0.deeper (envOfC "Plan.__mul__" (defScope s_Plan___mul__) s.heap.objs.size f cdv))) :
    PSs (cxOf (L2.CX P Wd.w) P Wd.w K mg base N_Plan___mul__ "Plan.__mul__" (defScope s_Plan___mul__) f cdv A0 outer s H E) (defBody s_Plan___mul__) (liftS ⟨K, U⟩ (fun cls d _ H => E cls d H) (d_Plan___mul__ K A)) :=
  (dss_cons (ds_set (i := 2) sc_Plan___mul__.nd rfl (by first | exact Or.inl rfl | exact Or.inr rfl) (de_op (od_times rfl) (de_fld rfl (de_var 0)) (de_var 1))) (dss_one (ds_ret (by exact de_zK rfl (de_makeS1 T.mk_Plan G_Plan___init__ (hr.mono (by decide)) (by rfl) T.g_Plan rfl (takes_of rfl rfl rfl rfl) (de_var 2))))))
theorem h_Plan_apart (T : Txt K mg A) (G_Plan___init__ : FnD P Wd.w K mg base 1 A.m_Plan___init__ (sd_Plan___init__ K A)) {f : Addr} {cdv : Value} {A0 : Around} {outer : List PySem.Env} {s : Shared} {H U : Hp} {E : XK} (hr : Room 2 (A0.deeper (envOfC "Plan.apart" (defScope s_Plan_apart) s.heap.objs.size f cdv))) :
    PSs (cxOf (L2.CX P Wd.w) P Wd.w K mg base N_Plan_apart "Plan.apart" (defScope s_Plan_apart) f cdv A0 outer s H E) (defBody s_Plan_apart) (liftS ⟨K, U⟩ (fun cls d _ H => E cls d H) (d_Plan_apart K A)) :=
  (dss_cons (ds_if (dt_cmp od_is (de_var 0) de_non (nomark _)) (dss_one (ds_ret (by exact de_zK rfl (de_make0 T.mk_Plan G_Plan___init__ (hr.mono (by decide)) (by rfl) T.g_Plan rfl (takes_of rfl rfl rfl rfl))))) dss_nil) (dss_cons (ds_setLc (i := 2) (own := [("name", 3)]) (ct := .nm 3) (dt := dYes) (de := dTup (dCons (dVar 3) (dNil))) rfl rfl sc_Plan_apart.nd rfl rfl (sw_true rfl rfl rfl (by decide +kernel)) (di_any rfl (de_tup (da_cons (de_var 0) (da_star rfl (de_var 1) da_nil)))) (blkOk_by (N := N_Plan_apart) (sc := defScope s_Plan_apart) (by decide +kernel)) (by decide) (fun _ _ _ _ _ => (pg_name (i := 3) sc_Plan_apart.nd rfl (by first | exact Or.inl rfl | exact Or.inr rfl))) (fun _ _ _ _ _ _ => dts_nil) (fun _ _ _ _ _ _ => (de_tup (da_cons (de_var 3) da_nil)))) (dss_one (ds_ret (by exact de_zK rfl (de_makeS1 T.mk_Plan G_Plan___init__ (hr.mono (by decide)) (by rfl) T.g_Plan rfl (takes_of rfl rfl rfl rfl) (de_var 2)))))))
theorem h_Plan_together (T : Txt K mg A) (G_Plan___init__ : FnD P Wd.w K mg base 1 A.m_Plan___init__ (sd_Plan___init__ K A)) {f : Addr} {cdv : Value} {A0 : Around} {outer : List PySem.Env} {s : Shared} {H U : Hp} {E : XK} (hr : Room 2 (A0.deeper (envOfC "Plan.together" (defScope s_Plan_together) s.heap.objs.size f cdv))) :
    PSs (cxOf (L2.CX P Wd.w) P Wd.w K mg base N_Plan_together "Plan.together" (defScope s_Plan_together) f cdv A0 outer s H E) (defBody s_Plan_together) (liftS ⟨K, U⟩ (fun cls d _ H => E cls d H) (d_Plan_together K A)) :=
  (dss_cons (ds_if (dt_cmp od_is (de_var 0) de_non (nomark _)) (dss_one (ds_ret (by exact de_zK rfl (de_make0 T.mk_Plan G_Plan___init__ (hr.mono (by decide)) (by rfl) T.g_Plan rfl (takes_of rfl rfl rfl rfl))))) dss_nil) (dss_one (ds_ret (by exact de_zK rfl (de_make T.mk_Plan G_Plan___init__ (hr.mono (by decide)) (by rfl) T.g_Plan rfl (takes_of rfl rfl rfl rfl) (da_cons (de_tup (da_cons (de_var 0) (da_star rfl (de_var 1) da_nil))) da_nil))))))
theorem h__law_apart (T : Txt K mg A) (G_Plan_apart : FnD P Wd.w K mg base 3 A.m_Plan_apart (sd_Plan_apart K A)) {f : Addr} {cdv : Value} {A0 : Around} {outer : List PySem.Env} {s : Shared} {H U : Hp} {E : XK} (hr : Room 3 (A0.deeper (envOfC "_law_apart" (defScope s__law_apart) s.heap.objs.size f cdv))) :
    PSs (cxOf (L2.CX P Wd.w) P Wd.w K mg base N__law_apart "_law_apart" (defScope s__law_apart) f cdv A0 outer s H E) (defBody s__law_apart) (liftS ⟨K, U⟩ (fun cls d _ H => E cls d H) (d__law_apart K A)) :=
  (dss_cons (ds_if (dt_cmp (od_eq rfl (hu64 hr)) (de_callB (cd_len rfl rfl) (by rfl) T.z_len PySem.boot_len (da_cons (de_var 0) da_nil)) de_int (nomark _)) (dss_one (ds_ret (by exact de_zK rfl (de_scall0 T.rc_Plan T.st_Plan_apart G_Plan_apart (hr.mono (by decide)) (by rfl) T.g_Plan rfl (takes_of rfl rfl rfl rfl))))) dss_nil) (dss_cons (ds_if (dt_cmp (od_eq rfl (hu64 hr)) (de_callB (cd_len rfl rfl) (by rfl) T.z_len PySem.boot_len (da_cons (de_var 0) da_nil)) de_int (nomark _)) (dss_one (ds_ret (by exact de_zK rfl (de_scall T.rc_Plan T.st_Plan_apart G_Plan_apart (hr.mono (by decide)) (by rfl) T.g_Plan rfl (takes_of rfl rfl rfl rfl) (da_cons (de_ix (od_ix rfl rfl (hu64 hr)) (de_var 0) de_int) da_nil))))) dss_nil) (dss_cons (ds_if (dt_cmp (od_eq rfl (hu64 hr)) (de_callB (cd_len rfl rfl) (by rfl) T.z_len PySem.boot_len (da_cons (de_var 0) da_nil)) de_int (nomark _)) (dss_one (ds_ret (by exact de_zK rfl (de_scall T.rc_Plan T.st_Plan_apart G_Plan_apart (hr.mono (by decide)) (by rfl) T.g_Plan rfl (takes_of rfl rfl rfl rfl) (da_cons (de_ix (od_ix rfl rfl (hu64 hr)) (de_var 0) de_int) (da_cons (de_ix (od_ix rfl rfl (hu64 hr)) (de_var 0) de_int) da_nil)))))) dss_nil) (dss_one (ds_ret (by exact de_zK rfl (de_scall T.rc_Plan T.st_Plan_apart G_Plan_apart (hr.mono (by decide)) (by rfl) T.g_Plan rfl (takes_of rfl rfl rfl rfl) (da_cons (de_ix (od_ix rfl rfl (hu64 hr)) (de_var 0) de_int) (da_cons (de_ix (od_ix rfl rfl (hu64 hr)) (de_var 0) de_int) (da_cons (de_ix (od_ix rfl rfl (hu64 hr)) (de_var 0) de_int) da_nil))))))))))
theorem h__law_together (T : Txt K mg A) (G_Plan_together : FnD P Wd.w K mg base 3 A.m_Plan_together (sd_Plan_together K A)) {f : Addr} {cdv : Value} {A0 : Around} {outer : List PySem.Env} {s : Shared} {H U : Hp} {E : XK} (hr : Room 3 (A0.deeper (envOfC "_law_together" (defScope s__law_together) s.heap.objs.size f cdv))) :
    PSs (cxOf (L2.CX P Wd.w) P Wd.w K mg base N__law_together "_law_together" (defScope s__law_together) f cdv A0 outer s H E) (defBody s__law_together) (liftS ⟨K, U⟩ (fun cls d _ H => E cls d H) (d__law_together K A)) :=
  (dss_cons (ds_if (dt_cmp (od_eq rfl (hu64 hr)) (de_callB (cd_len rfl rfl) (by rfl) T.z_len PySem.boot_len (da_cons (de_var 0) da_nil)) de_int (nomark _)) (dss_one (ds_ret (by exact de_zK rfl (de_scall0 T.rc_Plan T.st_Plan_together G_Plan_together (hr.mono (by decide)) (by rfl) T.g_Plan rfl (takes_of rfl rfl rfl rfl))))) dss_nil) (dss_cons (ds_if (dt_cmp (od_eq rfl (hu64 hr)) (de_callB (cd_len rfl rfl) (by rfl) T.z_len PySem.boot_len (da_cons (de_var 0) da_nil)) de_int (nomark _)) (dss_one (ds_ret (by exact de_zK rfl (de_scall T.rc_Plan T.st_Plan_together G_Plan_together (hr.mono (by decide)) (by rfl) T.g_Plan rfl (takes_of rfl rfl rfl rfl) (da_cons (de_ix (od_ix rfl rfl (hu64 hr)) (de_var 0) de_int) da_nil))))) dss_nil) (dss_cons (ds_if (dt_cmp (od_eq rfl (hu64 hr)) (de_callB (cd_len rfl rfl) (by rfl) T.z_len PySem.boot_len (da_cons (de_var 0) da_nil)) de_int (nomark _)) (dss_one (ds_ret (by exact de_zK rfl (de_scall T.rc_Plan T.st_Plan_together G_Plan_together (hr.mono (by decide)) (by rfl) T.g_Plan rfl (takes_of rfl rfl rfl rfl) (da_cons (de_ix (od_ix rfl rfl (hu64 hr)) (de_var 0) de_int) (da_cons (de_ix (od_ix rfl rfl (hu64 hr)) (de_var 0) de_int) da_nil)))))) dss_nil) (dss_one (ds_ret (by exact de_zK rfl (de_scall T.rc_Plan T.st_Plan_together G_Plan_together (hr.mono (by decide)) (by rfl) T.g_Plan rfl (takes_of rfl rfl rfl rfl) (da_cons (de_ix (od_ix rfl rfl (hu64 hr)) (de_var 0) de_int) (da_cons (de_ix (od_ix rfl rfl (hu64 hr)) (de_var 0) de_int) (da_cons (de_ix (od_ix rfl rfl (hu64 hr)) (de_var 0) de_int) da_nil))))))))))
theorem h__law_is (T : Txt K mg A) (G_Plan___iter__ : IterFn P Wd.w K mg base 1 A.m_Plan___iter__ "_groups") (G_Plan___len__ : FnD P Wd.w K mg base 1 A.m_Plan___len__ (sd_Plan___len__ K A)) (G_Plan_walks : FnD P Wd.w K mg base 1 A.m_Plan_walks (sd_Plan_walks K A)) (G_Plan___contains__ : FnD P Wd.w K mg base 1 A.m_Plan___contains__ (sd_Plan___contains__ K A)) (G_Plan___str__ : FnD P Wd.w K mg base 1 A.m_Plan___str__ (sd_Plan___str__ K A)) {f : Addr} {cdv : Value} {A0 : Around} {outer : List PySem.Env} {s : Shared} {H U : Hp} {E : XK} (hr : Room 3 (A0.deeper (envOfC "_law_is" (defScope s__law_is) s.heap.objs.size f cdv))) :
    PSs (cxOf (L2.CX P Wd.w) P Wd.w K mg base N__law_is "_law_is" (defScope s__law_is) f cdv A0 outer s H E) (defBody s__law_is) (liftS ⟨K, U⟩ (fun cls d _ H => E cls d H) (d__law_is K A)) :=
  (dss_cons (ds_setLc (i := 3) (own := [("_law_group", 4)]) (ct := .nm 4) (dt := dB (dOp rGt (dCB rLen (dCons (dVar 4) (dNil))) (dC (.int 0)))) (de := dCB rTuple (dCons (dVar 4) (dNil))) rfl rfl sc__law_is.nd rfl rfl (sw_true rfl rfl rfl (by decide +kernel)) (di_any rfl (de_var 1)) (blkOk_by (N := N__law_is) (sc := defScope s__law_is) (by decide +kernel)) (by decide) (fun _ _ _ _ _ => (pg_name (i := 4) sc__law_is.nd rfl (by first | exact Or.inl rfl | exact Or.inr rfl))) (fun _ _ _ _ _ _ => (dts_one (dt_cmp od_gt (de_callB (cd_len rfl rfl) (by rfl) T.z_len PySem.boot_len (da_cons (de_var 4) da_nil)) de_int (nomark _)))) (fun _ _ _ _ _ _ => (de_callTy (cd_tuple rfl rfl) (by rfl) T.z_tuple dboot_tuple (da_cons (de_var 4) da_nil)))) (dss_cons (ds_set (i := 5) sc__law_is.nd rfl (by first | exact Or.inl rfl | exact Or.inr rfl) (de_lst da_nil)) (dss_cons (ds_for (passes_of rfl) rfl (di_any rfl (de_var 3)) (fun _ => (dg_name (i := 4) sc__law_is.nd rfl (by first | exact Or.inl rfl | exact Or.inr rfl))) (fun _ => (dss_one (ds_set (i := 5) sc__law_is.nd rfl (by first | exact Or.inl rfl | exact Or.inr rfl) (de_op (od_add rfl) (de_var 5) (de_callTy (cd_list rfl rfl rfl) (by rfl) T.z_list dboot_list (da_cons (de_var 4) da_nil))))))) (dss_cons (ds_if (dt_w (dw_or (dt_cmp (od_ne rfl (hu64 hr)) (de_lc (own := [("_law_group", 4)]) (ct := .nm 4) (dt := dYes) (de := dVar 4) rfl rfl sc__law_is.nd (di_own rfl T.it_Plan___iter__ T.fo_Plan__groups G_Plan___iter__ (hr.mono (by decide)) (de_var 0)) (blkOk_by (N := N__law_is) (sc := defScope s__law_is) (by decide +kernel)) (by decide) (fun _ _ _ _ _ => (pg_name (i := 4) sc__law_is.nd rfl (by first | exact Or.inl rfl | exact Or.inr rfl))) (fun _ _ _ _ _ _ => dts_nil) (fun _ _ _ _ _ _ => (de_var 4))) (de_var 3) (nomark _)) (dw_or (dt_cmp (od_ne rfl (hu64 hr)) (de_callB (cd_lenO rfl T.ow_Plan___len__ G_Plan___len__ (hr.mono (by decide)) rfl) (by rfl) T.z_len PySem.boot_len (da_cons (de_var 0) da_nil)) (de_callB (cd_len rfl rfl) (by rfl) T.z_len PySem.boot_len (da_cons (de_var 3) da_nil)) (nomark _)) (dw_or1 (dt_cmp (od_ne rfl (hu64 hr)) (de_prop T.cl_Plan T.pr_Plan_walks G_Plan_walks (hr.mono (by decide)) rfl (de_var 0)) (de_callTy (cd_tuple rfl rfl) (by rfl) T.z_tuple dboot_tuple (da_cons (de_var 5) da_nil)) (nomark _)))))) (dss_one (ds_ret de_bl)) dss_nil) (dss_cons (ds_for (passes_of rfl) rfl (di_any rfl (de_op (od_add rfl) (de_var 2) (de_lst (da_cons de_str da_nil)))) (fun _ => (dg_name (i := 6) sc__law_is.nd rfl (by first | exact Or.inl rfl | exact Or.inr rfl))) (fun _ => (dss_one (ds_if (dt_cmp (od_ne rfl (hu64 hr)) (de_cmp (od_or (od_in rfl rfl (hu65 hr)) (od_inO T.ow_Plan___contains__ G_Plan___contains__ (hr.mono (by decide)) rfl)) (de_var 6) (de_var 0) (by with_unfolding_all rfl)) (de_cmp (od_or (od_in rfl rfl (hu65 hr)) (od_inO T.ow_Plan___contains__ G_Plan___contains__ (hr.mono (by decide)) rfl)) (de_var 6) (de_var 5) (by with_unfolding_all rfl)) (nomark _)) (dss_one (ds_ret de_bl)) dss_nil)))) (dss_one (ds_ret (de_cmp (od_eq rfl (hu64 hr)) (de_callTy (cd_strO T.ow_Plan___str__ G_Plan___str__ (hr.mono (by decide)) rfl) (by rfl) T.z_str dboot_str (da_cons (de_var 0) da_nil)) (de_bm PySem.F.plainAttrs_str PySem.F.slot_str_join PySem.F.type_str_join rfl (md_join rfl) de_str (da_cons (de_lc (own := [("_law_group", 4)]) (ct := .nm 4) (dt := dYes) (de := dBM "str" rJoin (dC (.str ("|" : Str))) (dCons (dVar 4) (dNil))) rfl rfl sc__law_is.nd (di_any rfl (de_var 3)) (blkOk_by (N := N__law_is) (sc := defScope s__law_is) (by decide +kernel)) (by decide) (fun _ _ _ _ _ => (pg_name (i := 4) sc__law_is.nd rfl (by first | exact Or.inl rfl | exact Or.inr rfl))) (fun _ _ _ _ _ _ => dts_nil) (fun _ _ _ _ _ _ => (de_bm PySem.F.plainAttrs_str PySem.F.slot_str_join PySem.F.type_str_join rfl (md_join rfl) de_str (da_cons (de_var 4) da_nil)))) da_nil)) (nomark _)))))))))
theorem h__law_plan (T : Txt K mg A) (G_Plan___add__ : FnD P Wd.w K mg base 3 A.m_Plan___add__ (sd_Plan___add__ K A)) (G_Plan___init__ : FnD P Wd.w K mg base 1 A.m_Plan___init__ (sd_Plan___init__ K A)) {f : Addr} {cdv : Value} {A0 : Around} {outer : List PySem.Env} {s : Shared} {H U : Hp} {E : XK} (hr : Room 4 (A0.deeper (envOfC "_law_plan" (defScope s__law_plan) s.heap.objs.size f cdv))) :
    PSs (cxOf (L2.CX P Wd.w) P Wd.w K mg base N__law_plan "_law_plan" (defScope s__law_plan) f cdv A0 outer s H E) (defBody s__law_plan) (liftS ⟨K, U⟩ (fun cls d _ H => E cls d H) (d__law_plan K A)) :=
  (dss_cons (ds_if (dt_cmp (od_eq rfl (hu64 hr)) (de_callB (cd_len rfl rfl) (by rfl) T.z_len PySem.boot_len (da_cons (de_var 0) da_nil)) de_int (nomark _)) (dss_one (ds_ret (by exact de_zK rfl (de_make0 T.mk_Plan G_Plan___init__ (hr.mono (by decide)) (by rfl) T.g_Plan rfl (takes_of rfl rfl rfl rfl))))) dss_nil) (dss_cons (ds_if (dt_cmp (od_eq rfl (hu64 hr)) (de_callB (cd_len rfl rfl) (by rfl) T.z_len PySem.boot_len (da_cons (de_var 0) da_nil)) de_int (nomark _)) (dss_one (ds_ret (by exact de_zK rfl (de_make T.mk_Plan G_Plan___init__ (hr.mono (by decide)) (by rfl) T.g_Plan rfl (takes_of rfl rfl rfl rfl) (da_cons (de_ix (od_ix rfl rfl (hu64 hr)) (de_var 0) de_int) da_nil))))) dss_nil) (dss_cons (ds_if (dt_cmp (od_eq rfl (hu64 hr)) (de_callB (cd_len rfl rfl) (by rfl) T.z_len PySem.boot_len (da_cons (de_var 0) da_nil)) de_int (nomark _)) (dss_one (ds_ret (by exact de_zK rfl (de_make T.mk_Plan G_Plan___init__ (hr.mono (by decide)) (by rfl) T.g_Plan rfl (takes_of rfl rfl rfl rfl) (da_cons (de_ix (od_ix rfl rfl (hu64 hr)) (de_var 0) de_int) (da_cons (de_callTy (cd_tuple rfl rfl) (by rfl) T.z_tuple dboot_tuple (da_cons (de_ix (od_ix rfl rfl (hu64 hr)) (de_var 0) de_int) da_nil)) da_nil)))))) dss_nil) (dss_cons (ds_if (dt_cmp (od_eq rfl (hu64 hr)) (de_callB (cd_len rfl rfl) (by rfl) T.z_len PySem.boot_len (da_cons (de_var 0) da_nil)) de_int (nomark _)) (dss_one (ds_ret (by exact de_zK rfl (de_make T.mk_Plan G_Plan___init__ (hr.mono (by decide)) (by rfl) T.g_Plan rfl (takes_of rfl rfl rfl rfl) (da_cons (de_ix (od_ix rfl rfl (hu64 hr)) (de_var 0) de_int) (da_cons (de_ix (od_ix rfl rfl (hu64 hr)) (de_var 0) de_int) (da_cons (de_ix (od_ix rfl rfl (hu64 hr)) (de_var 0) de_int) da_nil))))))) dss_nil) (dss_cons (ds_set (i := 1) sc__law_plan.nd rfl (by first | exact Or.inl rfl | exact Or.inr rfl) (by exact de_zK rfl (de_make T.mk_Plan G_Plan___init__ (hr.mono (by decide)) (by rfl) T.g_Plan rfl (takes_of rfl rfl rfl rfl) (da_cons (de_ix (od_ix rfl rfl (hu64 hr)) (de_var 0) de_int) da_nil)))) (dss_cons (ds_for (passes_of rfl) rfl (di_any rfl (de_slice rfl (de_var 0) (do_some de_int) do_none)) (fun _ => (dg_name (i := 2) sc__law_plan.nd rfl (by first | exact Or.inl rfl | exact Or.inr rfl))) (fun _ => (dss_one (ds_set (i := 1) sc__law_plan.nd rfl (by first | exact Or.inl rfl | exact Or.inr rfl) (de_op (od_or (od_add rfl) (od_bin T.ow_Plan___add__ G_Plan___add__ (hr.mono (by decide)) rfl)) (de_var 1) (by exact de_zK rfl (de_make T.mk_Plan G_Plan___init__ (hr.mono (by decide)) (by rfl) T.g_Plan rfl (takes_of rfl rfl rfl rfl) (da_cons (de_var 2) da_nil)))))))) (dss_one (ds_ret (de_op (od_or (od_add rfl) (od_bin T.ow_Plan___add__ G_Plan___add__ (hr.mono (by decide)) rfl)) (by exact de_zK rfl (de_make T.mk_Plan G_Plan___init__ (hr.mono (by decide)) (by rfl) T.g_Plan rfl (takes_of rfl rfl rfl rfl) (da_cons (de_callTy (cd_tuple rfl rfl) (by rfl) T.z_tuple dboot_tuple (da_cons (de_ix (od_ix rfl rfl (hu64 hr)) (de_var 0) de_int) da_nil)) (da_cons (de_ix (od_ix rfl rfl (hu64 hr)) (de_var 0) de_int) (da_cons (de_ix (od_ix rfl rfl (hu64 hr)) (de_var 0) de_int) da_nil))))) (de_var 1))))))))))
theorem h_Plan___rmul__ (T : Txt K mg A) (G_Plan___mul__ : FnD P Wd.w K mg base 3 A.m_Plan___mul__ (sd_Plan___mul__ K A)) {f : Addr} {cdv : Value} {A0 : Around} {outer : List PySem.Env} {s : Shared} {H U : Hp} {E : XK} (hr : Room 4 (A0.deeper (envOfC "Plan.__rmul__" (defScope s_Plan___rmul__) s.heap.objs.size f cdv))) :
    PSs (cxOf (L2.CX P Wd.w) P Wd.w K mg base N_Plan___rmul__ "Plan.__rmul__" (defScope s_Plan___rmul__) f cdv A0 outer s H E) (defBody s_Plan___rmul__) (liftS ⟨K, U⟩ (fun cls d _ H => E cls d H) (d_Plan___rmul__ K A)) :=
  (dss_one (ds_ret (de_op (od_ownI (T.ow_Plan___mul__) (T.oi_Plan___mul__) G_Plan___mul__ (hr.mono (by decide)) rfl) (de_var 0) (de_var 1))))
theorem h_law (T : Txt K mg A) (G__law_source : FnD P Wd.w K mg base 1 A.f__law_source (sd__law_source K A)) (G__law_names : FnD P Wd.w K mg base 2 A.f__law_names (sd__law_names K A)) (G__law_groups : FnD P Wd.w K mg base 2 A.f__law_groups (sd__law_groups K A)) (G__law_plan : FnD P Wd.w K mg base 5 A.f__law_plan (sd__law_plan K A)) (G__law_draw : FnD P Wd.w K mg base 1 A.f__law_draw (sd__law_draw K A)) (G_Plan___eq__ : FnD P Wd.w K mg base 1 A.m_Plan___eq__ (sd_Plan___eq__ K A)) (G_Plan___add__ : FnD P Wd.w K mg base 3 A.m_Plan___add__ (sd_Plan___add__ K A)) (G__law_is : FnD P Wd.w K mg base 4 A.f__law_is (sd__law_is K A)) (G_Plan___or__ : FnD P Wd.w K mg base 3 A.m_Plan___or__ (sd_Plan___or__ K A)) (G_Plan___mul__ : FnD P Wd.w K mg base 3 A.m_Plan___mul__ (sd_Plan___mul__ K A)) (G_Plan___rmul__ : FnD P Wd.w K mg base 5 A.m_Plan___rmul__ (sd_Plan___rmul__ K A)) (G__law_apart : FnD P Wd.w K mg base 4 A.f__law_apart (sd__law_apart K A)) (G__law_together : FnD P Wd.w K mg base 4 A.f__law_together (sd__law_together K A)) (G_Plan___init__ : FnD P Wd.w K mg base 1 A.m_Plan___init__ (sd_Plan___init__ K A)) {f : Addr} {cdv : Value} {A0 : Around} {outer : List PySem.Env} {s : Shared} {H U : Hp} {E : XK} (hr : Room 6 (A0.deeper (envOfC "law" (defScope s_law) s.heap.objs.size f cdv))) :
    PSs (cxOf (L2.CX P Wd.w) P Wd.w K mg base N_law "law" (defScope s_law) f cdv A0 outer s H E) (defBody s_law) (liftS ⟨K, U⟩ (fun cls d _ H => E cls d H) (d_law K A)) :=
  (dss_cons (ds_set (i := 1) sc_law.nd rfl (by first | exact Or.inl rfl | exact Or.inr rfl) (de_call G__law_source (hr.mono (by decide)) (by rfl) T.g__law_source T.k__law_source rfl (takes_of rfl rfl rfl rfl) (da_cons (de_var 0) da_nil))) (dss_cons (ds_set (i := 2) sc_law.nd rfl (by first | exact Or.inl rfl | exact Or.inr rfl) (by exact de_zK rfl (de_call G__law_names (hr.mono (by decide)) (by rfl) T.g__law_names T.k__law_names rfl (takes_of rfl rfl rfl rfl) (da_cons (de_var 1) (da_cons de_int da_nil))))) (dss_cons (ds_set (i := 3) sc_law.nd rfl (by first | exact Or.inl rfl | exact Or.inr rfl) (by exact de_zK rfl (de_call G__law_groups (hr.mono (by decide)) (by rfl) T.g__law_groups T.k__law_groups rfl (takes_of rfl rfl rfl rfl) (da_cons (de_var 1) (da_cons (de_var 2) da_nil))))) (dss_cons (ds_set (i := 4) sc_law.nd rfl (by first | exact Or.inl rfl | exact Or.inr rfl) (by exact de_zK rfl (de_call G__law_groups (hr.mono (by decide)) (by rfl) T.g__law_groups T.k__law_groups rfl (takes_of rfl rfl rfl rfl) (da_cons (de_var 1) (da_cons (de_var 2) da_nil))))) (dss_cons (ds_setLc (i := 5) (own := [("_law_group", 6)]) (ct := .nm 6) (dt := dYes) (de := dCB rList (dCons (dVar 6) (dNil))) rfl rfl sc_law.nd rfl rfl (sw_true rfl rfl rfl (by decide +kernel)) (di_any rfl (de_var 3)) (blkOk_by (N := N_law) (sc := defScope s_law) (by decide +kernel)) (by decide) (fun _ _ _ _ _ => (pg_name (i := 6) sc_law.nd rfl (by first | exact Or.inl rfl | exact Or.inr rfl))) (fun _ _ _ _ _ _ => dts_nil) (fun _ _ _ _ _ _ => (de_callTy (cd_list rfl rfl rfl) (by rfl) T.z_list dboot_list (da_cons (de_var 6) da_nil)))) (dss_cons (ds_set (i := 7) sc_law.nd rfl (by first | exact Or.inl rfl | exact Or.inr rfl) (by exact de_zK rfl (de_call G__law_plan (hr.mono (by decide)) (by rfl) T.g__law_plan T.k__law_plan rfl (takes_of rfl rfl rfl rfl) (da_cons (de_var 5) da_nil)))) (dss_cons (ds_if (dt_cmp (od_ne rfl (hu64 hr)) (de_var 5) (de_var 3) (nomark _)) (dss_one (ds_ret de_bl)) dss_nil) (dss_cons (ds_for (passes_of rfl) rfl (di_any rfl (de_var 5)) (fun _ => (dg_name (i := 6) sc_law.nd rfl (by first | exact Or.inl rfl | exact Or.inr rfl))) (fun _ => (dss_one (ds_expr (de_bm PySem.F.plainAttrs_list PySem.F.slot_list_append PySem.F.type_list_append rfl md_append (de_var 6) (da_cons de_str da_nil)))))) (dss_cons (ds_expr (de_bm PySem.F.plainAttrs_list PySem.F.slot_list_append PySem.F.type_list_append rfl md_append (de_var 5) (da_cons (de_lst (da_cons de_str da_nil)) da_nil))) (dss_cons (ds_set (i := 8) sc_law.nd rfl (by first | exact Or.inl rfl | exact Or.inr rfl) (by exact de_zK rfl (de_call G__law_plan (hr.mono (by decide)) (by rfl) T.g__law_plan T.k__law_plan rfl (takes_of rfl rfl rfl rfl) (da_cons (de_lc (own := [("_law_group", 6)]) (ct := .nm 6) (dt := dYes) (de := dCB rList (dCons (dVar 6) (dNil))) rfl rfl sc_law.nd (di_any rfl (de_var 4)) (blkOk_by (N := N_law) (sc := defScope s_law) (by decide +kernel)) (by decide) (fun _ _ _ _ _ => (pg_name (i := 6) sc_law.nd rfl (by first | exact Or.inl rfl | exact Or.inr rfl))) (fun _ _ _ _ _ _ => dts_nil) (fun _ _ _ _ _ _ => (de_callTy (cd_list rfl rfl rfl) (by rfl) T.z_list dboot_list (da_cons (de_var 6) da_nil)))) da_nil)))) (dss_cons (ds_set (i := 9) sc_law.nd rfl (by first | exact Or.inl rfl | exact Or.inr rfl) (de_call G__law_draw (hr.mono (by decide)) (by rfl) T.g__law_draw T.k__law_draw rfl (takes_of rfl rfl rfl rfl) (da_cons (de_var 1) (da_cons de_int da_nil)))) (dss_cons (ds_if (dt_cmp (od_or (od_eq rfl (hu64 hr)) (od_own (fun _ _ => rfl) T.ow_Plan___eq__ G_Plan___eq__ (hr.mono (by decide)) rfl)) (de_call G__law_draw (hr.mono (by decide)) (by rfl) T.g__law_draw T.k__law_draw rfl (takes_of rfl rfl rfl rfl) (da_cons (de_var 1) (da_cons de_int da_nil))) de_int (nomark _)) (dss_one (ds_set (i := 9) sc_law.nd rfl (by first | exact Or.inl rfl | exact Or.inr rfl) (de_call G__law_draw (hr.mono (by decide)) (by rfl) T.g__law_draw T.k__law_draw rfl (takes_of rfl rfl rfl rfl) (da_cons (de_var 1) (da_cons de_int da_nil))))) dss_nil) (dss_cons (ds_setLc (i := 10) (own := [("_law_n", 11)]) (ct := .nm 11) (dt := dYes) (de := dOp rIx (dVar 2) (dCall (sd__law_draw K A) (dCons (dVar 1) (dCons (dCB rLen (dCons (dVar 2) (dNil))) (dNil))))) rfl rfl sc_law.nd rfl rfl (sw_true rfl rfl rfl (by decide +kernel)) (di_range1 (by rfl) T.z_range (da_cons (de_call G__law_draw (hr.mono (by decide)) (by rfl) T.g__law_draw T.k__law_draw rfl (takes_of rfl rfl rfl rfl) (da_cons (de_var 1) (da_cons de_int da_nil))) da_nil)) (blkOk_by (N := N_law) (sc := defScope s_law) (by decide +kernel)) (by decide) (fun _ _ _ _ _ => (pg_name (i := 11) sc_law.nd rfl (by first | exact Or.inl rfl | exact Or.inr rfl))) (fun _ _ _ _ _ _ => dts_nil) (fun _ _ _ _ _ _ => (de_ix (od_ix rfl rfl (hu64 hr)) (de_var 2) (de_call G__law_draw (hr.mono (by decide)) (by rfl) T.g__law_draw T.k__law_draw rfl takes0 (da_cons (de_var 1) (da_cons (de_callB (cd_len rfl rfl) (by rfl) T.z_len PySem.boot_len (da_cons (de_var 2) da_nil)) da_nil)))))) (dss_cons (ds_set (i := 12) sc_law.nd rfl (by first | exact Or.inl rfl | exact Or.inr rfl) (de_lst da_nil)) (dss_cons (ds_for (passes_of rfl) rfl (di_any rfl (de_op (od_or (od_add rfl) (od_bin T.ow_Plan___add__ G_Plan___add__ (hr.mono (by decide)) rfl)) (de_var 3) (de_var 4))) (fun _ => (dg_name (i := 6) sc_law.nd rfl (by first | exact Or.inl rfl | exact Or.inr rfl))) (fun _ => (dss_one (ds_set (i := 12) sc_law.nd rfl (by first | exact Or.inl rfl | exact Or.inr rfl) (de_op (od_or (od_add rfl) (od_bin T.ow_Plan___add__ G_Plan___add__ (hr.mono (by decide)) rfl)) (de_var 12) (de_var 6)))))) (dss_cons (ds_setLc (i := 13) (own := [("_law_group", 6)]) (ct := .nm 6) (dt := dB (dOp rGt (dCB rLen (dCons (dVar 6) (dNil))) (dC (.int 0)))) (de := dCB rTuple (dCons (dVar 6) (dNil))) rfl rfl sc_law.nd rfl rfl (sw_true rfl rfl rfl (by decide +kernel)) (di_any rfl (de_var 3)) (blkOk_by (N := N_law) (sc := defScope s_law) (by decide +kernel)) (by decide) (fun _ _ _ _ _ => (pg_name (i := 6) sc_law.nd rfl (by first | exact Or.inl rfl | exact Or.inr rfl))) (fun _ _ _ _ _ _ => (dts_one (dt_cmp od_gt (de_callB (cd_len rfl rfl) (by rfl) T.z_len PySem.boot_len (da_cons (de_var 6) da_nil)) de_int (nomark _)))) (fun _ _ _ _ _ _ => (de_callTy (cd_tuple rfl rfl) (by rfl) T.z_tuple dboot_tuple (da_cons (de_var 6) da_nil)))) (dss_cons (ds_set (i := 14) sc_law.nd rfl (by first | exact Or.inl rfl | exact Or.inr rfl) (de_cmp (od_or (od_eq rfl (hu64 hr)) (od_own (fun _ _ => rfl) T.ow_Plan___eq__ G_Plan___eq__ (hr.mono (by decide)) rfl)) (de_var 7) (de_var 8) (nomark _))) (dss_cons (ds_if (dt_w (dw_or (dt_not (dt_val (de_callB (cd_isi rfl) (by rfl) T.z_isinstance dboot_isinstance (da_cons (de_var 14) (da_cons (de_type (by rfl) T.z_bool dboot_bool) da_nil))))) (dw_or1 (dt_cmp (od_ne rfl (hu64 hr)) (de_var 14) (de_cmp (od_or (od_eq rfl (hu64 hr)) (od_own (fun _ _ => rfl) T.ow_Plan___eq__ G_Plan___eq__ (hr.mono (by decide)) rfl)) (de_var 13) (de_lc (own := [("_law_group", 6)]) (ct := .nm 6) (dt := dB (dOp rGt (dCB rLen (dCons (dVar 6) (dNil))) (dC (.int 0)))) (de := dCB rTuple (dCons (dVar 6) (dNil))) rfl rfl sc_law.nd (di_any rfl (de_var 4)) (blkOk_by (N := N_law) (sc := defScope s_law) (by decide +kernel)) (by decide) (fun _ _ _ _ _ => (pg_name (i := 6) sc_law.nd rfl (by first | exact Or.inl rfl | exact Or.inr rfl))) (fun _ _ _ _ _ _ => (dts_one (dt_cmp od_gt (de_callB (cd_len rfl rfl) (by rfl) T.z_len PySem.boot_len (da_cons (de_var 6) da_nil)) de_int (nomark _)))) (fun _ _ _ _ _ _ => (de_callTy (cd_tuple rfl rfl) (by rfl) T.z_tuple dboot_tuple (da_cons (de_var 6) da_nil)))) (nomark _)) (nomark _))))) (dss_one (ds_ret de_bl)) dss_nil) (dss_cons (ds_if (dt_w (dw_or (dt_not (dt_val (by exact de_zK rfl (de_call G__law_is (hr.mono (by decide)) (by rfl) T.g__law_is T.k__law_is rfl (takes_of rfl rfl rfl rfl) (da_cons (de_op (od_or (od_add rfl) (od_bin T.ow_Plan___add__ G_Plan___add__ (hr.mono (by decide)) rfl)) (de_var 7) (de_var 8)) (da_cons (de_op (od_or (od_add rfl) (od_bin T.ow_Plan___add__ G_Plan___add__ (hr.mono (by decide)) rfl)) (de_var 3) (de_var 4)) (da_cons (de_var 2) da_nil))))))) (dw_or1 (dt_not (dt_val (by exact de_zK rfl (de_call G__law_is (hr.mono (by decide)) (by rfl) T.g__law_is T.k__law_is rfl (takes_of rfl rfl rfl rfl) (da_cons (de_op (od_bin T.ow_Plan___or__ G_Plan___or__ (hr.mono (by decide)) rfl) (de_var 7) (de_var 8)) (da_cons (de_lst (da_cons (de_var 12) da_nil)) (da_cons (de_var 2) da_nil)))))))))) (dss_one (ds_ret de_bl)) dss_nil) (dss_cons (ds_if (dt_w (dw_or (dt_not (dt_val (by exact de_zK rfl (de_call G__law_is (hr.mono (by decide)) (by rfl) T.g__law_is T.k__law_is rfl (takes_of rfl rfl rfl rfl) (da_cons (de_op (od_ownI (T.ow_Plan___mul__) (T.oi_Plan___mul__) G_Plan___mul__ (hr.mono (by decide)) rfl) (de_var 7) (de_var 9)) (da_cons (de_op od_mul (de_var 3) (de_var 9)) (da_cons (de_var 2) da_nil))))))) (dw_or1 (dt_not (dt_val (by exact de_zK rfl (de_call G__law_is (hr.mono (by decide)) (by rfl) T.g__law_is T.k__law_is rfl (takes_of rfl rfl rfl rfl) (da_cons (de_op (od_rmul (T.or_Plan___rmul__) G_Plan___rmul__ (hr.mono (by decide)) rfl) (de_var 9) (de_var 7)) (da_cons (de_op od_mul (de_var 3) (de_var 9)) (da_cons (de_var 2) da_nil)))))))))) (dss_one (ds_ret de_bl)) dss_nil) (dss_cons (ds_if (dt_w (dw_or (dt_not (dt_val (by exact de_zK rfl (de_call G__law_is (hr.mono (by decide)) (by rfl) T.g__law_is T.k__law_is rfl (takes_of rfl rfl rfl rfl) (da_cons (by exact de_zK rfl (de_call G__law_apart (hr.mono (by decide)) (by rfl) T.g__law_apart T.k__law_apart rfl (takes_of rfl rfl rfl rfl) (da_cons (de_var 10) da_nil))) (da_cons (de_lc (own := [("_law_name", 15)]) (ct := .nm 15) (dt := dYes) (de := dLst (dCons (dVar 15) (dNil))) rfl rfl sc_law.nd (di_any rfl (de_var 10)) (blkOk_by (N := N_law) (sc := defScope s_law) (by decide +kernel)) (by decide) (fun _ _ _ _ _ => (pg_name (i := 15) sc_law.nd rfl (by first | exact Or.inl rfl | exact Or.inr rfl))) (fun _ _ _ _ _ _ => dts_nil) (fun _ _ _ _ _ _ => (de_lst (da_cons (de_var 15) da_nil)))) (da_cons (de_var 2) da_nil))))))) (dw_or1 (dt_not (dt_val (by exact de_zK rfl (de_call G__law_is (hr.mono (by decide)) (by rfl) T.g__law_is T.k__law_is rfl (takes_of rfl rfl rfl rfl) (da_cons (by exact de_zK rfl (de_call G__law_together (hr.mono (by decide)) (by rfl) T.g__law_together T.k__law_together rfl (takes_of rfl rfl rfl rfl) (da_cons (de_var 10) da_nil))) (da_cons (de_lst (da_cons (de_var 10) da_nil)) (da_cons (de_var 2) da_nil)))))))))) (dss_one (ds_ret de_bl)) dss_nil) (dss_cons (ds_if (dt_w (dw_or (dt_not (dt_val (by exact de_zK rfl (de_call G__law_is (hr.mono (by decide)) (by rfl) T.g__law_is T.k__law_is rfl (takes_of rfl rfl rfl rfl) (da_cons (de_var 7) (da_cons (de_var 3) (da_cons (de_var 2) da_nil))))))) (dw_or1 (dt_not (dt_val (by exact de_zK rfl (de_call G__law_is (hr.mono (by decide)) (by rfl) T.g__law_is T.k__law_is rfl (takes_of rfl rfl rfl rfl) (da_cons (de_var 8) (da_cons (de_var 4) (da_cons (de_var 2) da_nil)))))))))) (dss_one (ds_ret de_bl)) dss_nil) (dss_cons (ds_if (dt_cmp (od_ne rfl (hu64 hr)) (de_cmp (od_or (od_eq rfl (hu64 hr)) (od_own (fun _ _ => rfl) T.ow_Plan___eq__ G_Plan___eq__ (hr.mono (by decide)) rfl)) (de_var 7) (de_op (od_bin T.ow_Plan___or__ G_Plan___or__ (hr.mono (by decide)) rfl) (de_var 7) (by exact de_zK rfl (de_make0 T.mk_Plan G_Plan___init__ (hr.mono (by decide)) (by rfl) T.g_Plan rfl (takes_of rfl rfl rfl rfl)))) (nomark _)) (de_cmp od_lt (de_callB (cd_len rfl rfl) (by rfl) T.z_len PySem.boot_len (da_cons (de_var 13) da_nil)) de_int (nomark _)) (nomark _)) (dss_one (ds_ret de_bl)) dss_nil) (dss_one (ds_ret (de_and (de_cmp (od_or (od_eq rfl (hu64 hr)) (od_own (fun _ _ => rfl) T.ow_Plan___eq__ G_Plan___eq__ (hr.mono (by decide)) rfl)) (de_cmp (od_or (od_eq rfl (hu64 hr)) (od_own (fun _ _ => rfl) T.ow_Plan___eq__ G_Plan___eq__ (hr.mono (by decide)) rfl)) (de_var 7) (by exact de_zK rfl (de_make0 T.mk_Plan G_Plan___init__ (hr.mono (by decide)) (by rfl) T.g_Plan rfl (takes_of rfl rfl rfl rfl))) (nomark _)) (de_cmp (od_or (od_eq rfl (hu64 hr)) (od_own (fun _ _ => rfl) T.ow_Plan___eq__ G_Plan___eq__ (hr.mono (by decide)) rfl)) (de_callB (cd_len rfl rfl) (by rfl) T.z_len PySem.boot_len (da_cons (de_var 13) da_nil)) de_int (nomark _)) (nomark _)) (de_one (de_cmp od_isB (de_cmp (od_or (od_eq rfl (hu64 hr)) (od_own (fun _ _ => rfl) T.ow_Plan___eq__ G_Plan___eq__ (hr.mono (by decide)) rfl)) (de_var 7) (by exact de_zK rfl (de_call G__law_plan (hr.mono (by decide)) (by rfl) T.g__law_plan T.k__law_plan rfl (takes_of rfl rfl rfl rfl) (da_cons (de_var 3) da_nil))) (nomark _)) de_bl (nomark _)))))))))))))))))))))))))))))
end
section
variable {P : Program} {K : PySem.W.Frag} {mg : Str → Option Value} {base : Heap} {A : Ad}
variable {ds : List D} {M : Mem} {Qd : D → Mem → Prop} {Ed : XD}
abbrev Pure (d : DS) (N : List Str) (ds : List D) (M : Mem) (Qd : D → Mem → Prop) (Ed : XD) : Prop := d (fun _ M' => Qd .non M') Qd (fun _ _ => False) (fun _ _ => False) (fun C dd _ M' => Ed C dd M') (start0 N ds) M
section
variable {Q : D → Mem → Prop} {E : XD}
theorem len__law_source (h : sd__law_source K A ds M Q E) : ds.length = 1 := by obtain ⟨_, rfl, _⟩ := h; rfl
theorem len__law_draw (h : sd__law_draw K A ds M Q E) : ds.length = 2 := by obtain ⟨_, _, _, _, rfl, _⟩ := h; rfl
theorem len_Plan___eq__ (h : sd_Plan___eq__ K A ds M Q E) : ds.length = 2 := by obtain ⟨_, _, rfl, _⟩ := h; rfl
theorem len_Plan_walks (h : sd_Plan_walks K A ds M Q E) : ds.length = 1 := by obtain ⟨_, rfl, _⟩ := h; rfl
theorem len__law_names (h : sd__law_names K A ds M Q E) : ds.length = 2 := by obtain ⟨_, _, _, _, rfl, _⟩ := h; rfl
theorem len_Plan___add__ (h : sd_Plan___add__ K A ds M Q E) : ds.length = 2 := by obtain ⟨_, _, rfl, _⟩ := h; rfl
theorem len_Plan___len__ (h : sd_Plan___len__ K A ds M Q E) : ds.length = 1 := by obtain ⟨_, rfl, _⟩ := h; rfl
theorem len_Plan___contains__ (h : sd_Plan___contains__ K A ds M Q E) : ds.length = 2 := by obtain ⟨_, _, rfl, _⟩ := h; rfl
theorem len_Plan___str__ (h : sd_Plan___str__ K A ds M Q E) : ds.length = 1 := by obtain ⟨_, rfl, _⟩ := h; rfl
theorem len_Plan___or__ (h : sd_Plan___or__ K A ds M Q E) : ds.length = 2 := by obtain ⟨_, _, rfl, _⟩ := h; rfl
theorem len_Plan___mul__ (h : sd_Plan___mul__ K A ds M Q E) : ds.length = 2 := by obtain ⟨_, _, rfl, _⟩ := h; rfl
theorem len_Plan___rmul__ (h : sd_Plan___rmul__ K A ds M Q E) : ds.length = 2 := by obtain ⟨_, _, rfl, _⟩ := h; rfl
theorem len__law_apart (h : sd__law_apart K A ds M Q E) : ds.length = 1 := by obtain ⟨_, rfl, _⟩ := h; rfl
theorem len__law_together (h : sd__law_together K A ds M Q E) : ds.length = 1 := by obtain ⟨_, rfl, _⟩ := h; rfl
theorem len__law_groups (h : sd__law_groups K A ds M Q E) : ds.length = 2 := by obtain ⟨_, _, _, _, rfl, _⟩ := h; rfl
theorem len__law_plan (h : sd__law_plan K A ds M Q E) : ds.length = 1 := by obtain ⟨_, _, rfl, _⟩ := h; rfl
theorem len__law_is (h : sd__law_is K A ds M Q E) : ds.length = 3 := by obtain ⟨_, _, rfl, _⟩ := h; rfl
theorem len_law (h : sd_law K A ds M Q E) : ds.length = 1 := by obtain ⟨_, rfl, _⟩ := h; rfl
end
theorem plan_ok (T : Txt K mg A) : PlanOk K A.c_Plan := ⟨T.fo_Plan__groups⟩
theorem pure__law_source (T : Txt K mg A) (h : sd__law_source K A ds M Qd Ed) : Pure (d__law_source K A) N__law_source ds M Qd Ed := pureSource h
theorem pure__law_draw (T : Txt K mg A) (h : sd__law_draw K A ds M Qd Ed) : Pure (d__law_draw K A) N__law_draw ds M Qd Ed := pureDraw h
theorem pure_Plan___init__ (T : Txt K mg A) (h : sdx_Plan___init__ K A ds M Qd Ed) : Pure (d_Plan___init__ K A) N_Plan___init__ ds M Qd Ed := purePlanG (plan_ok T) h
theorem pure_Plan___eq__ (T : Txt K mg A) (h : sd_Plan___eq__ K A ds M Qd Ed) : Pure (d_Plan___eq__ K A) N_Plan___eq__ ds M Qd Ed := purePlEq (plan_ok T) T.ic_Plan h
theorem pure_Plan_walks (T : Txt K mg A) (h : sd_Plan_walks K A ds M Qd Ed) : Pure (d_Plan_walks K A) N_Plan_walks ds M Qd Ed := purePlWalks (plan_ok T) h
theorem pure__law_names (T : Txt K mg A) (h : sd__law_names K A ds M Qd Ed) : Pure (d__law_names K A) N__law_names ds M Qd Ed := pureNames h
theorem pure_Plan___add__ (T : Txt K mg A) (h : sd_Plan___add__ K A ds M Qd Ed) : Pure (d_Plan___add__ K A) N_Plan___add__ ds M Qd Ed := purePlAddG (plan_ok T) T.ic_Plan h

end
section
variable {P : Program} {K : PySem.W.Frag} {mg : Str → Option Value} {base : Heap} {A : Ad}
variable {ds : List D} {M : Mem} {Qd : D → Mem → Prop} {Ed : XD}
theorem pure_Plan___len__ (T : Txt K mg A) (h : sd_Plan___len__ K A ds M Qd Ed) : Pure (d_Plan___len__ K A) N_Plan___len__ ds M Qd Ed := by
  obtain ⟨gs, rfl, kQ⟩ := h
  unfold Pure d_Plan___len__
  walk_at "dl"
  refine ⟨_, _, _, .obj _ _, (plan_ok T).f, .head, ?_⟩
  walk_at "dl"
  refine isS_len (.tup _) ?_
  rw [List.length_map]
  exact kQ
theorem any_map (x : Str) : ∀ gs : List (List Str), (gs.map fun g => decide (x ∈ g)).any id = decide (x ∈ gs.flatten)
  | [] => rfl
  | g :: gs => by
    rw [List.map_cons, List.any_cons, any_map x gs]
    simp
theorem pure_Plan___contains__ (T : Txt K mg A) (h : sd_Plan___contains__ K A ds M Qd Ed) : Pure (d_Plan___contains__ K A) N_Plan___contains__ ds M Qd Ed := by
  obtain ⟨gs, x, rfl, hl, kQ⟩ := h
  unfold Pure d_Plan___contains__
  walk_at "dl"
  refine ⟨_, _, _, .obj _ _, (plan_ok T).f, .head, ?_⟩
  refine ⟨_, _, .tup _, lt_line (by rw [List.length_map]; omega), lc_map tpl (fun g => D.bl (decide (x ∈ g))) trivial (fun g _ P1 h1 => ?_) (.inl ?_)⟩
  · walk_at "dl"
    refine in_strs (.tup _) ?_
    simpa using h1
  walk_at "dl"
  rw [show gs.map (fun g => D.bl (decide (x ∈ g))) = (gs.map fun g => decide (x ∈ g)).map .bl by rw [List.map_map]; rfl]
  refine .lst (.lst _) ?_
  rw [any_map]
  exact kQ
theorem sum_le {f : Str → Nat} {n : Nat} : ∀ {xs : List Str}, (∀ x ∈ xs, f x ≤ n) → (xs.map f).sum ≤ xs.length * n
  | [], _ => Nat.zero_le _
  | x :: xs, h => by
    have := sum_le (f := f) (n := n) fun z hz => h z (List.mem_cons_of_mem x hz)
    have := h x List.mem_cons_self
    rw [List.map_cons, List.sum_cons, List.length_cons, Nat.add_mul]
    omega
theorem jn1_sum {g : List Str} (hg : g.length ≤ 100) (hx : ∀ x ∈ g, NameOk x) : (g.map (·.length)).sum + g.length * ("|" : Str).length ≤ 1000 := by
  have a := sum_le (f := (·.length)) (n := 9) fun x h => (hx x h).l2
  have b : ("|" : Str).length = 1 := rfl
  rw [b]
  have : (g.map (·.length)).sum ≤ g.length * 9 := a
  omega
theorem jn1_len {g : List Str} (hg : g.length ≤ 100) (hx : ∀ x ∈ g, NameOk x) : (jn1 g).length ≤ 1000 := by
  have a := jn1_sum hg hx
  unfold jn1
  rw [TL.join_eq]
  exact Nat.le_trans (StrLaws.join_length_le _ _) a
theorem planS_sum {gs : List (List Str)} (h : SmG 1000 gs) : ((gs.map jn1).map (·.length)).sum + (gs.map jn1).length * (" + " : Str).length ≤ 16777216 := by
  have a := sum_le (f := (·.length)) (n := 1000) (xs := gs.map jn1) fun x hx => by
    obtain ⟨g, hg, rfl⟩ := List.mem_map.mp hx
    exact jn1_len (h.g g hg) (h.x g hg)
  have b : (" + " : Str).length = 3 := rfl
  have c := h.l
  rw [b]
  rw [List.length_map] at a ⊢
  have : ((gs.map jn1).map (·.length)).sum ≤ gs.length * 1000 := a
  omega
theorem join_m {M : Mem} {Q : D → Mem → Prop} {a : Str} {e : D} {ys : List Str} (h : IsS M e (ys.map .str)) (hl : (ys.map (·.length)).sum + ys.length * a.length ≤ 16777216) (q : Q (.str (PySem.Txt.join a ys)) M) : rJoin (.str a) [e] M Q := .mk h hl q
theorem pure_Plan___str__ (T : Txt K mg A) (h : sd_Plan___str__ K A ds M Qd Ed) : Pure (d_Plan___str__ K A) N_Plan___str__ ds M Qd Ed := by
  obtain ⟨gs, rfl, hs, kQ⟩ := h
  unfold Pure d_Plan___str__
  walk_at "dl"
  have hl := hs.l
  refine ⟨.str, ?_⟩
  walk_at "dl"
  refine ⟨_, _, _, .obj _ _, (plan_ok T).f, .head, ?_⟩
  refine ⟨_, _, .tup _, lt_line (by rw [List.length_map]; omega), lc_map tpl (fun g => D.str (jn1 g)) trivial (fun g hg P1 h1 => ?_) (.inl ?_)⟩
  · walk_at "dl"
    refine ⟨.str, ?_⟩
    walk_at "dl"
    exact join_m (.tup _) (Nat.le_trans (jn1_sum (hs.g g hg) (hs.x g hg)) (by omega)) h1
  walk_at "dl"
  rw [show gs.map (fun g => D.str (jn1 g)) = (gs.map jn1).map .str by rw [List.map_map]; rfl]
  exact join_m (.lst _) (planS_sum hs) kQ
theorem pure_Plan___or__ (T : Txt K mg A) (h : sd_Plan___or__ K A ds M Qd Ed) : Pure (d_Plan___or__ K A) N_Plan___or__ ds M Qd Ed := by
  obtain ⟨gs, hs, rfl, hg, hh, nd, kQ⟩ := h
  unfold Pure d_Plan___or__
  walk_at "dl"
  refine .mk (.own _) (.obj (.obj _ _) T.ic_Plan) T.ic_Plan.me ?_
  walk_at "dl"
  refine g_iff' rfl ?_
  walk_at "dl"
  refine ⟨_, .obj _ _, gs, rfl, by omega, ?_⟩
  walk_at "dl"
  refine ⟨_, .obj _ _, hs, rfl, by omega, ?_⟩
  walk_at "dl"
  refine .tup (Nat.le_of_lt (lt_line (by rw [List.length_map, List.length_map]; omega))) ?_
  walk_at "dl"
  rw [← List.map_append]
  refine fun q hq => star_planT (gs := [gs.flatten ++ hs.flatten]) hq nd (by simp) (fun g hg => by rw [List.mem_singleton.mp hg, List.length_append]; omega) fun M' nd' f' => ?_
  walk_at "dl"
  exact kQ M' nd' f'
theorem pure_Plan___mul__ (T : Txt K mg A) (h : sd_Plan___mul__ K A ds M Qd Ed) : Pure (d_Plan___mul__ K A) N_Plan___mul__ ds M Qd Ed := by
  obtain ⟨gs, n, rfl, hn, hl, hg, nd, kQ⟩ := h
  unfold Pure d_Plan___mul__
  walk_at "dl"
  refine ⟨_, _, _, .obj _ _, (plan_ok T).f, .head, ?_⟩
  walk_at "dl"
  have hm : (List.replicate n gs).flatten.length ≤ 10000 := by
    rw [PyProof.Rows.lm_len_rep_flat]
    exact Nat.le_trans (Nat.mul_le_mul hn hl) (by decide)
  refine .mk (by omega) (by omega) (by rw [List.length_map]; omega) ?_
  rw [show (List.replicate ((n : Nat) : Int).toNat (gs.map tpl)).flatten = (List.replicate n gs).flatten.map tpl by rw [Int.toNat_natCast, List.map_flatten, List.map_replicate]]
  walk_at "dl"
  refine ⟨_, .tup _, ?_⟩
  walk_at "dl"
  rw [List.append_nil]
  have mem : ∀ g ∈ (List.replicate n gs).flatten, g ∈ gs := fun g hg => by
    obtain ⟨l, hl, hg⟩ := List.mem_flatten.mp hg
    rw [(List.mem_replicate.mp hl).2] at hg
    exact hg
  refine fun q hq => star_planT hq nd hm (fun g h => (hg g (mem g h)).2) fun M' nd' f' => ?_
  rw [full_all fun g h => (hg g (mem g h)).1]
  walk_at "dl"
  exact kQ M' nd' f'
theorem pure_Plan___rmul__ (T : Txt K mg A) (h : sd_Plan___rmul__ K A ds M Qd Ed) : Pure (d_Plan___rmul__ K A) N_Plan___rmul__ ds M Qd Ed := by
  obtain ⟨gs, n, rfl, hn, hl, hg, nd, kQ⟩ := h
  unfold Pure d_Plan___rmul__
  walk_at "dl"
  refine ⟨_, _, .obj _ _, rfl, gs, n, rfl, hn, hl, hg, nd, fun M' nd' f' => ?_⟩
  walk_at "dl"
  exact kQ M' nd' f'
theorem pure_Plan_apart (T : Txt K mg A) (h : sdx_Plan_apart K A ds M Qd Ed) : Pure (d_Plan_apart K A) N_Plan_apart ds M Qd Ed := by
  obtain ⟨names, ⟨rfl, rfl⟩ | ⟨x, xs, rfl, rfl⟩, hl, nd, kQ⟩ := h
  · unfold Pure d_Plan_apart
    walk_at "dl"
    refine g_ift rfl ?_
    walk_at "dl"
    refine fun q hq => star_planT (gs := []) hq nd (by simp) (fun g hg => nomatch hg) fun M' nd' f' => ?_
    walk_at "dl"
    exact kQ M' nd' f'
  · unfold Pure d_Plan_apart
    walk_at "dl"
    refine g_iff' rfl ?_
    walk_at "dl"
    refine ⟨_, .tup _, ?_⟩
    walk_at "dl"
    rw [List.append_nil, show D.str x :: xs.map D.str = (x :: xs).map D.str from rfl]
    refine ⟨Nat.le_of_lt (lt_line (by rw [List.length_map]; omega)), ?_⟩
    refine ⟨_, _, .tup _, lt_line (by rw [List.length_map]; omega), lc_map D.str (fun x => tpl [x]) trivial (fun g hg P1 h1 => ?_) (.inl ?_)⟩
    · walk_at "dl"
      exact ⟨len_le_line (n := 1), h1⟩
    walk_at "dl"
    refine ⟨_, .lst _, ?_⟩
    walk_at "dl"
    rw [List.append_nil, show (x :: xs).map (fun x => tpl [x]) = ((x :: xs).map fun x => [x]).map tpl by rw [List.map_map]; rfl]
    refine fun q hq => star_planT hq nd (by rw [List.length_map]; omega) (fun g hg => by obtain ⟨z, _, rfl⟩ := List.mem_map.mp hg; show 1 ≤ 10000; omega) fun M' nd' f' => ?_
    rw [full_all fun g hg => by obtain ⟨z, _, rfl⟩ := List.mem_map.mp hg; show 0 < 1; omega]
    walk_at "dl"
    exact kQ M' nd' f'
theorem pure_Plan_together (T : Txt K mg A) (h : sdx_Plan_together K A ds M Qd Ed) : Pure (d_Plan_together K A) N_Plan_together ds M Qd Ed := by
  obtain ⟨names, ⟨rfl, rfl⟩ | ⟨x, xs, rfl, rfl⟩, hl, nd, kQ⟩ := h
  · unfold Pure d_Plan_together
    walk_at "dl"
    refine g_ift rfl ?_
    walk_at "dl"
    refine fun q hq => star_planT (gs := []) hq nd (by simp) (fun g hg => nomatch hg) fun M' nd' f' => ?_
    walk_at "dl"
    exact kQ M' nd' f'
  · unfold Pure d_Plan_together
    walk_at "dl"
    refine g_iff' rfl ?_
    walk_at "dl"
    refine ⟨_, .tup _, ?_⟩
    walk_at "dl"
    rw [List.append_nil, show D.str x :: xs.map D.str = (x :: xs).map D.str from rfl]
    refine ⟨Nat.le_of_lt (lt_line (by rw [List.length_map]; omega)), ?_⟩
    walk_at "dl"
    refine fun q hq => star_planT (gs := [x :: xs]) hq nd (by simp) (fun g hg => by rw [List.mem_singleton.mp hg]; omega) fun M' nd' f' => ?_
    walk_at "dl"
    exact kQ M' nd' f'

end
section
variable {P : Program} {K : PySem.W.Frag} {mg : Str → Option Value} {base : Heap} {A : Ad}
variable {ds : List D} {M : Mem} {Qd : D → Mem → Prop} {Ed : XD}
theorem pure__law_groups (T : Txt K mg A) (h : sd__law_groups K A ds M Qd Ed) : Pure (d__law_groups K A) N__law_groups ds M Qd Ed := by
  obtain ⟨p, c, b, ns, rfl, hn0, hn, nd, hb, S, kQ⟩ := h
  unfold Pure d__law_groups
  walk_at "dl"
  refine ⟨Nat.zero_le _, .inr fun v hv => ?_⟩
  obtain ⟨hpv, hcv⟩ := src_ne S hv
  walk_at "dl"
  refine draw_nat (n := 7) rfl (by decide) (by decide) (nd_new hv nd) (by omega) (src_more S Fr.refl.cons) fun m M1 hm nd1 S1 f1 => ?_
  have hv1 : (v, MO.lst []) ∈ M1 := f1 _ _ (by simp [Ne.symm hpv, Ne.symm hcv]) List.mem_cons_self
  let P : Nat → Rho → Mem → Prop := fun i ρ M' => ∃ gs : List (List Str), (∃ x3, ρ = [some (.ptr p), some (.lst (ns.map .str)), some (.ptr v), x3, none]) ∧ (v, MO.lst (gs.map grL)) ∈ M' ∧ gs.length = i ∧ (∀ g ∈ gs, g.length ≤ 4 ∧ ∀ x ∈ g, x ∈ ns) ∧ Nd M' ∧ Src p c (b + 1 + 5 * i) M' ∧ Fr [p, c] M M'
  walk_at "dl"
  refine ⟨by omega, by omega, goF_inv P (fun _ _ _ _ => trivial) (fun i d ρ M5 hd hP go hgo => ?_) (fun ρ M5 hP => ?_) ⟨[], ⟨_, rfl⟩, hv1, rfl, (fun _ h => nomatch h), nd1, S1, fun a z ha hz => f1 _ _ ha (List.mem_cons_of_mem _ hz)⟩⟩
  · obtain ⟨gs, ⟨x3, rfl⟩, hv5, hl, hg, nd5, S5, f5⟩ := hP
    obtain ⟨hi, rfl⟩ := rng_at hd
    walk_at "dl"
    refine ⟨.lst (.ptr hv5), ?_⟩
    walk_at "dl"
    refine draw_nat (n := 5) rfl (by decide) (by decide) nd5 (by omega) S5 fun k M6 hk nd6 S6 f6 => ?_
    have hv6 : (v, MO.lst (gs.map grL)) ∈ M6 := f6 _ _ (by simp [Ne.symm hpv, Ne.symm hcv]) hv5
    walk_at "dl"
    refine ⟨by omega, by omega, ?_⟩
    unfold rng
    refine ⟨lt_line (by rw [List.length_map, List.length_range]; omega), lc_chg (fun i : Nat => D.int (0 + (i : Int))) (fun acc M7 => ∃ g : List Str, acc = g.map .str ∧ (∀ x ∈ g, x ∈ ns) ∧ Nd M7 ∧ Src p c (b + 1 + 5 * i + 1 + acc.length) M7 ∧ Fr [p, c] M M7 ∧ (v, MO.lst (gs.map grL)) ∈ M7) (fun _ _ _ => trivial) (done := []) rfl (fun j x acc M7 hx hal I P1 hP1 => ?_) (fun acc M7 hal I => .inl ?_) ⟨[], rfl, by simp, nd6, S6, f5.trans f6, hv6⟩⟩
    · obtain ⟨g, rfl, hr, nd7, S7, f7, hv7⟩ := I
      have hj : j < k := by
        have := (List.getElem?_eq_some_iff.mp hx).1
        simpa using this
      walk_at "dl"
      refine isS_len (.lst _) ?_
      rw [List.length_map]
      walk_at "dl"
      have hal' : (g.map D.str).length = j := hal
      rw [hal'] at S7
      refine draw_nat (n := ns.length) rfl hn0 (by omega) nd7 (by omega) S7 fun r M8 hr8 nd8 S8 f8 => ?_
      refine ix_map .str hr8 ?_
      refine hP1 _ _ ⟨g ++ [ns[r]], by rw [List.map_append]; rfl, fun z hz => ?_, nd8, S8.more (by rw [List.length_append, hal']; simp; omega), f7.trans f8, f8 _ _ (by simp [Ne.symm hpv, Ne.symm hcv]) hv7⟩
      rcases List.mem_append.mp hz with e | e
      · exact hr z e
      · rw [List.mem_singleton.mp e]; exact List.getElem_mem hr8
    obtain ⟨g, rfl, hr, nd7, S7, f7, hv7⟩ := I
    have hgl : g.length ≤ 4 := by
      rw [List.nil_append, List.length_range, List.length_map] at hal
      omega
    rw [List.length_map] at S7
    walk_at "dl"
    obtain ⟨M8, U⟩ := upd_ex (n := .lst (gs.map grL ++ [grL g])) nd7 hv7
    refine .ptr U.up (lt_line (by rw [List.length_map]; omega)) ?_
    refine hgo _ _ ⟨gs ++ [g], ⟨_, rfl⟩, by rw [List.map_append]; exact U.at_, by rw [List.length_append]; simp [hl], fun z hz => ?_, U.nd, (S7.fr U.fr (not_mem1 hpv) (not_mem1 hcv)).more (by omega), fun a z ha hz => U.fr _ _ (not_mem1 (ne_free hv hz)) (f7 _ _ ha hz)⟩
    rcases List.mem_append.mp hz with e | e
    · exact hg z e
    · rw [List.mem_singleton.mp e]; exact ⟨hgl, hr⟩
  · obtain ⟨gs, ⟨x3, rfl⟩, hv5, hl, hg, nd5, S5, f5⟩ := hP
    rw [rng_len] at hl S5
    obtain ⟨M6, U⟩ := del_ex nd5 hv5
    walk_at "dl"
    refine ⟨_, M6, .one U.up rfl, ?_⟩
    refine kQ gs M6 (by omega) hg U.nd ((S5.fr U.fr (not_mem1 hpv) (not_mem1 hcv)).more (by omega)) fun a z ha hz => U.fr _ _ (not_mem1 (ne_free hv hz)) (f5 _ _ ha hz)
/-- what is handed to apart and together -/
theorem starN_names {sd : SpD} {names : List Str} {es : List D} {M : Mem} {Q : D → Mem → Prop} {E : XD} (he : es = names.map .str) (hl : names.length ≤ 100) (h : ∀ ds, NmA names ds → sd ds M Q E) : SpD.starN sd es M Q E := by
  subst he
  cases names with
  | nil => exact ⟨.non, [], .inl ⟨rfl, rfl, rfl⟩, Nat.zero_le _, h _ (.inl ⟨rfl, rfl⟩)⟩
  | cons x xs => exact ⟨.str x, xs.map .str, .inr rfl, Nat.le_of_lt (lt_line (by rw [List.length_map]; simp at hl; omega)), h _ (.inr ⟨x, xs, rfl, rfl⟩)⟩
theorem pure__law_apart (T : Txt K mg A) (h : sd__law_apart K A ds M Qd Ed) : Pure (d__law_apart K A) N__law_apart ds M Qd Ed := by
  obtain ⟨names, rfl, hl, nd, kQ⟩ := h
  have fin : ∀ {es : List D} {ret : D → Mem → Prop} {E : XD}, es = names.map .str → (∀ d M', Qd d M' → ret d M') → sd_Plan_apart K A es M (fun d M2 => ∃ d' M'', FzK K d M2 d' M'' ∧ ret d' M'') E := fun {es ret E} e hr =>
    starN_names e (by omega) fun ds hn => ⟨names, hn, by omega, nd, fun M' nd' f' => ⟨_, _, .refl, hr _ _ (kQ M' nd' f')⟩⟩
  unfold Pure d__law_apart
  walk_at "dl"
  refine isS_len (.lst _) ?_
  rw [List.length_map]
  match names, hl with
  | [], _ =>
    walk_at "dl"
    refine g_ift rfl ?_
    walk_at "dl"
    exact fin rfl fun _ _ h => h
  | [x], _ =>
    walk_at "dl"
    refine g_iff' rfl ?_
    walk_at "dl"
    refine isS_len (.lst _) ?_
    walk_at "dl"
    refine g_ift rfl ?_
    walk_at "dl"
    refine ixq_lst atI0 ?_
    walk_at "dl"
    exact fin rfl fun _ _ h => h
  | [x, y], _ =>
    walk_at "dl"
    refine g_iff' rfl ?_
    walk_at "dl"
    refine isS_len (.lst _) ?_
    walk_at "dl"
    refine g_iff' rfl ?_
    walk_at "dl"
    refine isS_len (.lst _) ?_
    walk_at "dl"
    refine g_ift rfl ?_
    walk_at "dl"
    refine ixq_lst atI0 ?_
    walk_at "dl"
    refine ixq_lst atI1 ?_
    walk_at "dl"
    exact fin rfl fun _ _ h => h
  | [x, y, z], _ =>
    walk_at "dl"
    refine g_iff' rfl ?_
    walk_at "dl"
    refine isS_len (.lst _) ?_
    walk_at "dl"
    refine g_iff' rfl ?_
    walk_at "dl"
    refine isS_len (.lst _) ?_
    walk_at "dl"
    refine g_iff' rfl ?_
    walk_at "dl"
    refine ixq_lst atI0 ?_
    walk_at "dl"
    refine ixq_lst atI1 ?_
    walk_at "dl"
    refine ixq_lst atI2 ?_
    walk_at "dl"
    exact fin rfl fun _ _ h => h
theorem pure__law_together (T : Txt K mg A) (h : sd__law_together K A ds M Qd Ed) : Pure (d__law_together K A) N__law_together ds M Qd Ed := by
  obtain ⟨names, rfl, hl, nd, kQ⟩ := h
  have fin : ∀ {es : List D} {ret : D → Mem → Prop} {E : XD}, es = names.map .str → (∀ d M', Qd d M' → ret d M') → sd_Plan_together K A es M (fun d M2 => ∃ d' M'', FzK K d M2 d' M'' ∧ ret d' M'') E := fun {es ret E} e hr =>
    starN_names e (by omega) fun ds hn => ⟨names, hn, by omega, nd, fun M' nd' f' => ⟨_, _, .refl, hr _ _ (kQ M' nd' f')⟩⟩
  unfold Pure d__law_together
  walk_at "dl"
  refine isS_len (.lst _) ?_
  rw [List.length_map]
  match names, hl with
  | [], _ =>
    walk_at "dl"
    refine g_ift rfl ?_
    walk_at "dl"
    exact fin rfl fun _ _ h => h
  | [x], _ =>
    walk_at "dl"
    refine g_iff' rfl ?_
    walk_at "dl"
    refine isS_len (.lst _) ?_
    walk_at "dl"
    refine g_ift rfl ?_
    walk_at "dl"
    refine ixq_lst atI0 ?_
    walk_at "dl"
    exact fin rfl fun _ _ h => h
  | [x, y], _ =>
    walk_at "dl"
    refine g_iff' rfl ?_
    walk_at "dl"
    refine isS_len (.lst _) ?_
    walk_at "dl"
    refine g_iff' rfl ?_
    walk_at "dl"
    refine isS_len (.lst _) ?_
    walk_at "dl"
    refine g_ift rfl ?_
    walk_at "dl"
    refine ixq_lst atI0 ?_
    walk_at "dl"
    refine ixq_lst atI1 ?_
    walk_at "dl"
    exact fin rfl fun _ _ h => h
  | [x, y, z], _ =>
    walk_at "dl"
    refine g_iff' rfl ?_
    walk_at "dl"
    refine isS_len (.lst _) ?_
    walk_at "dl"
    refine g_iff' rfl ?_
    walk_at "dl"
    refine isS_len (.lst _) ?_
    walk_at "dl"
    refine g_iff' rfl ?_
    walk_at "dl"
    refine ixq_lst atI0 ?_
    walk_at "dl"
    refine ixq_lst atI1 ?_
    walk_at "dl"
    refine ixq_lst atI2 ?_
    walk_at "dl"
    exact fin rfl fun _ _ h => h

end
section
variable {P : Program} {K : PySem.W.Frag} {mg : Str → Option Value} {base : Heap} {A : Ad}
variable {ds : List D} {M : Mem} {Qd : D → Mem → Prop} {Ed : XD}
theorem isM_s {M : Mem} {d : D} {es : List D} (h : IsM M d es) : IsS M d es := by
  cases h with
  | lst => exact .lst _
  | ptr h => exact .ptr h
theorem isM_l {M : Mem} {d : D} {es : List D} (h : IsM M d es) : ∃ st, IsL M d es st := by
  cases h with
  | lst => exact ⟨_, .lst _⟩
  | ptr h => exact ⟨_, .ptr h⟩
theorem isM_fr0 {M M' : Mem} {d : D} {es : List D} (h : IsM M d es) (f : Fr [] M M') : IsM M' d es := by
  cases h with
  | lst => exact .lst _
  | ptr h => exact .ptr (f _ _ (by simp) h)
theorem filt_sub {gs : List (List Str)} {P : List Str → Prop} (h : ∀ g ∈ gs, P g) : ∀ g ∈ gs.filter full, 0 < g.length ∧ P g := fun g hg => ⟨of_decide_eq_true (List.mem_filter.mp hg).2, h g (List.mem_filter.mp hg).1⟩
theorem map2_len {bs : List Gb} {n : Nat} (h : ∀ b ∈ bs, b.2.length ≤ n) : ∀ g ∈ bs.map (·.2), g.length ≤ n := fun g hg => by
  obtain ⟨b, hb, rfl⟩ := List.mem_map.mp hg
  exact h b hb
theorem pure__law_plan (T : Txt K mg A) (h : sd__law_plan K A ds M Qd Ed) : Pure (d__law_plan K A) N__law_plan ds M Qd Ed := by
  obtain ⟨d, bs, rfl, hM, hg, hl, hz, nd, kQ⟩ := h
  unfold Pure d__law_plan
  walk_at "dl"
  refine isS_len (isM_s hM) ?_
  rw [List.length_map]
  match bs, hM, hg, hl, hz, kQ with
  | [], hM, hg, hl, hz, kQ =>
    walk_at "dl"
    refine g_ift rfl ?_
    walk_at "dl"
    refine fun q hq => star_planG (bs := []) hq nd hg (by simp) (fun b hb => nomatch hb) fun M' nd' f' => ?_
    walk_at "dl"
    exact kQ M' nd' f'
  | [b0], hM, hg, hl, hz, kQ =>
    walk_at "dl"
    refine g_iff' rfl ?_
    walk_at "dl"
    refine isS_len (isM_s hM) ?_
    walk_at "dl"
    refine g_ift rfl ?_
    walk_at "dl"
    refine .seq (isM_s hM) atI0 ?_
    walk_at "dl"
    refine fun q hq => star_planG (bs := [b0]) hq nd hg (by simp) (fun b hb => by have := hz b hb; omega) fun M' nd' f' => ?_
    walk_at "dl"
    exact kQ M' nd' f'
  | [b0, b1], hM, hg, hl, hz, kQ =>
    walk_at "dl"
    refine g_iff' rfl ?_
    walk_at "dl"
    refine isS_len (isM_s hM) ?_
    walk_at "dl"
    refine g_iff' rfl ?_
    walk_at "dl"
    refine isS_len (isM_s hM) ?_
    walk_at "dl"
    refine g_ift rfl ?_
    walk_at "dl"
    refine .seq (isM_s hM) atI0 ?_
    walk_at "dl"
    refine .seq (isM_s hM) atI1 ?_
    walk_at "dl"
    refine tup_of (hg b1 (by simp)) ?_
    walk_at "dl"
    refine fun q hq => star_planG (bs := [b0, (tpl b1.2, b1.2)]) hq nd (fun b hb => ?_) (by simp) (fun b hb => ?_) fun M' nd' f' => ?_
    · simp at hb
      rcases hb with rfl | rfl
      · exact hg b (by simp)
      · exact .tup _
    · simp at hb
      rcases hb with rfl | rfl
      · have := hz b (by simp); omega
      · have := hz b1 (by simp); show b1.2.length ≤ 10000; omega
    walk_at "dl"
    exact kQ M' nd' f'
  | [b0, b1, b2], hM, hg, hl, hz, kQ =>
    walk_at "dl"
    refine g_iff' rfl ?_
    walk_at "dl"
    refine isS_len (isM_s hM) ?_
    walk_at "dl"
    refine g_iff' rfl ?_
    walk_at "dl"
    refine isS_len (isM_s hM) ?_
    walk_at "dl"
    refine g_iff' rfl ?_
    walk_at "dl"
    refine isS_len (isM_s hM) ?_
    walk_at "dl"
    refine g_ift rfl ?_
    walk_at "dl"
    refine .seq (isM_s hM) atI0 ?_
    walk_at "dl"
    refine .seq (isM_s hM) atI1 ?_
    walk_at "dl"
    refine .seq (isM_s hM) atI2 ?_
    walk_at "dl"
    refine fun q hq => star_planG (bs := [b0, b1, b2]) hq nd hg (by simp) (fun b hb => by have := hz b hb; omega) fun M' nd' f' => ?_
    walk_at "dl"
    exact kQ M' nd' f'
  | b0 :: b1 :: b2 :: b3 :: r, hM, hg, hl, hz, kQ =>
    have big : ∀ k : Nat, k < 4 → ((b0 :: b1 :: b2 :: b3 :: r).length : Int) = k → False := fun k hk e => by
      simp at e
      omega
    walk_at "dl"
    refine g_iff' (decide_eq_false fun e => big 0 (by decide) e) ?_
    walk_at "dl"
    refine isS_len (isM_s hM) ?_
    rw [List.length_map]
    walk_at "dl"
    refine g_iff' (decide_eq_false fun e => big 1 (by decide) e) ?_
    walk_at "dl"
    refine isS_len (isM_s hM) ?_
    rw [List.length_map]
    walk_at "dl"
    refine g_iff' (decide_eq_false fun e => big 2 (by decide) e) ?_
    walk_at "dl"
    refine isS_len (isM_s hM) ?_
    rw [List.length_map]
    walk_at "dl"
    refine g_iff' (decide_eq_false fun e => big 3 (by decide) e) ?_
    walk_at "dl"
    refine .seq (isM_s hM) atI3 ?_
    walk_at "dl"
    refine fun q hq => star_planG (bs := [b3]) hq nd (fun b hb => hg b (by simp at hb; simp [hb])) (by simp) (fun b hb => by have := hz b (by simp at hb; simp [hb]); omega) fun M1 nd1 f1 => ?_
    walk_at "dl"
    have hM1 := isM_fr0 hM f1
    obtain ⟨st1, hL1⟩ := isM_l hM1
    refine .lst hL1 (.inl ?_)
    rw [show DL.cutD ((b0 :: b1 :: b2 :: b3 :: r).map (·.1)) (some (4 : Int)) none = r.map (·.1) from cut_low (·.1) (b0 :: b1 :: b2 :: b3 :: r) 4]
    refine ⟨_, _, .lst (.lst _), ?_⟩
    let P : Nat → Rho → Mem → Prop := fun i ρ M' => (∃ x2, ρ = [some d, some (planD A.c_Plan (((b3 :: r.take i).map (·.2)).filter full)), x2]) ∧ Nd M' ∧ Fr [] M M'
    refine goF_inv P (fun _ _ _ _ => trivial) (fun i d' ρ M5 hd hP go hgo => ?_) (fun ρ M5 hP => ?_) ⟨⟨_, rfl⟩, nd1, f1⟩
    · obtain ⟨⟨x2, rfl⟩, nd5, f5⟩ := hP
      rw [List.getElem?_map] at hd
      cases ei : r[i]? with
      | none => rw [ei] at hd; cases hd
      | some b =>
      rw [ei] at hd
      cases hd
      have hb : b ∈ b0 :: b1 :: b2 :: b3 :: r := by have := List.mem_of_getElem? ei; simp [this]
      have et : r.take (i + 1) = r.take i ++ [b] := by rw [List.take_add_one, ei]; rfl
      walk_at "dl"
      refine fun q hq => star_planG (bs := [b]) hq nd5 (fun b' hb' => by rw [List.mem_singleton.mp hb']; exact (hg b hb).fr0 f5) (by simp) (fun b' hb' => by rw [List.mem_singleton.mp hb']; have := hz b hb; omega) fun M6 nd6 f6 => ?_
      walk_at "dl"
      have hi := (List.getElem?_eq_some_iff.mp ei).1
      have e2 : ((b3 :: r.take i).map (·.2)).filter full ++ ([b].map (·.2)).filter full = ((b3 :: r.take (i + 1)).map (·.2)).filter full := by
        rw [et, ← List.filter_append, ← List.map_append]
        rfl
      have sub : ∀ b' ∈ b3 :: r.take (i + 1), b' ∈ b0 :: b1 :: b2 :: b3 :: r := fun b' h => by
        rcases List.mem_cons.mp h with h | h
        · simp [h]
        · have := List.mem_of_mem_take h; simp [this]
      have hr : r.length ≤ 2 := by simp at hl; omega
      refine .inr ⟨_, _, .obj _ _, .obj _ _, _, _, rfl, ?_, ?_, fun z hz' => ?_, nd6, fun M7 nd7 f7 => ?_⟩
      · refine Nat.le_trans (List.length_filter_le _ _) ?_
        rw [List.length_map, List.length_cons, List.length_take]
        omega
      · refine Nat.le_trans (List.length_filter_le _ _) ?_
        show 1 ≤ 5000
        omega
      · rw [e2] at hz'
        have := filt_sub (map2_len fun b' h => hz b' (sub b' h)) z hz'
        omega
      rw [e2]
      exact hgo _ _ ⟨⟨_, rfl⟩, nd7, f5.trans (f6.trans f7)⟩
    · obtain ⟨⟨x2, rfl⟩, nd5, f5⟩ := hP
      rw [List.length_map, List.take_length]
      have hM5 := isM_fr0 hM f5
      walk_at "dl"
      refine .seq (isM_s hM5) atI0 ?_
      walk_at "dl"
      refine tup_of ((hg b0 (by simp)).fr0 f5) ?_
      walk_at "dl"
      refine .seq (isM_s hM5) atI1 ?_
      walk_at "dl"
      refine .seq (isM_s hM5) atI2 ?_
      walk_at "dl"
      refine fun q hq => star_planG (bs := [(tpl b0.2, b0.2), b1, b2]) hq nd5 (fun b hb => ?_) (by simp) (fun b hb => ?_) fun M6 nd6 f6 => ?_
      · simp at hb
        rcases hb with rfl | rfl | rfl
        · exact .tup _
        · exact (hg _ (by simp)).fr0 f5
        · exact (hg _ (by simp)).fr0 f5
      · simp at hb
        rcases hb with rfl | rfl | rfl
        · have := hz b0 (by simp); show b0.2.length ≤ 10000; omega
        · have := hz b (by simp); omega
        · have := hz b (by simp); omega
      walk_at "dl"
      have e2 : ([(tpl b0.2, b0.2), b1, b2].map (·.2)).filter full ++ ((b3 :: r).map (·.2)).filter full = ((b0 :: b1 :: b2 :: b3 :: r).map (·.2)).filter full := by
        rw [← List.filter_append]
        rfl
      refine .inr ⟨_, _, .obj _ _, .obj _ _, _, _, rfl, ?_, ?_, fun z hz' => ?_, nd6, fun M7 nd7 f7 => ?_⟩
      · refine Nat.le_trans (List.length_filter_le _ _) ?_
        show 3 ≤ 5000
        omega
      · refine Nat.le_trans (List.length_filter_le _ _) ?_
        rw [List.length_map]
        simp at hl ⊢
        omega
      · rw [e2] at hz'
        have := filt_sub (map2_len hz) z hz'
        omega
      rw [e2]
      walk_at "dl"
      exact kQ M7 nd7 (f5.trans (f6.trans f7))

end
section
variable {P : Program} {K : PySem.W.Frag} {mg : Str → Option Value} {base : Heap} {A : Ad}
variable {ds : List D} {M : Mem} {Qd : D → Mem → Prop} {Ed : XD}
theorem name_ok {x : Str} (h : NameOk x) : PyData.strOk x = true := okStr h
theorem smg_filter {n : Nat} {gs : List (List Str)} (h : SmG n gs) : SmG n (gs.filter full) := ⟨Nat.le_trans (List.length_filter_le _ _) h.l, fun g hg => h.g g (List.mem_filter.mp hg).1, fun g hg => h.x g (List.mem_filter.mp hg).1⟩
theorem smg_ok {n : Nat} {gs : List (List Str)} (h : SmG n gs) : OkG gs := fun g hg x hx => name_ok (h.x g hg x hx)
theorem smg_flat {gs : List (List Str)} : ∀ {n : Nat}, SmG n gs → gs.flatten.length ≤ gs.length * 100 := by
  induction gs with
  | nil => intro n _; exact Nat.zero_le _
  | cons g gs ih =>
    intro n h
    have a := ih (n := n) ⟨by have := h.l; rw [List.length_cons] at this; omega, fun z hz => h.g z (List.mem_cons_of_mem _ hz), fun z hz => h.x z (List.mem_cons_of_mem _ hz)⟩
    have b := h.g g List.mem_cons_self
    rw [List.flatten_cons, List.length_append, List.length_cons, Nat.add_mul]
    omega
theorem pure__law_is (T : Txt K mg A) (h : sd__law_is K A ds M Qd Ed) : Pure (d__law_is K A) N__law_is ds M Qd Ed := by
  obtain ⟨gs, ns, rfl, hs, hn, kQ⟩ := h
  unfold Pure d__law_is
  have hl := hs.l
  have hf := smg_filter hs
  have hfl := hf.l
  have hw := smg_flat hf
  walk_at "dl"
  refine ⟨_, _, .lst (.lst _), lt_line (by rw [List.length_map]; omega), lc_if grL tpl full trivial (fun g _ P h => ?_) (fun g _ _ P1 h1 => ?_) (.inl ?_)⟩
  · walk_at "dl"
    refine isS_len (.lst _) ?_
    walk_at "dl"
    rw [List.length_map]
    unfold full at h
    simpa using h
  · walk_at "dl"
    exact tup_of (.lst _) h1
  walk_at "dl"
  refine ⟨Nat.zero_le _, .inl ?_⟩
  walk_at "dl"
  refine ⟨_, _, .lst (.lst _), ?_⟩
  let P : Nat → Rho → Mem → Prop := fun i ρ M' => (∃ x4, ρ = [some (planD A.c_Plan (gs.filter full)), some (.lst (gs.map grL)), some (.lst (ns.map .str)), some (.lst ((gs.filter full).map tpl)), x4, some (.lst (((gs.filter full).take i).flatten.map .str)), none]) ∧ M' = M
  refine goF_inv P (fun _ _ _ _ => trivial) (fun i d ρ M5 hd hP go hgo => ?_) (fun ρ M5 hP => ?_) ⟨⟨_, rfl⟩, rfl⟩
  · obtain ⟨⟨x4, rfl⟩, rfl⟩ := hP
    rw [List.getElem?_map] at hd
    cases ei : (gs.filter full)[i]? with
    | none => rw [ei] at hd; cases hd
    | some g =>
    rw [ei] at hd
    cases hd
    have et : (gs.filter full).take (i + 1) = (gs.filter full).take i ++ [g] := by rw [List.take_add_one, ei]; rfl
    have hi := (List.getElem?_eq_some_iff.mp ei).1
    have hb : ((gs.filter full).take i).flatten.length + g.length ≤ 100000 := by
      have e1 : (((gs.filter full).take (i + 1)).flatten).length ≤ (gs.filter full).flatten.length := by
        have := congrArg List.flatten (List.take_append_drop (i + 1) (gs.filter full))
        rw [List.flatten_append] at this
        rw [← this, List.length_append]
        omega
      rw [et, List.flatten_append, List.length_append, List.flatten_singleton] at e1
      omega
    walk_at "dl"
    refine .seq (.tup _) (.inl ?_)
    walk_at "dl"
    refine .lst (.lst _) (.lst _) (Nat.le_of_lt (lt_line (by rw [List.length_map, List.length_map]; omega))) (.inl ?_)
    walk_at "dl"
    refine hgo _ _ ⟨⟨some (tpl g), ?_⟩, rfl⟩
    rw [et, List.flatten_append, List.map_append, List.flatten_singleton]
    rfl
  obtain ⟨⟨x4, rfl⟩, rfl⟩ := hP
  rw [List.length_map, List.take_length]
  have ok1 : okD 60 (.lst ((gs.filter full).map tpl)) = true := tpls_ok 58 (smg_ok hf)
  have ok2 : okD 60 (.tup ((gs.filter full).flatten.map .str)) = true := strs_ok'' (flat_ok (smg_ok hf))
  walk_at "dl"
  refine ⟨_, _, .obj _ _, .head, lt_line (by rw [List.length_map]; omega), lc_map tpl tpl trivial (fun g _ P1 h1 => ?_) (.inl ?_)⟩
  · walk_at "dl"
    exact h1
  walk_at "dl"
  refine ne_told ok1 ?_
  walk_at "dl"
  refine g_iff' rfl ?_
  walk_at "dl"
  refine .inr (.mk (.obj _ _) ⟨gs.filter full, rfl, _, rfl, by omega, ?_⟩)
  walk_at "dl"
  refine isS_len (.lst _) ?_
  rw [List.length_map]
  refine ne_told rfl ?_
  walk_at "dl"
  refine g_iff' rfl ?_
  walk_at "dl"
  refine ⟨_, .obj _ _, _, rfl, by omega, ?_⟩
  walk_at "dl"
  refine tup_of (.lst _) ?_
  refine ne_told ok2 ?_
  walk_at "dl"
  rw [if_neg Bool.false_ne_true]
  walk_at "dl"
  refine ⟨len_le_line (n := 1), .inl ?_⟩
  walk_at "dl"
  refine .lst (.lst _) (.lst _) (Nat.le_of_lt (lt_line (by rw [List.length_map]; show _ + 1 ≤ _; omega))) (.inl ?_)
  rw [show ns.map D.str ++ [.str ("unknownname" : Str)] = (ns ++ [("unknownname" : Str)]).map .str by rw [List.map_append]; rfl]
  refine ⟨_, _, .lst (.lst _), ?_⟩
  let P2 : Nat → Rho → Mem → Prop := fun i ρ M' => (∃ x6, ρ = [some (planD A.c_Plan (gs.filter full)), some (.lst (gs.map grL)), some (.lst (ns.map .str)), some (.lst ((gs.filter full).map tpl)), x4, some (.lst ((gs.filter full).flatten.map .str)), x6]) ∧ M' = M5
  refine goF_inv P2 (fun _ _ _ _ => trivial) (fun i d ρ M6 hd hP go hgo => ?_) (fun ρ M6 hP => ?_) ⟨⟨_, rfl⟩, rfl⟩
  · obtain ⟨⟨x6, rfl⟩, rfl⟩ := hP
    rw [List.getElem?_map] at hd
    cases ei : (ns ++ [("unknownname" : Str)])[i]? with
    | none => rw [ei] at hd; cases hd
    | some x =>
    rw [ei] at hd
    cases hd
    walk_at "dl"
    refine .inr ⟨_, .obj _ _, gs.filter full, x, rfl, by omega, _, rfl, ?_⟩
    walk_at "dl"
    refine .inl (in_strs (.lst _) ?_)
    walk_at "dl"
    rw [if_neg (by simp)]
    walk_at "dl"
    exact hgo _ _ ⟨⟨_, rfl⟩, rfl⟩
  obtain ⟨⟨x6, rfl⟩, rfl⟩ := hP
  walk_at "dl"
  refine .mk (.obj _ _) ⟨gs.filter full, rfl, hf, _, rfl, ?_⟩
  walk_at "dl"
  refine ⟨.str, ?_⟩
  walk_at "dl"
  refine ⟨_, _, .lst (.lst _), lt_line (by rw [List.length_map]; omega), lc_map tpl (fun g => D.str (jn1 g)) trivial (fun g hg P1 h1 => ?_) (.inl ?_)⟩
  · walk_at "dl"
    refine ⟨.str, ?_⟩
    walk_at "dl"
    exact join_m (.tup _) (Nat.le_trans (jn1_sum (hf.g g hg) (hf.x g hg)) (by omega)) h1
  walk_at "dl"
  rw [show (gs.filter full).map (fun g => D.str (jn1 g)) = ((gs.filter full).map jn1).map .str by rw [List.map_map]; rfl]
  refine join_m (.lst _) (planS_sum hf) ?_
  walk_at "dl"
  have e : decide (planS (gs.filter full) = Txt.join " + " ((gs.filter full).map jn1)) = true := decide_eq_true rfl
  rw [e]
  exact kQ

end
section
variable {P : Program} {K : PySem.W.Frag} {mg : Str → Option Value} {base : Heap} {A : Ad}
variable {ds : List D} {M : Mem} {Qd : D → Mem → Prop} {Ed : XD}
theorem one_group {a : List (List Str)} (h : NE a) : decide (a = [a.flatten].filter full) = decide (a.length < 2) := by
  apply decide_eq_decide.mpr
  match a, h with
  | [], _ => simp [full]
  | [g], h =>
    have hg := h g (by simp)
    have e : ([[g].flatten].filter full) = [g] := by
      rw [List.filter_cons, if_pos (by unfold full; simpa using hg)]
      simp
    rw [e]
    simp
  | g :: g' :: a, h =>
    refine ⟨fun e => ?_, fun e => by simp at e; omega⟩
    have := congrArg List.length e
    have l := List.length_filter_le full [(g :: g' :: a).flatten]
    simp at this l
    omega
theorem rep_full (n : Nat) (gs : List (List Str)) : (List.replicate n gs).flatten.filter full = (List.replicate n (gs.filter full)).flatten := by
  induction n with
  | zero => rfl
  | succ n ih => rw [List.replicate_succ, List.replicate_succ, List.flatten_cons, List.flatten_cons, List.filter_append, ih]
theorem mem_rep {n : Nat} {gs : List (List Str)} {g : List Str} (h : g ∈ (List.replicate n gs).flatten) : g ∈ gs := by
  obtain ⟨l, hl, hg⟩ := List.mem_flatten.mp h
  rw [(List.mem_replicate.mp hl).2] at hg
  exact hg
theorem flat_le {n : Nat} : ∀ {gs : List (List Str)}, (∀ g ∈ gs, g.length ≤ n) → gs.flatten.length ≤ gs.length * n
  | [], _ => Nat.zero_le _
  | g :: gs, h => by
    have a := flat_le (n := n) fun z hz => h z (List.mem_cons_of_mem g hz)
    have b := h g List.mem_cons_self
    rw [List.flatten_cons, List.length_append, List.length_cons, Nat.add_mul]
    omega
theorem derefs_cel {M : Mem} : ∀ {bs : List Gb}, (∀ b ∈ bs, ∃ a, b.1 = .ptr a ∧ (a, MO.lst (b.2.map .str)) ∈ M ∧ okD 50 (.lst (b.2.map .str)) = true) → Derefs M (bs.map (·.1)) ((bs.map (·.2)).map grL)
  | [], _ => .nil
  | (d, g) :: bs, h => by
    obtain ⟨a, e, hm, ok⟩ := h _ List.mem_cons_self
    have e : d = .ptr a := e
    subst e
    exact .cons (.ptr hm ok) (derefs_cel fun b hb => h b (List.mem_cons_of_mem _ hb))
theorem grLs_ok {gs : List (List Str)} (h : OkG gs) : okD 60 (.lst (gs.map grL)) = true := by
  show (gs.map grL).all (okD 59) = true
  rw [List.all_eq_true]
  intro d hd
  obtain ⟨g, hg, rfl⟩ := List.mem_map.mp hd
  exact strs_ok' (h g hg)
theorem pure_law (T : Txt K mg A) (h : sd_law K A ds M Qd Ed) : Pure (d_law K A) N_law ds M Qd Ed := by
  obtain ⟨cs, rfl, hcs, nd, kQ⟩ := h
  unfold Pure d_law
  walk_at "dl"
  refine ⟨cs, rfl, hcs, nd, fun p c M1 hp hc nd1 S1 f1 => ?_⟩
  walk_at "dl"
  refine ⟨p, c, _, 6, rfl, by decide, nd1, by decide, S1, fun ns a M2 hnl hnn hno nd2 S2 ha hap hac hma f2 => ?_⟩
  obtain ⟨M3, U⟩ := del_ex nd2 hma
  refine ⟨_, M3, .one U.up rfl, ?_⟩
  have S3 : Src p c _ M3 := S2.fr U.fr (not_mem1 (Ne.symm hap)) (not_mem1 (Ne.symm hac))
  walk_at "dl"
  refine ⟨p, c, _, ns, rfl, by omega, by omega, U.nd, by omega, S3, fun one M4 hl1 hg1 nd4 S4 f4 => ⟨_, _, .refl, ?_⟩⟩
  walk_at "dl"
  refine ⟨p, c, _, ns, rfl, by omega, by omega, nd4, by omega, S4, fun two M5 hl2 hg2 nd5 S5 f5 => ⟨_, _, .refl, ?_⟩⟩
  have sm : ∀ {gs : List (List Str)}, gs.length ≤ 1000 → (∀ g ∈ gs, g.length ≤ 100 ∧ ∀ x ∈ g, x ∈ ns) → SmG 1000 gs := fun h1 h2 => ⟨h1, fun g hg => (h2 g hg).1, fun g hg x hx => hno x ((h2 g hg).2 x hx)⟩
  have h1' : ∀ g ∈ one, g.length ≤ 100 ∧ ∀ x ∈ g, x ∈ ns := fun g hg => ⟨by have := (hg1 g hg).1; omega, (hg1 g hg).2⟩
  have h2' : ∀ g ∈ two, g.length ≤ 100 ∧ ∀ x ∈ g, x ∈ ns := fun g hg => ⟨by have := (hg2 g hg).1; omega, (hg2 g hg).2⟩
  have ok1 : OkG one := smg_ok (sm (by omega) h1')
  have ok2 : OkG two := smg_ok (sm (by omega) h2')
  have okf1 : OkG (one.filter full) := fun g hg => ok1 g (List.mem_filter.mp hg).1
  have okf2 : OkG (two.filter full) := fun g hg => ok2 g (List.mem_filter.mp hg).1
  have lf1 : (one.filter full).length ≤ 6 := Nat.le_trans (List.length_filter_le _ _) hl1
  have lf2 : (two.filter full).length ≤ 6 := Nat.le_trans (List.length_filter_le _ _) hl2
  have sz1 : ∀ g ∈ one.filter full, 0 < g.length ∧ g.length ≤ 10000 := fun g hg => ⟨of_decide_eq_true (List.mem_filter.mp hg).2, by have := (hg1 g (List.mem_filter.mp hg).1).1; omega⟩
  have sz2 : ∀ g ∈ two.filter full, 0 < g.length ∧ g.length ≤ 10000 := fun g hg => ⟨of_decide_eq_true (List.mem_filter.mp hg).2, by have := (hg2 g (List.mem_filter.mp hg).1).1; omega⟩
  have fl1 : one.flatten.length ≤ 600 := Nat.le_trans (smg_flat (sm (by omega) h1')) (by omega)
  have fl2 : two.flatten.length ≤ 600 := Nat.le_trans (smg_flat (sm (by omega) h2')) (by omega)
  walk_at "dl"
  refine ⟨_, _, .lst (.lst _), lt_line (by rw [List.length_map]; omega), lc_chg grL (fun acc M6 => ∃ bs : List Gb, acc = bs.map (·.1) ∧ bs.map (·.2) = one.take bs.length ∧ (∀ b ∈ bs, ∃ a, b.1 = .ptr a ∧ (a, MO.lst (b.2.map .str)) ∈ M6 ∧ Free a M5) ∧ Nd M6 ∧ Fr [] M5 M6) (fun _ _ _ => trivial) (done := []) rfl (fun i g acc M6 hx hal I P1 hP1 => ?_) (fun acc M6 hal I => .inr fun q hq => ?_) ⟨[], rfl, rfl, (fun _ h => nomatch h), nd5, Fr.refl⟩⟩
  · obtain ⟨bs, rfl, eb, hb, nd6, f6⟩ := I
    have hx : one[i]? = some g := hx
    rw [List.length_map] at hal
    walk_at "dl"
    refine .seq (.lst _) (.inr fun r hr => ?_)
    refine hP1 _ _ ⟨bs ++ [(.ptr r, g)], by rw [List.map_append]; rfl, ?_, fun b hb' => ?_, nd_new hr nd6, f6.trans Fr.refl.cons⟩
    · rw [List.map_append, eb, List.length_append, hal]
      show _ ++ [g] = one.take (i + 1)
      rw [List.take_add_one, hx]
      rfl
    · rcases List.mem_append.mp hb' with h | h
      · obtain ⟨a, e, hm, hf⟩ := hb b h
        exact ⟨a, e, List.mem_cons_of_mem _ hm, hf⟩
      · rw [List.mem_singleton.mp h]
        exact ⟨r, rfl, List.mem_cons_self, fun m hm => hr m (f6 _ _ (by simp) hm)⟩
  obtain ⟨bs, rfl, eb, hb, nd6, f6⟩ := I
  have hbl : bs.length = one.length := by
    rw [List.length_map] at hal
    exact hal
  rw [hbl, List.take_length] at eb
  have nd7 := nd_new (m := .lst (bs.map (·.1))) hq nd6
  have S7 : Src p c _ ((q, MO.lst (bs.map (·.1))) :: M6) := src_more S5 (f6.trans Fr.refl.cons)
  have hb7 : ∀ b ∈ bs, ∃ a, b.1 = .ptr a ∧ (a, MO.lst (b.2.map .str)) ∈ ((q, MO.lst (bs.map (·.1))) :: M6) ∧ Free a M5 := fun b hb' => by
    obtain ⟨a, e, hm, hf⟩ := hb b hb'
    exact ⟨a, e, List.mem_cons_of_mem _ hm, hf⟩
  have gp : GP ((q, MO.lst (bs.map (·.1))) :: M6) bs := fun b hb' => by
    obtain ⟨a, e, hm, _⟩ := hb7 b hb'
    rw [e]
    exact .ptr hm
  walk_at "dl"
  refine ⟨.ptr q, bs, rfl, .ptr List.mem_cons_self, gp, by omega, fun b hb' => ?_, nd7, fun M8 nd8 f8 => ⟨_, _, .refl, ?_⟩⟩
  · have : b.2 ∈ one := by rw [← eb]; exact List.mem_map.mpr ⟨b, hb', rfl⟩
    have := (hg1 _ this).1
    omega
  rw [eb]
  have hq8 : (q, MO.lst (bs.map (·.1))) ∈ M8 := f8 _ _ (by simp) List.mem_cons_self
  have S8 : Src p c 2000 M8 := (src_more S7 f8).more (by omega)
  walk_at "dl"
  refine .dat (.ptrD hq8 (derefs_cel fun b hb' => ?_)) (.plain (grLs_ok ok1)) ?_ (grLs_ok ok1) ?_
  · obtain ⟨a, e, hm, _⟩ := hb7 b hb'
    exact ⟨a, e, f8 _ _ (by simp) hm, strs_ok' (ok1 b.2 (by rw [← eb]; exact List.mem_map.mpr ⟨b, hb', rfl⟩))⟩
  · rw [eb]; exact grLs_ok ok1
  rw [eb, eqD_refl 60 _ (grLs_ok ok1)]
  walk_at "dl"
  refine g_iff' rfl ?_
  walk_at "dl"
  refine ⟨_, _, .lst (.ptr hq8), ?_⟩
  obtain ⟨hpq, hcq⟩ := src_ne (src_more S5 f6) hq
  let P : Nat → Rho → Mem → Prop := fun i ρ M' => (∃ x6, ρ = [some (.rol (cs.map .int)), some (.ptr p), some (.lst (ns.map .str)), some (.lst (one.map grL)), some (.lst (two.map grL)), some (.ptr q), x6, some (planD A.c_Plan (one.filter full)), none, none, none, none, none, none, none, none]) ∧ (q, MO.lst (bs.map (·.1))) ∈ M' ∧ (∀ b ∈ bs, ∃ a xs, b.1 = .ptr a ∧ (a, MO.lst xs) ∈ M' ∧ xs.length ≤ 100 + i ∧ a ≠ q ∧ a ≠ p ∧ a ≠ c) ∧ Nd M' ∧ Src p c 2000 M'
  refine goF_inv P (fun _ _ _ h => h.2.1) (fun i d ρ M9 hd hP go hgo => ?_) (fun ρ M9 hP => ?_) ⟨⟨_, rfl⟩, hq8, fun b hb' => ?_, nd8, S8⟩
  · obtain ⟨⟨x6, rfl⟩, hq9, hb9, nd9, S9⟩ := hP
    rw [List.getElem?_map] at hd
    cases ei : bs[i]? with
    | none => rw [ei] at hd; cases hd
    | some b =>
    rw [ei] at hd
    cases hd
    obtain ⟨a, xs, e, hm, hxl, haq', hap', hac'⟩ := hb9 b (List.mem_of_getElem? ei)
    have hi := (List.getElem?_eq_some_iff.mp ei).1
    show DL.gNm 6 b.1 _ _ _
    rw [e]
    walk_at "dl"
    refine ⟨.lst (.ptr hm), ?_⟩
    walk_at "dl"
    obtain ⟨M10, U10⟩ := upd_ex (n := .lst (xs ++ [.str ("unknownname" : Str)])) nd9 hm
    refine .ptr U10.up (lt_line (by omega)) ?_
    walk_at "dl"
    refine hgo _ _ ⟨⟨_, rfl⟩, U10.fr _ _ (not_mem1 (Ne.symm haq')) hq9, fun b' hb' => ?_, U10.nd, S9.fr U10.fr (not_mem1 (Ne.symm hap')) (not_mem1 (Ne.symm hac'))⟩
    obtain ⟨a', xs', e', hm', hxl', h1, h2, h3⟩ := hb9 b' hb'
    by_cases z : a' = a
    · subst z
      exact ⟨a', _, e', U10.at_, by cases nd9.one hm hm'; simp; omega, h1, h2, h3⟩
    · exact ⟨a', xs', e', U10.fr _ _ (not_mem1 z) hm', by omega, h1, h2, h3⟩
  · obtain ⟨⟨x6, rfl⟩, hq9, hb9, nd9, S9⟩ := hP
    walk_at "dl"
    refine ⟨.lst (.ptr hq9), ?_⟩
    walk_at "dl"
    refine ⟨len_le_line (n := 1), .inl ?_⟩
    walk_at "dl"
    obtain ⟨M10, U10⟩ := upd_ex (n := .lst (bs.map (·.1) ++ [.lst [.str ("unknownname" : Str)]])) nd9 hq9
    refine .ptr U10.up (lt_line (by rw [List.length_map]; omega)) ?_
    have nd10 := U10.nd
    have S10 : Src p c 2000 M10 := S9.fr U10.fr (not_mem1 hpq) (not_mem1 hcq)
    walk_at "dl"
    refine ⟨_, _, .lst (.lst _), lt_line (by rw [List.length_map]; omega), lc_map grL grL trivial (fun g _ P1 h1 => ?_) (.inl ?_)⟩
    · walk_at "dl"
      exact .seq (.lst _) (.inl h1)
    walk_at "dl"
    refine ⟨_, two.map fun g => (grL g, g), rfl, by rw [List.map_map]; exact .lst _, fun b hb' => ?_, by rw [List.length_map]; omega, fun b hb' => ?_, nd10, fun M11 nd11 f11 => ⟨_, _, .refl, ?_⟩⟩
    · obtain ⟨g, _, rfl⟩ := List.mem_map.mp hb'
      exact .lst _
    · obtain ⟨g, hg, rfl⟩ := List.mem_map.mp hb'
      have := (hg2 g hg).1
      show g.length ≤ 1000
      omega
    rw [show (two.map fun g => (grL g, g)).map (·.2) = two by rw [List.map_map]; exact List.map_id _]
    have S11 : Src p c 2000 M11 := src_more S10 f11
    walk_at "dl"
    refine draw_nat (n := 4) rfl (by decide) (by decide) nd11 (by omega) S11 fun t0 M12 ht0 nd12 S12 f12 => ?_
    walk_at "dl"
    refine draw_nat (n := 8) rfl (by decide) (by decide) nd12 (by omega) S12 fun r13 M13 hr13 nd13 S13 f13 => ?_
    refine .inl ?_
    walk_at "dl"
    refine g_join (fun ρ' M' => ∃ t : Nat, t ≤ 100 ∧ ρ' = [some (.rol (cs.map .int)), some (.ptr p), some (.lst (ns.map .str)), some (.lst (one.map grL)), some (.lst (two.map grL)), some (.ptr q), x6, some (planD A.c_Plan (one.filter full)), some (planD A.c_Plan (two.filter full)), some (.int (t : Nat)), none, none, none, none, none, none] ∧ Nd M' ∧ Src p c 2003 M') (fun nx' hn' => ?_) fun ρ' M14 ⟨t, ht, e, nd14, S14⟩ => ?_
    · by_cases z : (r13 : Int) = 7
      · refine g_ift (by simpa using z) ?_
        walk_at "dl"
        refine draw_nat (n := 101) rfl (by decide) (by decide) nd13 (by omega) S13 fun t1 M14 ht1 nd14 S14 f14 => ?_
        exact hn' _ _ ⟨t1, by omega, rfl, nd14, S14.more (by omega)⟩
      · refine g_iff' (by simpa using z) ?_
        walk_at "dl"
        exact hn' _ _ ⟨t0, by omega, rfl, nd13, S13.more (by omega)⟩
    subst e
    walk_at "dl"
    refine draw_nat (n := 4) rfl (by decide) (by decide) nd14 (by omega) S14 fun k M15 hk nd15 S15 f15 => ?_
    walk_at "dl"
    refine ⟨by omega, by omega, ?_⟩
    unfold rng
    refine ⟨lt_line (by rw [List.length_map, List.length_range]; omega), lc_chg (fun i : Nat => D.int (0 + (i : Int))) (fun acc M7 => ∃ g : List Str, acc = g.map .str ∧ (∀ x ∈ g, x ∈ ns) ∧ Nd M7 ∧ Src p c (2004 + acc.length) M7) (fun _ _ _ => trivial) (done := []) rfl (fun j x acc M16 hx hal' I P1 hP1 => ?_) (fun acc M16 hal' I => .inl ?_) ⟨[], rfl, by simp, nd15, S15⟩⟩
    · obtain ⟨g, rfl, hr, nd16, S16⟩ := I
      have hj : j < k := by
        have := (List.getElem?_eq_some_iff.mp hx).1
        simpa using this
      rw [hal'] at S16
      walk_at "dl"
      refine isS_len (.lst _) ?_
      rw [List.length_map]
      walk_at "dl"
      refine draw_nat (n := ns.length) rfl (by omega) (by omega) nd16 (by omega) S16 fun r M17 hr17 nd17 S17 f17 => ?_
      refine ix_map .str hr17 ?_
      refine hP1 _ _ ⟨g ++ [ns[r]], by rw [List.map_append]; rfl, fun z hz => ?_, nd17, S17.more (by rw [List.length_append, hal']; simp; omega)⟩
      rcases List.mem_append.mp hz with e | e
      · exact hr z e
      · rw [List.mem_singleton.mp e]; exact List.getElem_mem hr17
    obtain ⟨few, rfl, hfew, nd16, S16⟩ := I
    have hfl : few.length ≤ 3 := by
      rw [List.nil_append, List.length_range, List.length_map] at hal'
      omega
    clear S16 S15 S14 S13 S12 S11
    walk_at "dl"
    refine ⟨Nat.zero_le _, .inl ?_⟩
    walk_at "dl"
    have addL : ∀ {M : Mem} {R : D → Mem → Prop}, R (.lst ((one ++ two).map grL)) M → DL.rAdd (.lst (one.map grL)) (.lst (two.map grL)) M R := fun {M R} h => .lst (.lst _) (.lst _) (Nat.le_of_lt (lt_line (by rw [List.length_map, List.length_map]; omega))) (.inl (by rw [← List.map_append]; exact h))
    refine .inl (addL ?_)
    refine ⟨_, _, .lst (.lst _), ?_⟩
    have smb : SmG 1000 (one ++ two) := sm (by rw [List.length_append]; omega) fun g hg => (List.mem_append.mp hg).elim (h1' g) (h2' g)
    let P2 : Nat → Rho → Mem → Prop := fun i ρ M' => (∃ x6, ρ = [some (.rol (cs.map .int)), some (.ptr p), some (.lst (ns.map .str)), some (.lst (one.map grL)), some (.lst (two.map grL)), some (.ptr q), x6, some (planD A.c_Plan (one.filter full)), some (planD A.c_Plan (two.filter full)), some (.int (t : Nat)), some (.lst (few.map .str)), none, some (.lst (((one ++ two).take i).flatten.map .str)), none, none, none]) ∧ M' = M16
    refine goF_inv P2 (fun _ _ _ _ => trivial) (fun i d ρ M5 hd hP go hgo => ?_) (fun ρ M5 hP => ?_) ⟨⟨_, rfl⟩, rfl⟩
    · obtain ⟨⟨x6, rfl⟩, rfl⟩ := hP
      rw [List.getElem?_map] at hd
      cases ei : (one ++ two)[i]? with
      | none => rw [ei] at hd; cases hd
      | some g =>
      rw [ei] at hd
      cases hd
      have et : (one ++ two).take (i + 1) = (one ++ two).take i ++ [g] := by rw [List.take_add_one, ei]; rfl
      have hw : ((one ++ two).take i).flatten.length + g.length ≤ 100000 := by
        have a1 := smg_flat (gs := (one ++ two).take i) (n := 1000) ⟨by rw [List.length_take]; have := smb.l; omega, fun g hg => smb.g g (List.mem_of_mem_take hg), fun g hg => smb.x g (List.mem_of_mem_take hg)⟩
        have a2 := smb.g g (List.mem_of_getElem? ei)
        have a3 : ((one ++ two).take i).length ≤ 12 := by rw [List.length_take, List.length_append]; omega
        omega
      walk_at "dl"
      refine .inl (.lst (.lst _) (.lst _) (Nat.le_of_lt (lt_line (by rw [List.length_map, List.length_map]; omega))) (.inl ?_))
      walk_at "dl"
      refine hgo _ _ ⟨⟨some (grL g), ?_⟩, rfl⟩
      rw [et, List.flatten_append, List.map_append, List.flatten_singleton]
      rfl
    obtain ⟨⟨x6, rfl⟩, rfl⟩ := hP
    rw [List.length_map, List.take_length]
    have okt1 : okD 60 (.lst ((one.filter full).map tpl)) = true := tpls_ok 58 okf1
    have okt2 : okD 60 (.lst ((two.filter full).map tpl)) = true := tpls_ok 58 okf2
    walk_at "dl"
    refine ⟨_, _, .lst (.lst _), lt_line (by rw [List.length_map]; omega), lc_if grL tpl full trivial (fun g _ P h => ?_) (fun g _ _ P1 h1 => ?_) (.inl ?_)⟩
    · walk_at "dl"
      refine isS_len (.lst _) ?_
      walk_at "dl"
      rw [List.length_map]
      unfold full at h
      simpa using h
    · walk_at "dl"
      exact tup_of (.lst _) h1
    walk_at "dl"
    refine .inr ⟨_, _, .obj _ _, .obj _ _, _, _, rfl, okf1, okf2, ?_⟩
    walk_at "dl"
    refine .mk (.ty _) (.bl _) (b := true) rfl ?_
    walk_at "dl"
    refine g_iff' rfl ?_
    walk_at "dl"
    refine ⟨_, _, .lst (.lst _), lt_line (by rw [List.length_map]; omega), lc_if grL tpl full trivial (fun g _ P h => ?_) (fun g _ _ P1 h1 => ?_) (.inl ?_)⟩
    · walk_at "dl"
      refine isS_len (.lst _) ?_
      walk_at "dl"
      rw [List.length_map]
      unfold full at h
      simpa using h
    · walk_at "dl"
      exact tup_of (.lst _) h1
    refine .inl (.dat (.plain okt1) (.plain okt2) okt1 okt2 ?_)
    rw [show eqD (.lst ((one.filter full).map tpl)) (.lst ((two.filter full).map tpl)) = decide (one.filter full = two.filter full) from eqDs_tpl _ _]
    walk_at "dl"
    refine g_iff' (by simp) ?_
    -- first + second
    walk_at "dl"
    have isOk : ∀ {gs : List (List Str)} {M : Mem} {R : D → Mem → Prop} {E : XD}, SmG 1000 gs → (R (.bl true) M) → sd__law_is K A [planD A.c_Plan (gs.filter full), .lst (gs.map grL), .lst (ns.map .str)] M R E := fun {gs M R E} h1 h2 => ⟨gs, ns, rfl, h1, by omega, h2⟩
    refine .inr ⟨_, _, .obj _ _, .obj _ _, one.filter full, two.filter full, rfl, by omega, by omega, fun g hg => (List.mem_append.mp hg).elim (sz1 g) (sz2 g), nd16, fun M17 nd17 f17 => ?_⟩
    walk_at "dl"
    refine .inl (addL ?_)
    walk_at "dl"
    rw [← List.filter_append]
    refine isOk smb ⟨_, _, .refl, ?_⟩
    walk_at "dl"
    refine g_iff' rfl ?_
    -- first | second
    walk_at "dl"
    refine ⟨_, _, .obj _ _, .obj _ _, one.filter full, two.filter full, rfl, by rw [flat_full]; omega, by rw [flat_full]; omega, nd17, fun M18 nd18 f18 => ?_⟩
    rw [flat_full, flat_full]
    walk_at "dl"
    refine ⟨len_le_line (n := 1), .inl ?_⟩
    walk_at "dl"
    have smj : SmG 1000 [one.flatten ++ two.flatten] := by
      refine sm (by simp) fun g hg => ?_
      rw [List.mem_singleton.mp hg]
      have q1 := flat_le fun g hg => (hg1 g hg).1
      have q2 := flat_le fun g hg => (hg2 g hg).1
      refine ⟨by rw [List.length_append]; omega, fun x hx => ?_⟩
      rcases List.mem_append.mp hx with hx | hx
      · obtain ⟨g, hg, hx⟩ := List.mem_flatten.mp hx
        exact (hg1 g hg).2 x hx
      · obtain ⟨g, hg, hx⟩ := List.mem_flatten.mp hx
        exact (hg2 g hg).2 x hx
    rw [List.flatten_append]
    refine isOk smj ⟨_, _, .refl, ?_⟩
    walk_at "dl"
    refine g_iff' rfl ?_
    -- first * times
    have mulL : ∀ {M : Mem} {R : D → Mem → Prop}, R (.lst ((List.replicate t one).flatten.map grL)) M → DL.rMul (.lst (one.map grL)) (.int (t : Nat)) M R := fun {M R} h => .lst (.lst _) (by omega) (by omega) (by
      rw [List.length_map, Int.toNat_natCast]
      exact Nat.le_of_lt (lt_line (by have := Nat.mul_le_mul hl1 ht; omega))) (.inl (by rw [show (List.replicate ((t : Nat) : Int).toNat (one.map grL)).flatten = (List.replicate t one).flatten.map grL by rw [Int.toNat_natCast, List.map_flatten, List.map_replicate]]; exact h))
    have smt : SmG 1000 (List.replicate t one).flatten := sm (by
      rw [PyProof.Rows.lm_len_rep_flat]
      exact Nat.le_trans (Nat.mul_le_mul ht hl1) (by decide)) fun g hg => h1' g (mem_rep hg)
    have mul : ∀ {M : Mem} {R : D → Mem → Prop} {E : XD}, Nd M → (∀ M', Nd M' → Fr [] M M' → R (planD A.c_Plan ((List.replicate t one).flatten.filter full)) M') → spMulP A.c_Plan [planD A.c_Plan (one.filter full), .int (t : Nat)] M R E := fun {M R E} nd h => ⟨_, t, rfl, by omega, by omega, sz1, nd, fun M' nd' f' => by rw [← rep_full]; exact h M' nd' f'⟩
    walk_at "dl"
    refine ⟨_, _, .obj _ _, rfl, mul nd18 fun M19 nd19 f19 => ?_⟩
    walk_at "dl"
    refine mulL ?_
    walk_at "dl"
    refine isOk smt ⟨_, _, .refl, ?_⟩
    walk_at "dl"
    refine g_iff' rfl ?_
    walk_at "dl"
    refine ⟨_, _, .obj _ _, rfl, mul nd19 fun M20 nd20 f20 => ?_⟩
    walk_at "dl"
    refine mulL ?_
    walk_at "dl"
    refine isOk smt ⟨_, _, .refl, ?_⟩
    walk_at "dl"
    refine g_iff' rfl ?_
    -- apart, together
    walk_at "dl"
    refine ⟨few, rfl, hfl, nd20, fun M21 nd21 f21 => ⟨_, _, .refl, ?_⟩⟩
    walk_at "dl"
    refine ⟨_, _, .lst (.lst _), lt_line (by rw [List.length_map]; omega), lc_map .str (fun x => grL [x]) trivial (fun x hx P1 h1 => ?_) (.inl ?_)⟩
    · walk_at "dl"
      exact ⟨len_le_line (n := 1), .inl h1⟩
    walk_at "dl"
    have sma : SmG 1000 (few.map fun x => [x]) := sm (by rw [List.length_map]; omega) fun g hg => by
      obtain ⟨x, hx, rfl⟩ := List.mem_map.mp hg
      exact ⟨by simp, fun z hz => by rw [List.mem_singleton.mp hz]; exact hfew x hx⟩
    have ea : (few.map fun x => [x]).filter full = few.map fun x => [x] := full_all fun g hg => by
      obtain ⟨x, hx, rfl⟩ := List.mem_map.mp hg
      show 0 < 1
      omega
    rw [show (few.map fun x => grL [x]) = (few.map fun x => [x]).map grL by rw [List.map_map]; rfl]
    rw [← ea]
    rw (occs := .neg [1]) [ea]
    refine isOk sma ⟨_, _, .refl, ?_⟩
    walk_at "dl"
    refine g_iff' rfl ?_
    walk_at "dl"
    refine ⟨few, rfl, hfl, nd21, fun M22 nd22 f22 => ⟨_, _, .refl, ?_⟩⟩
    walk_at "dl"
    refine ⟨len_le_line (n := 1), .inl ?_⟩
    walk_at "dl"
    have smw : SmG 1000 [few] := sm (by simp) fun g hg => by
      rw [List.mem_singleton.mp hg]
      exact ⟨by omega, hfew⟩
    refine isOk smw ⟨_, _, .refl, ?_⟩
    walk_at "dl"
    refine g_iff' rfl ?_
    -- the plans as they were
    walk_at "dl"
    refine isOk (sm (by omega) h1') ⟨_, _, .refl, ?_⟩
    walk_at "dl"
    refine g_iff' rfl ?_
    walk_at "dl"
    refine isOk (sm (by omega) h2') ⟨_, _, .refl, ?_⟩
    walk_at "dl"
    refine g_iff' rfl ?_
    walk_at "dl"
    -- first == first | Plan()
    refine fun q' hq' => star_planT (gs := []) hq' nd22 (by simp) (fun g hg => nomatch hg) fun M23 nd23 f23 => ?_
    walk_at "dl"
    refine ⟨_, _, .obj _ _, .obj _ _, one.filter full, [], rfl, by rw [flat_full]; omega, by simp, nd23, fun M24 nd24 f24 => ?_⟩
    rw [List.flatten_nil, List.append_nil]
    refine .inr ⟨_, _, .obj _ _, .obj _ _, _, _, rfl, okf1, fun g hg x hx => ?_, ?_⟩
    · have hg := (List.mem_filter.mp hg).1
      rw [List.mem_singleton.mp hg] at hx
      exact flat_ok okf1 x hx
    rw [one_group (NE_full one)]
    walk_at "dl"
    refine isS_len (.lst _) ?_
    rw [List.length_map]
    walk_at "dl"
    rw [show decide (((one.filter full).length : Int) < 2) = decide ((one.filter full).length < 2) by apply decide_eq_decide.mpr; omega]
    refine g_iff' (by simp) ?_
    walk_at "dl"
    refine fun q' hq' => star_planT (gs := []) hq' nd24 (by simp) (fun g hg => nomatch hg) fun M25 nd25 f25 => ?_
    walk_at "dl"
    refine .inr ⟨_, _, .obj _ _, .obj _ _, one.filter full, [], rfl, okf1, (fun g hg => nomatch hg), ?_⟩
    walk_at "dl"
    refine isS_len (.lst _) ?_
    rw [List.length_map]
    refine .inl ?_
    walk_at "dl"
    rw [show (decide (((one.filter full).length : Int) = 0) != false) = decide (one.filter full = []) by rw [ne_false]; apply decide_eq_decide.mpr; rw [← List.length_eq_zero_iff]; omega]
    refine .inl (.bl ?_)
    rw [show ((decide (one.filter full = []) == decide (one.filter full = [])) != false) = true by simp]
    walk_at "dl"
    refine g_t ?_
    walk_at "dl"
    refine ⟨_, one.map fun g => (grL g, g), rfl, by rw [List.map_map]; exact .lst _, fun b hb' => ?_, by rw [List.length_map]; omega, fun b hb' => ?_, nd25, fun M26 nd26 f26 => ⟨_, _, .refl, ?_⟩⟩
    · obtain ⟨g, _, rfl⟩ := List.mem_map.mp hb'
      exact .lst _
    · obtain ⟨g, hg, rfl⟩ := List.mem_map.mp hb'
      have := (hg1 g hg).1
      show g.length ≤ 1000
      omega
    rw [show (one.map fun g => (grL g, g)).map (·.2) = one by rw [List.map_map]; exact List.map_id _]
    refine .inr ⟨_, _, .obj _ _, .obj _ _, _, _, rfl, okf1, okf1, ?_⟩
    rw [decide_eq_true rfl]
    walk_at "dl"
    refine .bl ?_
    simpa using kQ _
  · obtain ⟨a, e, hm, hf⟩ := hb b hb'
    obtain ⟨z1, z2⟩ := src_ne S5 hf
    exact ⟨a, _, e, f8 _ _ (by simp) (List.mem_cons_of_mem _ hm), by rw [List.length_map]; have := (hg1 b.2 (by rw [← eb]; exact List.mem_map.mpr ⟨b, hb', rfl⟩)).1; omega, Free.ne hq hm, Ne.symm z1, Ne.symm z2⟩

end
section
variable {P : Program} {K : PySem.W.Frag} {mg : Str → Option Value} {base : Heap} {A : Ad}
theorem ok__law_source (T : Txt K mg A) {fd : FuncData} (Fu : Fun K "_law_source" "_law_source" s__law_source A.f__law_source fd) : FnOk P Wd.w K mg base (L2.CX P Wd.w) 1 A.f__law_source fd ["_law_script"] (spOf K (sd__law_source K A)) :=
  fnOk_of Fu sc__law_source (fun ds M Q E h => len__law_source h) fun cdv A0 outer s H U E ds M Qd Ed hr h => ⟨d__law_source K A, h__law_source T hr, pure__law_source T h⟩
theorem ok__law_draw (T : Txt K mg A) {fd : FuncData} (Fu : Fun K "_law_draw" "_law_draw" s__law_draw A.f__law_draw fd) : FnOk P Wd.w K mg base (L2.CX P Wd.w) 1 A.f__law_draw fd ["_law_source_here", "_law_many"] (spOf K (sd__law_draw K A)) :=
  fnOk_of Fu sc__law_draw (fun ds M Q E h => len__law_draw h) fun cdv A0 outer s H U E ds M Qd Ed hr h => ⟨d__law_draw K A, h__law_draw T hr, pure__law_draw T h⟩
theorem ok_Plan___init__ (T : Txt K mg A) {fd : FuncData} (Fu : Fun K "__init__" "Plan.__init__" s_Plan___init__ A.m_Plan___init__ fd) : FnD P Wd.w K mg base 1 A.m_Plan___init__ (sd_Plan___init__ K A) :=
  fnD_ofStar (ps := ["self"]) (pv := "groups") Fu sc_Plan___init__ (fun kV doc pm an cdv ct => StX.bind_star1 (B := fun us => bindArgs (PySem.W.fnOf "__init__" "Plan.__init__" (defArgs s_Plan___init__) (defBody s_Plan___init__) (defScope s_Plan___init__) .none kV doc pm an cdv ct) ⟨us, []⟩) (fun a0 => rfl) (fun a0 _ _ => rfl)) fun cdv A0 outer s H U E ds M Qd Ed hr h => ⟨d_Plan___init__ K A, h_Plan___init__ T hr, pure_Plan___init__ T h⟩
theorem ok_Plan___iter__ (T : Txt K mg A) {fd : FuncData} (Fu : Fun K "__iter__" "Plan.__iter__" s_Plan___iter__ A.m_Plan___iter__ fd) (bi : Binds K fd ["self"] []) : IterFn P Wd.w K mg base 1 A.m_Plan___iter__ "_groups" := iterFn_of Fu sc_Plan___iter__ bi fun cdv A0 outer s H E => h_Plan___iter__ T
theorem ok_Plan___len__ (T : Txt K mg A) {fd : FuncData} (Fu : Fun K "__len__" "Plan.__len__" s_Plan___len__ A.m_Plan___len__ fd) : FnOk P Wd.w K mg base (L2.CX P Wd.w) 1 A.m_Plan___len__ fd ["self"] (spOf K (sd_Plan___len__ K A)) :=
  fnOk_of Fu sc_Plan___len__ (fun ds M Q E h => len_Plan___len__ h) fun cdv A0 outer s H U E ds M Qd Ed hr h => ⟨d_Plan___len__ K A, h_Plan___len__ T hr, pure_Plan___len__ T h⟩
theorem ok_Plan___contains__ (T : Txt K mg A) {fd : FuncData} (Fu : Fun K "__contains__" "Plan.__contains__" s_Plan___contains__ A.m_Plan___contains__ fd) : FnOk P Wd.w K mg base (L2.CX P Wd.w) 1 A.m_Plan___contains__ fd ["self", "name"] (spOf K (sd_Plan___contains__ K A)) :=
  fnOk_of Fu sc_Plan___contains__ (fun ds M Q E h => len_Plan___contains__ h) fun cdv A0 outer s H U E ds M Qd Ed hr h => ⟨d_Plan___contains__ K A, h_Plan___contains__ T hr, pure_Plan___contains__ T h⟩
theorem ok_Plan___eq__ (T : Txt K mg A) {fd : FuncData} (Fu : Fun K "__eq__" "Plan.__eq__" s_Plan___eq__ A.m_Plan___eq__ fd) : FnOk P Wd.w K mg base (L2.CX P Wd.w) 1 A.m_Plan___eq__ fd ["self", "other"] (spOf K (sd_Plan___eq__ K A)) :=
  fnOk_of Fu sc_Plan___eq__ (fun ds M Q E h => len_Plan___eq__ h) fun cdv A0 outer s H U E ds M Qd Ed hr h => ⟨d_Plan___eq__ K A, h_Plan___eq__ T hr, pure_Plan___eq__ T h⟩
theorem ok_Plan___str__ (T : Txt K mg A) {fd : FuncData} (Fu : Fun K "__str__" "Plan.__str__" s_Plan___str__ A.m_Plan___str__ fd) : FnOk P Wd.w K mg base (L2.CX P Wd.w) 1 A.m_Plan___str__ fd ["self"] (spOf K (sd_Plan___str__ K A)) :=
  fnOk_of Fu sc_Plan___str__ (fun ds M Q E h => len_Plan___str__ h) fun cdv A0 outer s H U E ds M Qd Ed hr h => ⟨d_Plan___str__ K A, h_Plan___str__ T hr, pure_Plan___str__ T h⟩
theorem ok_Plan_walks (T : Txt K mg A) {fd : FuncData} (Fu : Fun K "walks" "Plan.walks" s_Plan_walks A.m_Plan_walks fd) : FnOk P Wd.w K mg base (L2.CX P Wd.w) 1 A.m_Plan_walks fd ["self"] (spOf K (sd_Plan_walks K A)) :=
  fnOk_of Fu sc_Plan_walks (fun ds M Q E h => len_Plan_walks h) fun cdv A0 outer s H U E ds M Qd Ed hr h => ⟨d_Plan_walks K A, h_Plan_walks T hr, pure_Plan_walks T h⟩
theorem ok__law_names (T : Txt K mg A) (G__law_draw : FnD P Wd.w K mg base 1 A.f__law_draw (sd__law_draw K A)) {fd : FuncData} (Fu : Fun K "_law_names" "_law_names" s__law_names A.f__law_names fd) : FnOk P Wd.w K mg base (L2.CX P Wd.w) 2 A.f__law_names fd ["_law_source_here", "_law_count"] (spOf K (sd__law_names K A)) :=
  fnOk_of Fu sc__law_names (fun ds M Q E h => len__law_names h) fun cdv A0 outer s H U E ds M Qd Ed hr h => ⟨d__law_names K A, h__law_names T G__law_draw hr, pure__law_names T h⟩
theorem ok__law_groups (T : Txt K mg A) (G__law_draw : FnD P Wd.w K mg base 1 A.f__law_draw (sd__law_draw K A)) {fd : FuncData} (Fu : Fun K "_law_groups" "_law_groups" s__law_groups A.f__law_groups fd) : FnOk P Wd.w K mg base (L2.CX P Wd.w) 2 A.f__law_groups fd ["_law_source_here", "_law_names_here"] (spOf K (sd__law_groups K A)) :=
  fnOk_of Fu sc__law_groups (fun ds M Q E h => len__law_groups h) fun cdv A0 outer s H U E ds M Qd Ed hr h => ⟨d__law_groups K A, h__law_groups T G__law_draw hr, pure__law_groups T h⟩
theorem ok_Plan___add__ (T : Txt K mg A) (G_Plan___init__ : FnD P Wd.w K mg base 1 A.m_Plan___init__ (sd_Plan___init__ K A)) {fd : FuncData} (Fu : Fun K "__add__" "Plan.__add__" s_Plan___add__ A.m_Plan___add__ fd) : FnOk P Wd.w K mg base (L2.CX P Wd.w) 3 A.m_Plan___add__ fd ["self", "other"] (spOf K (sd_Plan___add__ K A)) :=
  fnOk_of Fu sc_Plan___add__ (fun ds M Q E h => len_Plan___add__ h) fun cdv A0 outer s H U E ds M Qd Ed hr h => ⟨d_Plan___add__ K A, h_Plan___add__ T G_Plan___init__ hr, pure_Plan___add__ T h⟩
theorem ok_Plan___or__ (T : Txt K mg A) (G_Plan_walks : FnD P Wd.w K mg base 1 A.m_Plan_walks (sd_Plan_walks K A)) (G_Plan___init__ : FnD P Wd.w K mg base 1 A.m_Plan___init__ (sd_Plan___init__ K A)) {fd : FuncData} (Fu : Fun K "__or__" "Plan.__or__" s_Plan___or__ A.m_Plan___or__ fd) : FnOk P Wd.w K mg base (L2.CX P Wd.w) 3 A.m_Plan___or__ fd ["self", "other"] (spOf K (sd_Plan___or__ K A)) :=
  fnOk_of Fu sc_Plan___or__ (fun ds M Q E h => len_Plan___or__ h) fun cdv A0 outer s H U E ds M Qd Ed hr h => ⟨d_Plan___or__ K A, h_Plan___or__ T G_Plan_walks G_Plan___init__ hr, pure_Plan___or__ T h⟩
theorem ok_Plan___mul__ (T : Txt K mg A) (G_Plan___init__ : FnD P Wd.w K mg base 1 A.m_Plan___init__ (sd_Plan___init__ K A)) {fd : FuncData} (Fu : Fun K "__mul__" "Plan.__mul__" s_Plan___mul__ A.m_Plan___mul__ fd) : FnOk P Wd.w K mg base (L2.CX P Wd.w) 3 A.m_Plan___mul__ fd ["self", "times"] (spOf K (sd_Plan___mul__ K A)) :=
  fnOk_of Fu sc_Plan___mul__ (fun ds M Q E h => len_Plan___mul__ h) fun cdv A0 outer s H U E ds M Qd Ed hr h => ⟨d_Plan___mul__ K A, h_Plan___mul__ T G_Plan___init__ hr, pure_Plan___mul__ T h⟩
theorem ok_Plan_apart (T : Txt K mg A) (G_Plan___init__ : FnD P Wd.w K mg base 1 A.m_Plan___init__ (sd_Plan___init__ K A)) {fd : FuncData} (Fu : FunD K "apart" "Plan.apart" (defArgs s_Plan_apart) (defBody s_Plan_apart) (defScope s_Plan_apart) [V.non] [] A.m_Plan_apart fd) : FnD P Wd.w K mg base 3 A.m_Plan_apart (sd_Plan_apart K A) :=
  fnD_ofStarN Fu sc_Plan_apart (fun _ _ _ _ _ _ _ _ => ⟨_, rfl, by with_unfolding_all rfl⟩) (fun _ _ _ _ _ _ _ _ _ rest => by cases rest <;> exact ⟨_, rfl, by with_unfolding_all rfl⟩) fun cdv A0 outer s H U E ds M Qd Ed hr h => ⟨d_Plan_apart K A, h_Plan_apart T G_Plan___init__ hr, pure_Plan_apart T h⟩
theorem ok_Plan_together (T : Txt K mg A) (G_Plan___init__ : FnD P Wd.w K mg base 1 A.m_Plan___init__ (sd_Plan___init__ K A)) {fd : FuncData} (Fu : FunD K "together" "Plan.together" (defArgs s_Plan_together) (defBody s_Plan_together) (defScope s_Plan_together) [V.non] [] A.m_Plan_together fd) : FnD P Wd.w K mg base 3 A.m_Plan_together (sd_Plan_together K A) :=
  fnD_ofStarN Fu sc_Plan_together (fun _ _ _ _ _ _ _ _ => ⟨_, rfl, by with_unfolding_all rfl⟩) (fun _ _ _ _ _ _ _ _ _ rest => by cases rest <;> exact ⟨_, rfl, by with_unfolding_all rfl⟩) fun cdv A0 outer s H U E ds M Qd Ed hr h => ⟨d_Plan_together K A, h_Plan_together T G_Plan___init__ hr, pure_Plan_together T h⟩
theorem ok__law_apart (T : Txt K mg A) (G_Plan_apart : FnD P Wd.w K mg base 3 A.m_Plan_apart (sd_Plan_apart K A)) {fd : FuncData} (Fu : Fun K "_law_apart" "_law_apart" s__law_apart A.f__law_apart fd) : FnOk P Wd.w K mg base (L2.CX P Wd.w) 4 A.f__law_apart fd ["_law_names_here"] (spOf K (sd__law_apart K A)) :=
  fnOk_of Fu sc__law_apart (fun ds M Q E h => len__law_apart h) fun cdv A0 outer s H U E ds M Qd Ed hr h => ⟨d__law_apart K A, h__law_apart T G_Plan_apart hr, pure__law_apart T h⟩
theorem ok__law_together (T : Txt K mg A) (G_Plan_together : FnD P Wd.w K mg base 3 A.m_Plan_together (sd_Plan_together K A)) {fd : FuncData} (Fu : Fun K "_law_together" "_law_together" s__law_together A.f__law_together fd) : FnOk P Wd.w K mg base (L2.CX P Wd.w) 4 A.f__law_together fd ["_law_names_here"] (spOf K (sd__law_together K A)) :=
  fnOk_of Fu sc__law_together (fun ds M Q E h => len__law_together h) fun cdv A0 outer s H U E ds M Qd Ed hr h => ⟨d__law_together K A, h__law_together T G_Plan_together hr, pure__law_together T h⟩
theorem ok__law_is (T : Txt K mg A) (G_Plan___iter__ : IterFn P Wd.w K mg base 1 A.m_Plan___iter__ "_groups") (G_Plan___len__ : FnD P Wd.w K mg base 1 A.m_Plan___len__ (sd_Plan___len__ K A)) (G_Plan_walks : FnD P Wd.w K mg base 1 A.m_Plan_walks (sd_Plan_walks K A)) (G_Plan___contains__ : FnD P Wd.w K mg base 1 A.m_Plan___contains__ (sd_Plan___contains__ K A)) (G_Plan___str__ : FnD P Wd.w K mg base 1 A.m_Plan___str__ (sd_Plan___str__ K A)) {fd : FuncData} (Fu : Fun K "_law_is" "_law_is" s__law_is A.f__law_is fd) : FnOk P Wd.w K mg base (L2.CX P Wd.w) 4 A.f__law_is fd ["_law_plan_here", "_law_groups_here", "_law_names_here"] (spOf K (sd__law_is K A)) :=
  fnOk_of Fu sc__law_is (fun ds M Q E h => len__law_is h) fun cdv A0 outer s H U E ds M Qd Ed hr h => ⟨d__law_is K A, h__law_is T G_Plan___iter__ G_Plan___len__ G_Plan_walks G_Plan___contains__ G_Plan___str__ hr, pure__law_is T h⟩
theorem ok__law_plan (T : Txt K mg A) (G_Plan___add__ : FnD P Wd.w K mg base 3 A.m_Plan___add__ (sd_Plan___add__ K A)) (G_Plan___init__ : FnD P Wd.w K mg base 1 A.m_Plan___init__ (sd_Plan___init__ K A)) {fd : FuncData} (Fu : Fun K "_law_plan" "_law_plan" s__law_plan A.f__law_plan fd) : FnOk P Wd.w K mg base (L2.CX P Wd.w) 5 A.f__law_plan fd ["_law_groups_here"] (spOf K (sd__law_plan K A)) :=
  fnOk_of Fu sc__law_plan (fun ds M Q E h => len__law_plan h) fun cdv A0 outer s H U E ds M Qd Ed hr h => ⟨d__law_plan K A, h__law_plan T G_Plan___add__ G_Plan___init__ hr, pure__law_plan T h⟩
theorem ok_Plan___rmul__ (T : Txt K mg A) (G_Plan___mul__ : FnD P Wd.w K mg base 3 A.m_Plan___mul__ (sd_Plan___mul__ K A)) {fd : FuncData} (Fu : Fun K "__rmul__" "Plan.__rmul__" s_Plan___rmul__ A.m_Plan___rmul__ fd) : FnOk P Wd.w K mg base (L2.CX P Wd.w) 5 A.m_Plan___rmul__ fd ["self", "times"] (spOf K (sd_Plan___rmul__ K A)) :=
  fnOk_of Fu sc_Plan___rmul__ (fun ds M Q E h => len_Plan___rmul__ h) fun cdv A0 outer s H U E ds M Qd Ed hr h => ⟨d_Plan___rmul__ K A, h_Plan___rmul__ T G_Plan___mul__ hr, pure_Plan___rmul__ T h⟩
theorem ok_law (T : Txt K mg A) (G__law_source : FnD P Wd.w K mg base 1 A.f__law_source (sd__law_source K A)) (G__law_names : FnD P Wd.w K mg base 2 A.f__law_names (sd__law_names K A)) (G__law_groups : FnD P Wd.w K mg base 2 A.f__law_groups (sd__law_groups K A)) (G__law_plan : FnD P Wd.w K mg base 5 A.f__law_plan (sd__law_plan K A)) (G__law_draw : FnD P Wd.w K mg base 1 A.f__law_draw (sd__law_draw K A)) (G_Plan___eq__ : FnD P Wd.w K mg base 1 A.m_Plan___eq__ (sd_Plan___eq__ K A)) (G_Plan___add__ : FnD P Wd.w K mg base 3 A.m_Plan___add__ (sd_Plan___add__ K A)) (G__law_is : FnD P Wd.w K mg base 4 A.f__law_is (sd__law_is K A)) (G_Plan___or__ : FnD P Wd.w K mg base 3 A.m_Plan___or__ (sd_Plan___or__ K A)) (G_Plan___mul__ : FnD P Wd.w K mg base 3 A.m_Plan___mul__ (sd_Plan___mul__ K A)) (G_Plan___rmul__ : FnD P Wd.w K mg base 5 A.m_Plan___rmul__ (sd_Plan___rmul__ K A)) (G__law_apart : FnD P Wd.w K mg base 4 A.f__law_apart (sd__law_apart K A)) (G__law_together : FnD P Wd.w K mg base 4 A.f__law_together (sd__law_together K A)) (G_Plan___init__ : FnD P Wd.w K mg base 1 A.m_Plan___init__ (sd_Plan___init__ K A)) {fd : FuncData} (Fu : Fun K "law" "law" s_law A.f_law fd) : FnOk P Wd.w K mg base (L2.CX P Wd.w) 7 A.f_law fd ["_law_script"] (spOf K (sd_law K A)) :=
  fnOk_of Fu sc_law (fun ds M Q E h => len_law h) fun cdv A0 outer s H U E ds M Qd Ed hr h => ⟨d_law K A, h_law T G__law_source G__law_names G__law_groups G__law_plan G__law_draw G_Plan___eq__ G_Plan___add__ G__law_is G_Plan___or__ G_Plan___mul__ G_Plan___rmul__ G__law_apart G__law_together G_Plan___init__ hr, pure_law T h⟩
/-- the defs of the text and how they are called -/
structure Defs (K : PySem.W.Frag) (A : Ad) : Prop where
  fu__law_source : ∃ fd, Fun K "_law_source" "_law_source" s__law_source A.f__law_source fd ∧ Binds K fd ["_law_script"] []
  fu__law_draw : ∃ fd, Fun K "_law_draw" "_law_draw" s__law_draw A.f__law_draw fd ∧ Binds K fd ["_law_source_here", "_law_many"] []
  fu_Plan___init__ : ∃ fd, Fun K "__init__" "Plan.__init__" s_Plan___init__ A.m_Plan___init__ fd
  fu_Plan___iter__ : ∃ fd, Fun K "__iter__" "Plan.__iter__" s_Plan___iter__ A.m_Plan___iter__ fd ∧ Binds K fd ["self"] []
  fu_Plan___len__ : ∃ fd, Fun K "__len__" "Plan.__len__" s_Plan___len__ A.m_Plan___len__ fd ∧ Binds K fd ["self"] []
  fu_Plan___contains__ : ∃ fd, Fun K "__contains__" "Plan.__contains__" s_Plan___contains__ A.m_Plan___contains__ fd ∧ Binds K fd ["self", "name"] []
  fu_Plan___eq__ : ∃ fd, Fun K "__eq__" "Plan.__eq__" s_Plan___eq__ A.m_Plan___eq__ fd ∧ Binds K fd ["self", "other"] []
  fu_Plan___str__ : ∃ fd, Fun K "__str__" "Plan.__str__" s_Plan___str__ A.m_Plan___str__ fd ∧ Binds K fd ["self"] []
  fu_Plan_walks : ∃ fd, Fun K "walks" "Plan.walks" s_Plan_walks A.m_Plan_walks fd ∧ Binds K fd ["self"] []
  fu__law_names : ∃ fd, Fun K "_law_names" "_law_names" s__law_names A.f__law_names fd ∧ Binds K fd ["_law_source_here", "_law_count"] []
  fu__law_groups : ∃ fd, Fun K "_law_groups" "_law_groups" s__law_groups A.f__law_groups fd ∧ Binds K fd ["_law_source_here", "_law_names_here"] []
  fu_Plan___add__ : ∃ fd, Fun K "__add__" "Plan.__add__" s_Plan___add__ A.m_Plan___add__ fd ∧ Binds K fd ["self", "other"] []
  fu_Plan___or__ : ∃ fd, Fun K "__or__" "Plan.__or__" s_Plan___or__ A.m_Plan___or__ fd ∧ Binds K fd ["self", "other"] []
  fu_Plan___mul__ : ∃ fd, Fun K "__mul__" "Plan.__mul__" s_Plan___mul__ A.m_Plan___mul__ fd ∧ Binds K fd ["self", "times"] []
  fu_Plan_apart : ∃ fd, FunD K "apart" "Plan.apart" (defArgs s_Plan_apart) (defBody s_Plan_apart) (defScope s_Plan_apart) [V.non] [] A.m_Plan_apart fd
  fu_Plan_together : ∃ fd, FunD K "together" "Plan.together" (defArgs s_Plan_together) (defBody s_Plan_together) (defScope s_Plan_together) [V.non] [] A.m_Plan_together fd
  fu__law_apart : ∃ fd, Fun K "_law_apart" "_law_apart" s__law_apart A.f__law_apart fd ∧ Binds K fd ["_law_names_here"] []
  fu__law_together : ∃ fd, Fun K "_law_together" "_law_together" s__law_together A.f__law_together fd ∧ Binds K fd ["_law_names_here"] []
  fu__law_is : ∃ fd, Fun K "_law_is" "_law_is" s__law_is A.f__law_is fd ∧ Binds K fd ["_law_plan_here", "_law_groups_here", "_law_names_here"] []
  fu__law_plan : ∃ fd, Fun K "_law_plan" "_law_plan" s__law_plan A.f__law_plan fd ∧ Binds K fd ["_law_groups_here"] []
  fu_Plan___rmul__ : ∃ fd, Fun K "__rmul__" "Plan.__rmul__" s_Plan___rmul__ A.m_Plan___rmul__ fd ∧ Binds K fd ["self", "times"] []
theorem all_ok (T : Txt K mg A) (Ds : Defs K A) {fd : FuncData} (u_law : Fun K "law" "law" s_law A.f_law fd) : FnOk P Wd.w K mg base (L2.CX P Wd.w) 7 A.f_law fd ["_law_script"] (spOf K (sd_law K A)) := by
  obtain ⟨fd__law_source, u__law_source, b__law_source⟩ := Ds.fu__law_source
  have G__law_source := DL.FnOk.fnD (ok__law_source (P := P) (base := base) T u__law_source) b__law_source
  obtain ⟨fd__law_draw, u__law_draw, b__law_draw⟩ := Ds.fu__law_draw
  have G__law_draw := DL.FnOk.fnD (ok__law_draw (P := P) (base := base) T u__law_draw) b__law_draw
  obtain ⟨fd_Plan___init__, u_Plan___init__⟩ := Ds.fu_Plan___init__
  have G_Plan___init__ := ok_Plan___init__ (P := P) (base := base) T u_Plan___init__
  obtain ⟨fd_Plan___iter__, u_Plan___iter__, b_Plan___iter__⟩ := Ds.fu_Plan___iter__
  have G_Plan___iter__ := ok_Plan___iter__ (P := P) (base := base) T u_Plan___iter__ b_Plan___iter__
  obtain ⟨fd_Plan___len__, u_Plan___len__, b_Plan___len__⟩ := Ds.fu_Plan___len__
  have G_Plan___len__ := DL.FnOk.fnD (ok_Plan___len__ (P := P) (base := base) T u_Plan___len__) b_Plan___len__
  obtain ⟨fd_Plan___contains__, u_Plan___contains__, b_Plan___contains__⟩ := Ds.fu_Plan___contains__
  have G_Plan___contains__ := DL.FnOk.fnD (ok_Plan___contains__ (P := P) (base := base) T u_Plan___contains__) b_Plan___contains__
  obtain ⟨fd_Plan___eq__, u_Plan___eq__, b_Plan___eq__⟩ := Ds.fu_Plan___eq__
  have G_Plan___eq__ := DL.FnOk.fnD (ok_Plan___eq__ (P := P) (base := base) T u_Plan___eq__) b_Plan___eq__
  obtain ⟨fd_Plan___str__, u_Plan___str__, b_Plan___str__⟩ := Ds.fu_Plan___str__
  have G_Plan___str__ := DL.FnOk.fnD (ok_Plan___str__ (P := P) (base := base) T u_Plan___str__) b_Plan___str__
  obtain ⟨fd_Plan_walks, u_Plan_walks, b_Plan_walks⟩ := Ds.fu_Plan_walks
  have G_Plan_walks := DL.FnOk.fnD (ok_Plan_walks (P := P) (base := base) T u_Plan_walks) b_Plan_walks
  obtain ⟨fd__law_names, u__law_names, b__law_names⟩ := Ds.fu__law_names
  have G__law_names := DL.FnOk.fnD (ok__law_names (P := P) (base := base) T G__law_draw u__law_names) b__law_names
  obtain ⟨fd__law_groups, u__law_groups, b__law_groups⟩ := Ds.fu__law_groups
  have G__law_groups := DL.FnOk.fnD (ok__law_groups (P := P) (base := base) T G__law_draw u__law_groups) b__law_groups
  obtain ⟨fd_Plan___add__, u_Plan___add__, b_Plan___add__⟩ := Ds.fu_Plan___add__
  have G_Plan___add__ := DL.FnOk.fnD (ok_Plan___add__ (P := P) (base := base) T G_Plan___init__ u_Plan___add__) b_Plan___add__
  obtain ⟨fd_Plan___or__, u_Plan___or__, b_Plan___or__⟩ := Ds.fu_Plan___or__
  have G_Plan___or__ := DL.FnOk.fnD (ok_Plan___or__ (P := P) (base := base) T G_Plan_walks G_Plan___init__ u_Plan___or__) b_Plan___or__
  obtain ⟨fd_Plan___mul__, u_Plan___mul__, b_Plan___mul__⟩ := Ds.fu_Plan___mul__
  have G_Plan___mul__ := DL.FnOk.fnD (ok_Plan___mul__ (P := P) (base := base) T G_Plan___init__ u_Plan___mul__) b_Plan___mul__
  obtain ⟨fd_Plan_apart, u_Plan_apart⟩ := Ds.fu_Plan_apart
  have G_Plan_apart := ok_Plan_apart (P := P) (base := base) T G_Plan___init__ u_Plan_apart
  obtain ⟨fd_Plan_together, u_Plan_together⟩ := Ds.fu_Plan_together
  have G_Plan_together := ok_Plan_together (P := P) (base := base) T G_Plan___init__ u_Plan_together
  obtain ⟨fd__law_apart, u__law_apart, b__law_apart⟩ := Ds.fu__law_apart
  have G__law_apart := DL.FnOk.fnD (ok__law_apart (P := P) (base := base) T G_Plan_apart u__law_apart) b__law_apart
  obtain ⟨fd__law_together, u__law_together, b__law_together⟩ := Ds.fu__law_together
  have G__law_together := DL.FnOk.fnD (ok__law_together (P := P) (base := base) T G_Plan_together u__law_together) b__law_together
  obtain ⟨fd__law_is, u__law_is, b__law_is⟩ := Ds.fu__law_is
  have G__law_is := DL.FnOk.fnD (ok__law_is (P := P) (base := base) T G_Plan___iter__ G_Plan___len__ G_Plan_walks G_Plan___contains__ G_Plan___str__ u__law_is) b__law_is
  obtain ⟨fd__law_plan, u__law_plan, b__law_plan⟩ := Ds.fu__law_plan
  have G__law_plan := DL.FnOk.fnD (ok__law_plan (P := P) (base := base) T G_Plan___add__ G_Plan___init__ u__law_plan) b__law_plan
  obtain ⟨fd_Plan___rmul__, u_Plan___rmul__, b_Plan___rmul__⟩ := Ds.fu_Plan___rmul__
  have G_Plan___rmul__ := DL.FnOk.fnD (ok_Plan___rmul__ (P := P) (base := base) T G_Plan___mul__ u_Plan___rmul__) b_Plan___rmul__
  exact ok_law T G__law_source G__law_names G__law_groups G__law_plan G__law_draw G_Plan___eq__ G_Plan___add__ G__law_is G_Plan___or__ G_Plan___mul__ G_Plan___rmul__ G__law_apart G__law_together G_Plan___init__ u_law
end
theorem all_mk {P : Program} {K : PySem.W.Frag} {h : Heap} {mg : Str → Option Value} {fa : Addr} (X : K.In h) (G : h.Ns mainGlobals mg) (hfa : mg "law" = some (.ref fa))
    {c_Plan : Addr} {f__law_source : Addr} {f__law_draw : Addr} {m_Plan___init__ : Addr} {m_Plan___iter__ : Addr} {m_Plan___len__ : Addr} {m_Plan___contains__ : Addr} {m_Plan___eq__ : Addr} {m_Plan___str__ : Addr} {m_Plan_walks : Addr} {f__law_names : Addr} {f__law_groups : Addr} {m_Plan___add__ : Addr} {m_Plan___or__ : Addr} {m_Plan___mul__ : Addr} {m_Plan_apart : Addr} {m_Plan_together : Addr} {f__law_apart : Addr} {f__law_together : Addr} {f__law_is : Addr} {f__law_plan : Addr} {m_Plan___rmul__ : Addr} {f_law : Addr} {p_Plan_walks : Addr} {re_p_Plan_walks : List Value} {oc__law_source : Value} {doc__law_source : Value} {pm__law_source : Value} {cd__law_source : Value} {ct__law_source : Value} {kV__law_source : Value} {od__law_source an__law_source : Option Addr} {sl__law_source : Array (Option Value)} {oc__law_draw : Value} {doc__law_draw : Value} {pm__law_draw : Value} {cd__law_draw : Value} {ct__law_draw : Value} {kV__law_draw : Value} {od__law_draw an__law_draw : Option Addr} {sl__law_draw : Array (Option Value)} {oc_Plan___init__ : Value} {doc_Plan___init__ : Value} {pm_Plan___init__ : Value} {cd_Plan___init__ : Value} {ct_Plan___init__ : Value} {kV_Plan___init__ : Value} {od_Plan___init__ an_Plan___init__ : Option Addr} {sl_Plan___init__ : Array (Option Value)} {oc_Plan___iter__ : Value} {doc_Plan___iter__ : Value} {pm_Plan___iter__ : Value} {cd_Plan___iter__ : Value} {ct_Plan___iter__ : Value} {kV_Plan___iter__ : Value} {od_Plan___iter__ an_Plan___iter__ : Option Addr} {sl_Plan___iter__ : Array (Option Value)} {oc_Plan___len__ : Value} {doc_Plan___len__ : Value} {pm_Plan___len__ : Value} {cd_Plan___len__ : Value} {ct_Plan___len__ : Value} {kV_Plan___len__ : Value} {od_Plan___len__ an_Plan___len__ : Option Addr} {sl_Plan___len__ : Array (Option Value)} {oc_Plan___contains__ : Value} {doc_Plan___contains__ : Value} {pm_Plan___contains__ : Value} {cd_Plan___contains__ : Value} {ct_Plan___contains__ : Value} {kV_Plan___contains__ : Value} {od_Plan___contains__ an_Plan___contains__ : Option Addr} {sl_Plan___contains__ : Array (Option Value)} {oc_Plan___eq__ : Value} {doc_Plan___eq__ : Value} {pm_Plan___eq__ : Value} {cd_Plan___eq__ : Value} {ct_Plan___eq__ : Value} {kV_Plan___eq__ : Value} {od_Plan___eq__ an_Plan___eq__ : Option Addr} {sl_Plan___eq__ : Array (Option Value)} {oc_Plan___str__ : Value} {doc_Plan___str__ : Value} {pm_Plan___str__ : Value} {cd_Plan___str__ : Value} {ct_Plan___str__ : Value} {kV_Plan___str__ : Value} {od_Plan___str__ an_Plan___str__ : Option Addr} {sl_Plan___str__ : Array (Option Value)} {oc_Plan_walks : Value} {doc_Plan_walks : Value} {pm_Plan_walks : Value} {cd_Plan_walks : Value} {ct_Plan_walks : Value} {kV_Plan_walks : Value} {od_Plan_walks an_Plan_walks : Option Addr} {sl_Plan_walks : Array (Option Value)} {oc__law_names : Value} {doc__law_names : Value} {pm__law_names : Value} {cd__law_names : Value} {ct__law_names : Value} {kV__law_names : Value} {od__law_names an__law_names : Option Addr} {sl__law_names : Array (Option Value)} {oc__law_groups : Value} {doc__law_groups : Value} {pm__law_groups : Value} {cd__law_groups : Value} {ct__law_groups : Value} {kV__law_groups : Value} {od__law_groups an__law_groups : Option Addr} {sl__law_groups : Array (Option Value)} {oc_Plan___add__ : Value} {doc_Plan___add__ : Value} {pm_Plan___add__ : Value} {cd_Plan___add__ : Value} {ct_Plan___add__ : Value} {kV_Plan___add__ : Value} {od_Plan___add__ an_Plan___add__ : Option Addr} {sl_Plan___add__ : Array (Option Value)} {oc_Plan___or__ : Value} {doc_Plan___or__ : Value} {pm_Plan___or__ : Value} {cd_Plan___or__ : Value} {ct_Plan___or__ : Value} {kV_Plan___or__ : Value} {od_Plan___or__ an_Plan___or__ : Option Addr} {sl_Plan___or__ : Array (Option Value)} {oc_Plan___mul__ : Value} {doc_Plan___mul__ : Value} {pm_Plan___mul__ : Value} {cd_Plan___mul__ : Value} {ct_Plan___mul__ : Value} {kV_Plan___mul__ : Value} {od_Plan___mul__ an_Plan___mul__ : Option Addr} {sl_Plan___mul__ : Array (Option Value)} {q_Plan_apart : Addr} {sq_Plan_apart : List Value} {oc_Plan_apart : Value} {doc_Plan_apart : Value} {pm_Plan_apart : Value} {cd_Plan_apart : Value} {ct_Plan_apart : Value} {kV_Plan_apart ko_Plan_apart : Value} {kt_Plan_apart : Addr} {kn_Plan_apart : Nat} {kx_Plan_apart : Option Addr} {ks_Plan_apart : Array (Option Value)} {od_Plan_apart an_Plan_apart : Option Addr} {sl_Plan_apart : Array (Option Value)} {q_Plan_together : Addr} {sq_Plan_together : List Value} {oc_Plan_together : Value} {doc_Plan_together : Value} {pm_Plan_together : Value} {cd_Plan_together : Value} {ct_Plan_together : Value} {kV_Plan_together ko_Plan_together : Value} {kt_Plan_together : Addr} {kn_Plan_together : Nat} {kx_Plan_together : Option Addr} {ks_Plan_together : Array (Option Value)} {od_Plan_together an_Plan_together : Option Addr} {sl_Plan_together : Array (Option Value)} {oc__law_apart : Value} {doc__law_apart : Value} {pm__law_apart : Value} {cd__law_apart : Value} {ct__law_apart : Value} {kV__law_apart : Value} {od__law_apart an__law_apart : Option Addr} {sl__law_apart : Array (Option Value)} {oc__law_together : Value} {doc__law_together : Value} {pm__law_together : Value} {cd__law_together : Value} {ct__law_together : Value} {kV__law_together : Value} {od__law_together an__law_together : Option Addr} {sl__law_together : Array (Option Value)} {oc__law_is : Value} {doc__law_is : Value} {pm__law_is : Value} {cd__law_is : Value} {ct__law_is : Value} {kV__law_is : Value} {od__law_is an__law_is : Option Addr} {sl__law_is : Array (Option Value)} {oc__law_plan : Value} {doc__law_plan : Value} {pm__law_plan : Value} {cd__law_plan : Value} {ct__law_plan : Value} {kV__law_plan : Value} {od__law_plan an__law_plan : Option Addr} {sl__law_plan : Array (Option Value)} {oc_Plan___rmul__ : Value} {doc_Plan___rmul__ : Value} {pm_Plan___rmul__ : Value} {cd_Plan___rmul__ : Value} {ct_Plan___rmul__ : Value} {kV_Plan___rmul__ : Value} {od_Plan___rmul__ an_Plan___rmul__ : Option Addr} {sl_Plan___rmul__ : Array (Option Value)} {oc_law : Value} {doc_law : Value} {pm_law : Value} {cd_law : Value} {ct_law : Value} {kV_law : Value} {od_law an_law : Option Addr} {sl_law : Array (Option Value)} {im_mul : Option Value} {im_rmul : Option Value}
    (a_Plan : PySem.W.nsIn K mainGlobals "Plan" = some (some (.ref c_Plan)))
    (pf_p_Plan_walks : PySem.W.findIn K (.ref c_Plan) "walks" = some (some (.ref p_Plan_walks)))
    (pc_p_Plan_walks : PySem.W.recIn K p_Plan_walks "property" = some ((.ref m_Plan_walks) :: re_p_Plan_walks))
    (a__law_source : PySem.W.nsIn K mainGlobals "_law_source" = some (some (.ref f__law_source)))
    (l__law_source : K.lookup f__law_source = some ⟨oc__law_source, od__law_source, .func (PySem.W.fnOf "_law_source" "_law_source" (defArgs s__law_source) (defBody s__law_source) (defScope s__law_source) .none kV__law_source doc__law_source pm__law_source an__law_source cd__law_source ct__law_source), sl__law_source⟩)
    (cc__law_source : PySem.W.codeIn K cd__law_source "_law_source" = true)
    (kk__law_source : PySem.W.keepIn K (.ref f__law_source) = true)
    (a__law_draw : PySem.W.nsIn K mainGlobals "_law_draw" = some (some (.ref f__law_draw)))
    (l__law_draw : K.lookup f__law_draw = some ⟨oc__law_draw, od__law_draw, .func (PySem.W.fnOf "_law_draw" "_law_draw" (defArgs s__law_draw) (defBody s__law_draw) (defScope s__law_draw) .none kV__law_draw doc__law_draw pm__law_draw an__law_draw cd__law_draw ct__law_draw), sl__law_draw⟩)
    (cc__law_draw : PySem.W.codeIn K cd__law_draw "_law_draw" = true)
    (kk__law_draw : PySem.W.keepIn K (.ref f__law_draw) = true)
    (a_Plan___init__ : PySem.W.findIn K (.ref c_Plan) "__init__" = some (some (.ref m_Plan___init__)))
    (l_Plan___init__ : K.lookup m_Plan___init__ = some ⟨oc_Plan___init__, od_Plan___init__, .func (PySem.W.fnOf "__init__" "Plan.__init__" (defArgs s_Plan___init__) (defBody s_Plan___init__) (defScope s_Plan___init__) .none kV_Plan___init__ doc_Plan___init__ pm_Plan___init__ an_Plan___init__ cd_Plan___init__ ct_Plan___init__), sl_Plan___init__⟩)
    (cc_Plan___init__ : PySem.W.codeIn K cd_Plan___init__ "Plan.__init__" = true)
    (kk_Plan___init__ : PySem.W.keepIn K (.ref m_Plan___init__) = true)
    (a_Plan___iter__ : PySem.W.findIn K (.ref c_Plan) "__iter__" = some (some (.ref m_Plan___iter__)))
    (l_Plan___iter__ : K.lookup m_Plan___iter__ = some ⟨oc_Plan___iter__, od_Plan___iter__, .func (PySem.W.fnOf "__iter__" "Plan.__iter__" (defArgs s_Plan___iter__) (defBody s_Plan___iter__) (defScope s_Plan___iter__) .none kV_Plan___iter__ doc_Plan___iter__ pm_Plan___iter__ an_Plan___iter__ cd_Plan___iter__ ct_Plan___iter__), sl_Plan___iter__⟩)
    (cc_Plan___iter__ : PySem.W.codeIn K cd_Plan___iter__ "Plan.__iter__" = true)
    (kk_Plan___iter__ : PySem.W.keepIn K (.ref m_Plan___iter__) = true)
    (a_Plan___len__ : PySem.W.findIn K (.ref c_Plan) "__len__" = some (some (.ref m_Plan___len__)))
    (l_Plan___len__ : K.lookup m_Plan___len__ = some ⟨oc_Plan___len__, od_Plan___len__, .func (PySem.W.fnOf "__len__" "Plan.__len__" (defArgs s_Plan___len__) (defBody s_Plan___len__) (defScope s_Plan___len__) .none kV_Plan___len__ doc_Plan___len__ pm_Plan___len__ an_Plan___len__ cd_Plan___len__ ct_Plan___len__), sl_Plan___len__⟩)
    (cc_Plan___len__ : PySem.W.codeIn K cd_Plan___len__ "Plan.__len__" = true)
    (kk_Plan___len__ : PySem.W.keepIn K (.ref m_Plan___len__) = true)
    (a_Plan___contains__ : PySem.W.findIn K (.ref c_Plan) "__contains__" = some (some (.ref m_Plan___contains__)))
    (l_Plan___contains__ : K.lookup m_Plan___contains__ = some ⟨oc_Plan___contains__, od_Plan___contains__, .func (PySem.W.fnOf "__contains__" "Plan.__contains__" (defArgs s_Plan___contains__) (defBody s_Plan___contains__) (defScope s_Plan___contains__) .none kV_Plan___contains__ doc_Plan___contains__ pm_Plan___contains__ an_Plan___contains__ cd_Plan___contains__ ct_Plan___contains__), sl_Plan___contains__⟩)
    (cc_Plan___contains__ : PySem.W.codeIn K cd_Plan___contains__ "Plan.__contains__" = true)
    (kk_Plan___contains__ : PySem.W.keepIn K (.ref m_Plan___contains__) = true)
    (a_Plan___eq__ : PySem.W.findIn K (.ref c_Plan) "__eq__" = some (some (.ref m_Plan___eq__)))
    (l_Plan___eq__ : K.lookup m_Plan___eq__ = some ⟨oc_Plan___eq__, od_Plan___eq__, .func (PySem.W.fnOf "__eq__" "Plan.__eq__" (defArgs s_Plan___eq__) (defBody s_Plan___eq__) (defScope s_Plan___eq__) .none kV_Plan___eq__ doc_Plan___eq__ pm_Plan___eq__ an_Plan___eq__ cd_Plan___eq__ ct_Plan___eq__), sl_Plan___eq__⟩)
    (cc_Plan___eq__ : PySem.W.codeIn K cd_Plan___eq__ "Plan.__eq__" = true)
    (kk_Plan___eq__ : PySem.W.keepIn K (.ref m_Plan___eq__) = true)
    (a_Plan___str__ : PySem.W.findIn K (.ref c_Plan) "__str__" = some (some (.ref m_Plan___str__)))
    (l_Plan___str__ : K.lookup m_Plan___str__ = some ⟨oc_Plan___str__, od_Plan___str__, .func (PySem.W.fnOf "__str__" "Plan.__str__" (defArgs s_Plan___str__) (defBody s_Plan___str__) (defScope s_Plan___str__) .none kV_Plan___str__ doc_Plan___str__ pm_Plan___str__ an_Plan___str__ cd_Plan___str__ ct_Plan___str__), sl_Plan___str__⟩)
    (cc_Plan___str__ : PySem.W.codeIn K cd_Plan___str__ "Plan.__str__" = true)
    (kk_Plan___str__ : PySem.W.keepIn K (.ref m_Plan___str__) = true)
    (l_Plan_walks : K.lookup m_Plan_walks = some ⟨oc_Plan_walks, od_Plan_walks, .func (PySem.W.fnOf "walks" "Plan.walks" (defArgs s_Plan_walks) (defBody s_Plan_walks) (defScope s_Plan_walks) .none kV_Plan_walks doc_Plan_walks pm_Plan_walks an_Plan_walks cd_Plan_walks ct_Plan_walks), sl_Plan_walks⟩)
    (cc_Plan_walks : PySem.W.codeIn K cd_Plan_walks "Plan.walks" = true)
    (kk_Plan_walks : PySem.W.keepIn K (.ref m_Plan_walks) = true)
    (a__law_names : PySem.W.nsIn K mainGlobals "_law_names" = some (some (.ref f__law_names)))
    (l__law_names : K.lookup f__law_names = some ⟨oc__law_names, od__law_names, .func (PySem.W.fnOf "_law_names" "_law_names" (defArgs s__law_names) (defBody s__law_names) (defScope s__law_names) .none kV__law_names doc__law_names pm__law_names an__law_names cd__law_names ct__law_names), sl__law_names⟩)
    (cc__law_names : PySem.W.codeIn K cd__law_names "_law_names" = true)
    (kk__law_names : PySem.W.keepIn K (.ref f__law_names) = true)
    (a__law_groups : PySem.W.nsIn K mainGlobals "_law_groups" = some (some (.ref f__law_groups)))
    (l__law_groups : K.lookup f__law_groups = some ⟨oc__law_groups, od__law_groups, .func (PySem.W.fnOf "_law_groups" "_law_groups" (defArgs s__law_groups) (defBody s__law_groups) (defScope s__law_groups) .none kV__law_groups doc__law_groups pm__law_groups an__law_groups cd__law_groups ct__law_groups), sl__law_groups⟩)
    (cc__law_groups : PySem.W.codeIn K cd__law_groups "_law_groups" = true)
    (kk__law_groups : PySem.W.keepIn K (.ref f__law_groups) = true)
    (a_Plan___add__ : PySem.W.findIn K (.ref c_Plan) "__add__" = some (some (.ref m_Plan___add__)))
    (l_Plan___add__ : K.lookup m_Plan___add__ = some ⟨oc_Plan___add__, od_Plan___add__, .func (PySem.W.fnOf "__add__" "Plan.__add__" (defArgs s_Plan___add__) (defBody s_Plan___add__) (defScope s_Plan___add__) .none kV_Plan___add__ doc_Plan___add__ pm_Plan___add__ an_Plan___add__ cd_Plan___add__ ct_Plan___add__), sl_Plan___add__⟩)
    (cc_Plan___add__ : PySem.W.codeIn K cd_Plan___add__ "Plan.__add__" = true)
    (kk_Plan___add__ : PySem.W.keepIn K (.ref m_Plan___add__) = true)
    (a_Plan___or__ : PySem.W.findIn K (.ref c_Plan) "__or__" = some (some (.ref m_Plan___or__)))
    (l_Plan___or__ : K.lookup m_Plan___or__ = some ⟨oc_Plan___or__, od_Plan___or__, .func (PySem.W.fnOf "__or__" "Plan.__or__" (defArgs s_Plan___or__) (defBody s_Plan___or__) (defScope s_Plan___or__) .none kV_Plan___or__ doc_Plan___or__ pm_Plan___or__ an_Plan___or__ cd_Plan___or__ ct_Plan___or__), sl_Plan___or__⟩)
    (cc_Plan___or__ : PySem.W.codeIn K cd_Plan___or__ "Plan.__or__" = true)
    (kk_Plan___or__ : PySem.W.keepIn K (.ref m_Plan___or__) = true)
    (a_Plan___mul__ : PySem.W.findIn K (.ref c_Plan) "__mul__" = some (some (.ref m_Plan___mul__)))
    (l_Plan___mul__ : K.lookup m_Plan___mul__ = some ⟨oc_Plan___mul__, od_Plan___mul__, .func (PySem.W.fnOf "__mul__" "Plan.__mul__" (defArgs s_Plan___mul__) (defBody s_Plan___mul__) (defScope s_Plan___mul__) .none kV_Plan___mul__ doc_Plan___mul__ pm_Plan___mul__ an_Plan___mul__ cd_Plan___mul__ ct_Plan___mul__), sl_Plan___mul__⟩)
    (cc_Plan___mul__ : PySem.W.codeIn K cd_Plan___mul__ "Plan.__mul__" = true)
    (kk_Plan___mul__ : PySem.W.keepIn K (.ref m_Plan___mul__) = true)
    (sm_Plan_apart : PySem.W.findCls K (.ref c_Plan) (.type "type") "apart" = some (.get (.builtin "staticmethod.__get__") (.ref q_Plan_apart) .none (.ref c_Plan)))
    (sr_Plan_apart : PySem.W.recIn K q_Plan_apart "staticmethod" = some (.ref m_Plan_apart :: sq_Plan_apart))
    (l_Plan_apart : K.lookup m_Plan_apart = some ⟨oc_Plan_apart, od_Plan_apart, .func (PySem.W.fnOf "apart" "Plan.apart" (defArgs s_Plan_apart) (defBody s_Plan_apart) (defScope s_Plan_apart) (.ref kt_Plan_apart) kV_Plan_apart doc_Plan_apart pm_Plan_apart an_Plan_apart cd_Plan_apart ct_Plan_apart), sl_Plan_apart⟩)
    (cc_Plan_apart : PySem.W.codeIn K cd_Plan_apart "Plan.apart" = true)
    (kk_Plan_apart : PySem.W.keepIn K (.ref m_Plan_apart) = true)
    (kl_Plan_apart : K.lookup kt_Plan_apart = some ⟨ko_Plan_apart, kx_Plan_apart, .seq #[.none] kn_Plan_apart, ks_Plan_apart⟩)
    (sm_Plan_together : PySem.W.findCls K (.ref c_Plan) (.type "type") "together" = some (.get (.builtin "staticmethod.__get__") (.ref q_Plan_together) .none (.ref c_Plan)))
    (sr_Plan_together : PySem.W.recIn K q_Plan_together "staticmethod" = some (.ref m_Plan_together :: sq_Plan_together))
    (l_Plan_together : K.lookup m_Plan_together = some ⟨oc_Plan_together, od_Plan_together, .func (PySem.W.fnOf "together" "Plan.together" (defArgs s_Plan_together) (defBody s_Plan_together) (defScope s_Plan_together) (.ref kt_Plan_together) kV_Plan_together doc_Plan_together pm_Plan_together an_Plan_together cd_Plan_together ct_Plan_together), sl_Plan_together⟩)
    (cc_Plan_together : PySem.W.codeIn K cd_Plan_together "Plan.together" = true)
    (kk_Plan_together : PySem.W.keepIn K (.ref m_Plan_together) = true)
    (kl_Plan_together : K.lookup kt_Plan_together = some ⟨ko_Plan_together, kx_Plan_together, .seq #[.none] kn_Plan_together, ks_Plan_together⟩)
    (a__law_apart : PySem.W.nsIn K mainGlobals "_law_apart" = some (some (.ref f__law_apart)))
    (l__law_apart : K.lookup f__law_apart = some ⟨oc__law_apart, od__law_apart, .func (PySem.W.fnOf "_law_apart" "_law_apart" (defArgs s__law_apart) (defBody s__law_apart) (defScope s__law_apart) .none kV__law_apart doc__law_apart pm__law_apart an__law_apart cd__law_apart ct__law_apart), sl__law_apart⟩)
    (cc__law_apart : PySem.W.codeIn K cd__law_apart "_law_apart" = true)
    (kk__law_apart : PySem.W.keepIn K (.ref f__law_apart) = true)
    (a__law_together : PySem.W.nsIn K mainGlobals "_law_together" = some (some (.ref f__law_together)))
    (l__law_together : K.lookup f__law_together = some ⟨oc__law_together, od__law_together, .func (PySem.W.fnOf "_law_together" "_law_together" (defArgs s__law_together) (defBody s__law_together) (defScope s__law_together) .none kV__law_together doc__law_together pm__law_together an__law_together cd__law_together ct__law_together), sl__law_together⟩)
    (cc__law_together : PySem.W.codeIn K cd__law_together "_law_together" = true)
    (kk__law_together : PySem.W.keepIn K (.ref f__law_together) = true)
    (a__law_is : PySem.W.nsIn K mainGlobals "_law_is" = some (some (.ref f__law_is)))
    (l__law_is : K.lookup f__law_is = some ⟨oc__law_is, od__law_is, .func (PySem.W.fnOf "_law_is" "_law_is" (defArgs s__law_is) (defBody s__law_is) (defScope s__law_is) .none kV__law_is doc__law_is pm__law_is an__law_is cd__law_is ct__law_is), sl__law_is⟩)
    (cc__law_is : PySem.W.codeIn K cd__law_is "_law_is" = true)
    (kk__law_is : PySem.W.keepIn K (.ref f__law_is) = true)
    (a__law_plan : PySem.W.nsIn K mainGlobals "_law_plan" = some (some (.ref f__law_plan)))
    (l__law_plan : K.lookup f__law_plan = some ⟨oc__law_plan, od__law_plan, .func (PySem.W.fnOf "_law_plan" "_law_plan" (defArgs s__law_plan) (defBody s__law_plan) (defScope s__law_plan) .none kV__law_plan doc__law_plan pm__law_plan an__law_plan cd__law_plan ct__law_plan), sl__law_plan⟩)
    (cc__law_plan : PySem.W.codeIn K cd__law_plan "_law_plan" = true)
    (kk__law_plan : PySem.W.keepIn K (.ref f__law_plan) = true)
    (a_Plan___rmul__ : PySem.W.findIn K (.ref c_Plan) "__rmul__" = some (some (.ref m_Plan___rmul__)))
    (l_Plan___rmul__ : K.lookup m_Plan___rmul__ = some ⟨oc_Plan___rmul__, od_Plan___rmul__, .func (PySem.W.fnOf "__rmul__" "Plan.__rmul__" (defArgs s_Plan___rmul__) (defBody s_Plan___rmul__) (defScope s_Plan___rmul__) .none kV_Plan___rmul__ doc_Plan___rmul__ pm_Plan___rmul__ an_Plan___rmul__ cd_Plan___rmul__ ct_Plan___rmul__), sl_Plan___rmul__⟩)
    (cc_Plan___rmul__ : PySem.W.codeIn K cd_Plan___rmul__ "Plan.__rmul__" = true)
    (kk_Plan___rmul__ : PySem.W.keepIn K (.ref m_Plan___rmul__) = true)
    (a_law : PySem.W.nsIn K mainGlobals "law" = some (some (.ref f_law)))
    (l_law : K.lookup f_law = some ⟨oc_law, od_law, .func (PySem.W.fnOf "law" "law" (defArgs s_law) (defBody s_law) (defScope s_law) .none kV_law doc_law pm_law an_law cd_law ct_law), sl_law⟩)
    (cc_law : PySem.W.codeIn K cd_law "law" = true)
    (kk_law : PySem.W.keepIn K (.ref f_law) = true)
    (pg_Plan : PySem.W.plainGet K c_Plan Str.empty = true)
    (hd_Plan : PySem.W.hasDictIn K c_Plan = true)
    (po_Plan : PySem.W.plainOver K c_Plan = true)
    (sa_Plan : PySem.W.findIn K (.ref c_Plan) "__setattr__" = some (some (.builtin "object.__setattr__")))
    (mk_Plan : PySem.W.makesIn K c_Plan = true)
    (hk_Plan : PySem.W.keepIn K (.ref c_Plan) = true)
    (if_Plan___init__ : PySem.W.isFn K (.ref m_Plan___init__) = true)
    (rd_Plan : PySem.W.readsIn K c_Plan (.type "type") = true)
    (ga_Plan : PySem.W.specialIn K (.ref c_Plan) "__getattribute__" = some (some (.builtin "type.__getattribute__")))
    (if_Plan___iter__ : PySem.W.isFn K (.ref m_Plan___iter__) = true)
    (sf_Plan : PySem.W.selfFirst K c_Plan = true)
    (if_Plan___len__ : PySem.W.isFn K (.ref m_Plan___len__) = true)
    (if_Plan___contains__ : PySem.W.isFn K (.ref m_Plan___contains__) = true)
    (if_Plan___eq__ : PySem.W.isFn K (.ref m_Plan___eq__) = true)
    (if_Plan___str__ : PySem.W.isFn K (.ref m_Plan___str__) = true)
    (if_Plan___add__ : PySem.W.isFn K (.ref m_Plan___add__) = true)
    (if_Plan___or__ : PySem.W.isFn K (.ref m_Plan___or__) = true)
    (if_Plan___mul__ : PySem.W.isFn K (.ref m_Plan___mul__) = true)
    (if_Plan___rmul__ : PySem.W.isFn K (.ref m_Plan___rmul__) = true)
    (si_Plan : PySem.W.subIn K (.type "int") (.ref c_Plan) = some false)
    (hi_mul : PySem.W.findIn K (.type "int") "__mul__" = some im_mul)
    (hi_rmul : PySem.W.findIn K (.type "int") "__rmul__" = some im_rmul)
    (sj_Plan : PySem.W.subIn K (.ref c_Plan) (.type "int") = some false)
    (oc_get : PySem.W.specialIn K (.builtin "object.__class__") "__get__" = some (some (.builtin "getset_descriptor.__get__")))
    (oc_tk : PySem.W.takesIn K (.builtin "object.__class__") = some true)
    (ea_Plan : PySem.W.findIn K (.ref c_Plan) "__class__" = some (some (.builtin "object.__class__")))
    (eo_Plan : PySem.W.mroIn K c_Plan (.type "object") = some true)
    (kme_Plan : PySem.W.kitOne K (.ref c_Plan) (.ref c_Plan) = some true)
    (pg1_p_Plan_walks : PySem.W.specialIn K (.ref p_Plan_walks) "__get__" = some (some (.builtin "property.__get__")))
    (pt_p_Plan_walks : PySem.W.takesIn K (.ref p_Plan_walks) = some true)
    (fo_Plan__groups : PySem.W.findIn K (.ref c_Plan) "_groups" = some none)
    (z_any : PySem.W.nsIn K mainGlobals "any" = some none)
    (z_bool : PySem.W.nsIn K mainGlobals "bool" = some none)
    (z_int : PySem.W.nsIn K mainGlobals "int" = some none)
    (z_isinstance : PySem.W.nsIn K mainGlobals "isinstance" = some none)
    (z_iter : PySem.W.nsIn K mainGlobals "iter" = some none)
    (z_len : PySem.W.nsIn K mainGlobals "len" = some none)
    (z_list : PySem.W.nsIn K mainGlobals "list" = some none)
    (z_range : PySem.W.nsIn K mainGlobals "range" = some none)
    (z_str : PySem.W.nsIn K mainGlobals "str" = some none)
    (z_sum : PySem.W.nsIn K mainGlobals "sum" = some none)
    (z_tuple : PySem.W.nsIn K mainGlobals "tuple" = some none)
    : ∃ fd : FuncData, (∀ (s : Shared) (v : Value), BindsTo s fd ⟨[v], []⟩ [("_law_script", v)]) ∧ ∀ base : Heap, K.In base → base.Ns mainGlobals mg → FnOk P Wd.w K mg base (L2.CX P Wd.w) 7 fa fd ["_law_script"] (spOf K lawSp) := by
  have e := hfa.symm.trans (PySem.W.mg_of X G a_law)
  cases e
  have cl_Plan : Cls K c_Plan := ⟨pg_Plan, hd_Plan, po_Plan, sa_Plan⟩
  have T : Txt K mg ⟨c_Plan, f__law_source, f__law_draw, m_Plan___init__, m_Plan___iter__, m_Plan___len__, m_Plan___contains__, m_Plan___eq__, m_Plan___str__, m_Plan_walks, f__law_names, f__law_groups, m_Plan___add__, m_Plan___or__, m_Plan___mul__, m_Plan_apart, m_Plan_together, f__law_apart, f__law_together, f__law_is, f__law_plan, m_Plan___rmul__, fa, q_Plan_apart, q_Plan_together, p_Plan_walks⟩ := { g__law_source := PySem.W.mg_of X G a__law_source, k__law_source := kk__law_source, g__law_draw := PySem.W.mg_of X G a__law_draw, k__law_draw := kk__law_draw, g__law_names := PySem.W.mg_of X G a__law_names, k__law_names := kk__law_names, g__law_groups := PySem.W.mg_of X G a__law_groups, k__law_groups := kk__law_groups, g__law_apart := PySem.W.mg_of X G a__law_apart, k__law_apart := kk__law_apart, g__law_together := PySem.W.mg_of X G a__law_together, k__law_together := kk__law_together, g__law_is := PySem.W.mg_of X G a__law_is, k__law_is := kk__law_is, g__law_plan := PySem.W.mg_of X G a__law_plan, k__law_plan := kk__law_plan, g_law := PySem.W.mg_of X G a_law, k_law := kk_law, g_Plan := PySem.W.mg_of X G a_Plan, cl_Plan := cl_Plan, mk_Plan := ⟨mk_Plan, a_Plan___init__, if_Plan___init__, hk_Plan⟩, rc_Plan := ⟨rd_Plan, ga_Plan⟩, it_Plan___iter__ := ⟨a_Plan___iter__, if_Plan___iter__⟩, me_Plan___iter__ := ⟨a_Plan___iter__, if_Plan___iter__, kk_Plan___iter__⟩, ow_Plan___iter__ := ⟨a_Plan___iter__, if_Plan___iter__, sf_Plan⟩, me_Plan___len__ := ⟨a_Plan___len__, if_Plan___len__, kk_Plan___len__⟩, ow_Plan___len__ := ⟨a_Plan___len__, if_Plan___len__, sf_Plan⟩, me_Plan___contains__ := ⟨a_Plan___contains__, if_Plan___contains__, kk_Plan___contains__⟩, ow_Plan___contains__ := ⟨a_Plan___contains__, if_Plan___contains__, sf_Plan⟩, me_Plan___eq__ := ⟨a_Plan___eq__, if_Plan___eq__, kk_Plan___eq__⟩, ow_Plan___eq__ := ⟨a_Plan___eq__, if_Plan___eq__, sf_Plan⟩, me_Plan___str__ := ⟨a_Plan___str__, if_Plan___str__, kk_Plan___str__⟩, ow_Plan___str__ := ⟨a_Plan___str__, if_Plan___str__, sf_Plan⟩, me_Plan___add__ := ⟨a_Plan___add__, if_Plan___add__, kk_Plan___add__⟩, ow_Plan___add__ := ⟨a_Plan___add__, if_Plan___add__, sf_Plan⟩, me_Plan___or__ := ⟨a_Plan___or__, if_Plan___or__, kk_Plan___or__⟩, ow_Plan___or__ := ⟨a_Plan___or__, if_Plan___or__, sf_Plan⟩, me_Plan___mul__ := ⟨a_Plan___mul__, if_Plan___mul__, kk_Plan___mul__⟩, ow_Plan___mul__ := ⟨a_Plan___mul__, if_Plan___mul__, sf_Plan⟩, st_Plan_apart := ⟨sm_Plan_apart, ⟨_, sr_Plan_apart⟩, kk_Plan_apart⟩, st_Plan_together := ⟨sm_Plan_together, ⟨_, sr_Plan_together⟩, kk_Plan_together⟩, me_Plan___rmul__ := ⟨a_Plan___rmul__, if_Plan___rmul__, kk_Plan___rmul__⟩, oi_Plan___mul__ := ⟨⟨_, a_Plan___rmul__, .inr ⟨_, rfl⟩⟩, ⟨_, hi_mul⟩, ⟨_, hi_rmul⟩, si_Plan⟩, or_Plan___rmul__ := ⟨sf_Plan, a_Plan___rmul__, if_Plan___rmul__, ⟨_, a_Plan___mul__⟩, sj_Plan⟩, ic_Plan := ⟨cl_Plan, ea_Plan, oc_get, oc_tk, eo_Plan, kme_Plan⟩, pr_Plan_walks := ⟨pf_p_Plan_walks, pg1_p_Plan_walks, pt_p_Plan_walks, ⟨_, pc_p_Plan_walks⟩⟩, fo_Plan__groups := ⟨cl_Plan, fo_Plan__groups⟩, z_any := PySem.W.mg_none_of X G z_any, z_bool := PySem.W.mg_none_of X G z_bool, z_int := PySem.W.mg_none_of X G z_int, z_isinstance := PySem.W.mg_none_of X G z_isinstance, z_iter := PySem.W.mg_none_of X G z_iter, z_len := PySem.W.mg_none_of X G z_len, z_list := PySem.W.mg_none_of X G z_list, z_range := PySem.W.mg_none_of X G z_range, z_str := PySem.W.mg_none_of X G z_str, z_sum := PySem.W.mg_none_of X G z_sum, z_tuple := PySem.W.mg_none_of X G z_tuple }
  have F__law_source := fun_mk (st := s__law_source) l__law_source cc__law_source kk__law_source
  have F__law_draw := fun_mk (st := s__law_draw) l__law_draw cc__law_draw kk__law_draw
  have F_Plan___init__ := fun_mk (st := s_Plan___init__) l_Plan___init__ cc_Plan___init__ kk_Plan___init__
  have F_Plan___iter__ := fun_mk (st := s_Plan___iter__) l_Plan___iter__ cc_Plan___iter__ kk_Plan___iter__
  have F_Plan___len__ := fun_mk (st := s_Plan___len__) l_Plan___len__ cc_Plan___len__ kk_Plan___len__
  have F_Plan___contains__ := fun_mk (st := s_Plan___contains__) l_Plan___contains__ cc_Plan___contains__ kk_Plan___contains__
  have F_Plan___eq__ := fun_mk (st := s_Plan___eq__) l_Plan___eq__ cc_Plan___eq__ kk_Plan___eq__
  have F_Plan___str__ := fun_mk (st := s_Plan___str__) l_Plan___str__ cc_Plan___str__ kk_Plan___str__
  have F_Plan_walks := fun_mk (st := s_Plan_walks) l_Plan_walks cc_Plan_walks kk_Plan_walks
  have F__law_names := fun_mk (st := s__law_names) l__law_names cc__law_names kk__law_names
  have F__law_groups := fun_mk (st := s__law_groups) l__law_groups cc__law_groups kk__law_groups
  have F_Plan___add__ := fun_mk (st := s_Plan___add__) l_Plan___add__ cc_Plan___add__ kk_Plan___add__
  have F_Plan___or__ := fun_mk (st := s_Plan___or__) l_Plan___or__ cc_Plan___or__ kk_Plan___or__
  have F_Plan___mul__ := fun_mk (st := s_Plan___mul__) l_Plan___mul__ cc_Plan___mul__ kk_Plan___mul__
  have F__law_apart := fun_mk (st := s__law_apart) l__law_apart cc__law_apart kk__law_apart
  have F__law_together := fun_mk (st := s__law_together) l__law_together cc__law_together kk__law_together
  have F__law_is := fun_mk (st := s__law_is) l__law_is cc__law_is kk__law_is
  have F__law_plan := fun_mk (st := s__law_plan) l__law_plan cc__law_plan kk__law_plan
  have F_Plan___rmul__ := fun_mk (st := s_Plan___rmul__) l_Plan___rmul__ cc_Plan___rmul__ kk_Plan___rmul__
  have F_law := fun_mk (st := s_law) l_law cc_law kk_law
  have b__law_source := F__law_source.binds (ps := ["_law_script"]) fun _ _ _ _ _ _ us hl => match us, hl with | [_], _ => rfl
  have b__law_draw := F__law_draw.binds (ps := ["_law_source_here", "_law_many"]) fun _ _ _ _ _ _ us hl => match us, hl with | [_, _], _ => rfl
  have b_Plan___iter__ := F_Plan___iter__.binds (ps := ["self"]) fun _ _ _ _ _ _ us hl => match us, hl with | [_], _ => rfl
  have b_Plan___len__ := F_Plan___len__.binds (ps := ["self"]) fun _ _ _ _ _ _ us hl => match us, hl with | [_], _ => rfl
  have b_Plan___contains__ := F_Plan___contains__.binds (ps := ["self", "name"]) fun _ _ _ _ _ _ us hl => match us, hl with | [_, _], _ => rfl
  have b_Plan___eq__ := F_Plan___eq__.binds (ps := ["self", "other"]) fun _ _ _ _ _ _ us hl => match us, hl with | [_, _], _ => rfl
  have b_Plan___str__ := F_Plan___str__.binds (ps := ["self"]) fun _ _ _ _ _ _ us hl => match us, hl with | [_], _ => rfl
  have b_Plan_walks := F_Plan_walks.binds (ps := ["self"]) fun _ _ _ _ _ _ us hl => match us, hl with | [_], _ => rfl
  have b__law_names := F__law_names.binds (ps := ["_law_source_here", "_law_count"]) fun _ _ _ _ _ _ us hl => match us, hl with | [_, _], _ => rfl
  have b__law_groups := F__law_groups.binds (ps := ["_law_source_here", "_law_names_here"]) fun _ _ _ _ _ _ us hl => match us, hl with | [_, _], _ => rfl
  have b_Plan___add__ := F_Plan___add__.binds (ps := ["self", "other"]) fun _ _ _ _ _ _ us hl => match us, hl with | [_, _], _ => rfl
  have b_Plan___or__ := F_Plan___or__.binds (ps := ["self", "other"]) fun _ _ _ _ _ _ us hl => match us, hl with | [_, _], _ => rfl
  have b_Plan___mul__ := F_Plan___mul__.binds (ps := ["self", "times"]) fun _ _ _ _ _ _ us hl => match us, hl with | [_, _], _ => rfl
  have b__law_apart := F__law_apart.binds (ps := ["_law_names_here"]) fun _ _ _ _ _ _ us hl => match us, hl with | [_], _ => rfl
  have b__law_together := F__law_together.binds (ps := ["_law_names_here"]) fun _ _ _ _ _ _ us hl => match us, hl with | [_], _ => rfl
  have b__law_is := F__law_is.binds (ps := ["_law_plan_here", "_law_groups_here", "_law_names_here"]) fun _ _ _ _ _ _ us hl => match us, hl with | [_, _, _], _ => rfl
  have b__law_plan := F__law_plan.binds (ps := ["_law_groups_here"]) fun _ _ _ _ _ _ us hl => match us, hl with | [_], _ => rfl
  have b_Plan___rmul__ := F_Plan___rmul__.binds (ps := ["self", "times"]) fun _ _ _ _ _ _ us hl => match us, hl with | [_, _], _ => rfl
  have Ds : Defs K ⟨c_Plan, f__law_source, f__law_draw, m_Plan___init__, m_Plan___iter__, m_Plan___len__, m_Plan___contains__, m_Plan___eq__, m_Plan___str__, m_Plan_walks, f__law_names, f__law_groups, m_Plan___add__, m_Plan___or__, m_Plan___mul__, m_Plan_apart, m_Plan_together, f__law_apart, f__law_together, f__law_is, f__law_plan, m_Plan___rmul__, fa, q_Plan_apart, q_Plan_together, p_Plan_walks⟩ := { fu__law_source := ⟨_, F__law_source, b__law_source⟩, fu__law_draw := ⟨_, F__law_draw, b__law_draw⟩, fu_Plan___init__ := ⟨_, F_Plan___init__⟩, fu_Plan___iter__ := ⟨_, F_Plan___iter__, b_Plan___iter__⟩, fu_Plan___len__ := ⟨_, F_Plan___len__, b_Plan___len__⟩, fu_Plan___contains__ := ⟨_, F_Plan___contains__, b_Plan___contains__⟩, fu_Plan___eq__ := ⟨_, F_Plan___eq__, b_Plan___eq__⟩, fu_Plan___str__ := ⟨_, F_Plan___str__, b_Plan___str__⟩, fu_Plan_walks := ⟨_, F_Plan_walks, b_Plan_walks⟩, fu__law_names := ⟨_, F__law_names, b__law_names⟩, fu__law_groups := ⟨_, F__law_groups, b__law_groups⟩, fu_Plan___add__ := ⟨_, F_Plan___add__, b_Plan___add__⟩, fu_Plan___or__ := ⟨_, F_Plan___or__, b_Plan___or__⟩, fu_Plan___mul__ := ⟨_, F_Plan___mul__, b_Plan___mul__⟩, fu_Plan_apart := ⟨_, ⟨⟨_, _, .ref kt_Plan_apart, _, _, _, _, _, _, _, rfl, l_Plan_apart, cc_Plan_apart, .inr ⟨by simp, kt_Plan_apart, _, [.none], _, rfl, kl_Plan_apart, rfl, .cons rfl .nil⟩, .inl rfl⟩, kk_Plan_apart⟩⟩, fu_Plan_together := ⟨_, ⟨⟨_, _, .ref kt_Plan_together, _, _, _, _, _, _, _, rfl, l_Plan_together, cc_Plan_together, .inr ⟨by simp, kt_Plan_together, _, [.none], _, rfl, kl_Plan_together, rfl, .cons rfl .nil⟩, .inl rfl⟩, kk_Plan_together⟩⟩, fu__law_apart := ⟨_, F__law_apart, b__law_apart⟩, fu__law_together := ⟨_, F__law_together, b__law_together⟩, fu__law_is := ⟨_, F__law_is, b__law_is⟩, fu__law_plan := ⟨_, F__law_plan, b__law_plan⟩, fu_Plan___rmul__ := ⟨_, F_Plan___rmul__, b_Plan___rmul__⟩ }
  exact ⟨_, fun s v => .of_eq rfl, fun base _ _ => all_ok T Ds F_law⟩

theorem reps_int {K : PySem.W.Frag} {F : Hp} : ∀ ns : List Int, Reps K F (ns.map V.int) (ns.map D.int)
  | [] => .nil
  | n :: ns => .cons (.int n) (reps_int ns)
theorem sp_start {K : PySem.W.Frag} {H : Hp} {a : Addr} {ns : List Int} (hl : ns.length ≤ 63) (hS : SqL K H a (ns.map V.int)) : spOf K lawSp [.ref a] H (fun v _ => v = .bl true) fun _ _ _ => False :=
  ⟨fun _ => none, [], H, [.rol (ns.map .int)], fun d _ => d = .bl true, fun _ _ _ => False, ⟨fun a o e => .inl e, fun a o e => (nomatch e), fun a m hm => (nomatch hm), List.nodup_nil⟩, .cons (.rol hS (reps_int ns)) .nil,
    ⟨ns, rfl, hl, List.nodup_nil, fun _ => rfl⟩, fun d M' F' v H' e s S r => by subst e; cases r; rfl, fun _ _ _ _ _ z => z.elim⟩
end Q
open PySem PySem.W PyProof.Rows
set_option maxRecDepth 100000 in
set_option maxHeartbeats 0 in
theorem PySem.Challenge.cw_fusewalks_k10_plan_groups_holds : PySem.Challenge.rw_fusewalks_k10_plan_groups.Holds := by
  w_on; o_law; k_head; (case hw => w_witness2)
  k_fill
  refine L2.walk_of (l := PySem.Challenge.rw_fusewalks_k10_plan_groups) (n := 63) (k := 7) (x := "_law_script") (CX := fun w => L2.CX PySem.Challenge.rw_fusewalks_k10_plan_groups.prog w) (sp := fun w => @DL.spOf ⟨w⟩ _ Q.lawSp) rfl (by decide) rfl ⟨rfl, by decide, by decide⟩ (fun w h Y => PySem.W.kIn_of Y) ?F (fun w _ a ns hl _ hS => @Q.sp_start ⟨w⟩ _ _ _ _ hl hS) fun _ _ _ _ _ z => by obtain ⟨_, _, _, _, _, _, _, _, _, _, _, _, z⟩ := z; exact z
  case F =>
    intro w mg fa h KX G hmg
    letI : DL.Wd := ⟨w⟩
    refine' Q.all_mk KX G hmg ?h_a_Plan ?h_pf_p_Plan_walks ?h_pc_p_Plan_walks ?h_a__law_source ?h_l__law_source ?h_cc__law_source ?h_kk__law_source ?h_a__law_draw ?h_l__law_draw ?h_cc__law_draw ?h_kk__law_draw ?h_a_Plan___init__ ?h_l_Plan___init__ ?h_cc_Plan___init__ ?h_kk_Plan___init__ ?h_a_Plan___iter__ ?h_l_Plan___iter__ ?h_cc_Plan___iter__ ?h_kk_Plan___iter__ ?h_a_Plan___len__ ?h_l_Plan___len__ ?h_cc_Plan___len__ ?h_kk_Plan___len__ ?h_a_Plan___contains__ ?h_l_Plan___contains__ ?h_cc_Plan___contains__ ?h_kk_Plan___contains__ ?h_a_Plan___eq__ ?h_l_Plan___eq__ ?h_cc_Plan___eq__ ?h_kk_Plan___eq__ ?h_a_Plan___str__ ?h_l_Plan___str__ ?h_cc_Plan___str__ ?h_kk_Plan___str__ ?h_l_Plan_walks ?h_cc_Plan_walks ?h_kk_Plan_walks ?h_a__law_names ?h_l__law_names ?h_cc__law_names ?h_kk__law_names ?h_a__law_groups ?h_l__law_groups ?h_cc__law_groups ?h_kk__law_groups ?h_a_Plan___add__ ?h_l_Plan___add__ ?h_cc_Plan___add__ ?h_kk_Plan___add__ ?h_a_Plan___or__ ?h_l_Plan___or__ ?h_cc_Plan___or__ ?h_kk_Plan___or__ ?h_a_Plan___mul__ ?h_l_Plan___mul__ ?h_cc_Plan___mul__ ?h_kk_Plan___mul__ ?h_sm_Plan_apart ?h_sr_Plan_apart ?h_l_Plan_apart ?h_cc_Plan_apart ?h_kk_Plan_apart ?h_kl_Plan_apart ?h_sm_Plan_together ?h_sr_Plan_together ?h_l_Plan_together ?h_cc_Plan_together ?h_kk_Plan_together ?h_kl_Plan_together ?h_a__law_apart ?h_l__law_apart ?h_cc__law_apart ?h_kk__law_apart ?h_a__law_together ?h_l__law_together ?h_cc__law_together ?h_kk__law_together ?h_a__law_is ?h_l__law_is ?h_cc__law_is ?h_kk__law_is ?h_a__law_plan ?h_l__law_plan ?h_cc__law_plan ?h_kk__law_plan ?h_a_Plan___rmul__ ?h_l_Plan___rmul__ ?h_cc_Plan___rmul__ ?h_kk_Plan___rmul__ ?h_a_law ?h_l_law ?h_cc_law ?h_kk_law ?h_pg_Plan ?h_hd_Plan ?h_po_Plan ?h_sa_Plan ?h_mk_Plan ?h_hk_Plan ?h_if_Plan___init__ ?h_rd_Plan ?h_ga_Plan ?h_if_Plan___iter__ ?h_sf_Plan ?h_if_Plan___len__ ?h_if_Plan___contains__ ?h_if_Plan___eq__ ?h_if_Plan___str__ ?h_if_Plan___add__ ?h_if_Plan___or__ ?h_if_Plan___mul__ ?h_if_Plan___rmul__ ?h_si_Plan ?h_hi_mul ?h_hi_rmul ?h_sj_Plan ?h_oc_get ?h_oc_tk ?h_ea_Plan ?h_eo_Plan ?h_kme_Plan ?h_pg1_p_Plan_walks ?h_pt_p_Plan_walks ?h_fo_Plan__groups ?h_z_any ?h_z_bool ?h_z_int ?h_z_isinstance ?h_z_iter ?h_z_len ?h_z_list ?h_z_range ?h_z_str ?h_z_sum ?h_z_tuple
    (case h_a_Plan => k_is)
    (case h_pf_p_Plan_walks => k_is)
    (case h_pc_p_Plan_walks => k_is)
    (case h_a__law_source => k_is)
    (case h_l__law_source => k_is)
    (case h_cc__law_source => k_is)
    (case h_kk__law_source => k_is)
    (case h_a__law_draw => k_is)
    (case h_l__law_draw => k_is)
    (case h_cc__law_draw => k_is)
    (case h_kk__law_draw => k_is)
    (case h_a_Plan___init__ => k_is)
    (case h_l_Plan___init__ => k_is)
    (case h_cc_Plan___init__ => k_is)
    (case h_kk_Plan___init__ => k_is)
    (case h_a_Plan___iter__ => k_is)
    (case h_l_Plan___iter__ => k_is)
    (case h_cc_Plan___iter__ => k_is)
    (case h_kk_Plan___iter__ => k_is)
    (case h_a_Plan___len__ => k_is)
    (case h_l_Plan___len__ => k_is)
    (case h_cc_Plan___len__ => k_is)
    (case h_kk_Plan___len__ => k_is)
    (case h_a_Plan___contains__ => k_is)
    (case h_l_Plan___contains__ => k_is)
    (case h_cc_Plan___contains__ => k_is)
    (case h_kk_Plan___contains__ => k_is)
    (case h_a_Plan___eq__ => k_is)
    (case h_l_Plan___eq__ => k_is)
    (case h_cc_Plan___eq__ => k_is)
    (case h_kk_Plan___eq__ => k_is)
    (case h_a_Plan___str__ => k_is)
    (case h_l_Plan___str__ => k_is)
    (case h_cc_Plan___str__ => k_is)
    (case h_kk_Plan___str__ => k_is)
    (case h_l_Plan_walks => k_is)
    (case h_cc_Plan_walks => k_is)
    (case h_kk_Plan_walks => k_is)
    (case h_a__law_names => k_is)
    (case h_l__law_names => k_is)
    (case h_cc__law_names => k_is)
    (case h_kk__law_names => k_is)
    (case h_a__law_groups => k_is)
    (case h_l__law_groups => k_is)
    (case h_cc__law_groups => k_is)
    (case h_kk__law_groups => k_is)
    (case h_a_Plan___add__ => k_is)
    (case h_l_Plan___add__ => k_is)
    (case h_cc_Plan___add__ => k_is)
    (case h_kk_Plan___add__ => k_is)
    (case h_a_Plan___or__ => k_is)
    (case h_l_Plan___or__ => k_is)
    (case h_cc_Plan___or__ => k_is)
    (case h_kk_Plan___or__ => k_is)
    (case h_a_Plan___mul__ => k_is)
    (case h_l_Plan___mul__ => k_is)
    (case h_cc_Plan___mul__ => k_is)
    (case h_kk_Plan___mul__ => k_is)
    (case h_sm_Plan_apart => k_is)
    (case h_sr_Plan_apart => k_is)
    (case h_l_Plan_apart => k_is)
    (case h_cc_Plan_apart => k_is)
    (case h_kk_Plan_apart => k_is)
    (case h_kl_Plan_apart => k_is)
    (case h_sm_Plan_together => k_is)
    (case h_sr_Plan_together => k_is)
    (case h_l_Plan_together => k_is)
    (case h_cc_Plan_together => k_is)
    (case h_kk_Plan_together => k_is)
    (case h_kl_Plan_together => k_is)
    (case h_a__law_apart => k_is)
    (case h_l__law_apart => k_is)
    (case h_cc__law_apart => k_is)
    (case h_kk__law_apart => k_is)
    (case h_a__law_together => k_is)
    (case h_l__law_together => k_is)
    (case h_cc__law_together => k_is)
    (case h_kk__law_together => k_is)
    (case h_a__law_is => k_is)
    (case h_l__law_is => k_is)
    (case h_cc__law_is => k_is)
    (case h_kk__law_is => k_is)
    (case h_a__law_plan => k_is)
    (case h_l__law_plan => k_is)
    (case h_cc__law_plan => k_is)
    (case h_kk__law_plan => k_is)
    (case h_a_Plan___rmul__ => k_is)
    (case h_l_Plan___rmul__ => k_is)
    (case h_cc_Plan___rmul__ => k_is)
    (case h_kk_Plan___rmul__ => k_is)
    (case h_a_law => k_is)
    (case h_l_law => k_is)
    (case h_cc_law => k_is)
    (case h_kk_law => k_is)
    (case h_pg_Plan => k_is)
    (case h_hd_Plan => k_is)
    (case h_po_Plan => k_is)
    (case h_sa_Plan => k_is)
    (case h_mk_Plan => k_is)
    (case h_hk_Plan => k_is)
    (case h_if_Plan___init__ => k_is)
    (case h_rd_Plan => k_is)
    (case h_ga_Plan => k_is)
    (case h_if_Plan___iter__ => k_is)
    (case h_sf_Plan => k_is)
    (case h_if_Plan___len__ => k_is)
    (case h_if_Plan___contains__ => k_is)
    (case h_if_Plan___eq__ => k_is)
    (case h_if_Plan___str__ => k_is)
    (case h_if_Plan___add__ => k_is)
    (case h_if_Plan___or__ => k_is)
    (case h_if_Plan___mul__ => k_is)
    (case h_if_Plan___rmul__ => k_is)
    (case h_si_Plan => k_is)
    (case h_hi_mul => k_is)
    (case h_hi_rmul => k_is)
    (case h_sj_Plan => k_is)
    (case h_oc_get => k_is)
    (case h_oc_tk => k_is)
    (case h_ea_Plan => k_is)
    (case h_eo_Plan => k_is)
    (case h_kme_Plan => first | kit_is | k_is)
    (case h_pg1_p_Plan_walks => k_is)
    (case h_pt_p_Plan_walks => k_is)
    (case h_fo_Plan__groups => k_is)
    (case h_z_any => k_is)
    (case h_z_bool => k_is)
    (case h_z_int => k_is)
    (case h_z_isinstance => k_is)
    (case h_z_iter => k_is)
    (case h_z_len => k_is)
    (case h_z_list => k_is)
    (case h_z_range => k_is)
    (case h_z_str => k_is)
    (case h_z_sum => k_is)
    (case h_z_tuple => k_is)
