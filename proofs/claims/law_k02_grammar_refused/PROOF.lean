import PyProof.Rows.All
import Wide.All
import OpenK.AllK
import Wide.FinOn
import HandS.ForMost
import HandS.ForExc
import HandS.Star
import HandS.Wide
import HandS.TupAny
import HandS.TupMul
import HandS.Deep
import HandS.TupLen
import HandS.More
import HandS.ExcInit
import HandS.ExcField
import HandS.ExcIs
import KE.KExcIs
import HandS.TryMany
import HandS.DictComp
import HandS.Small
import HandS.Property
import HandS.ClsMeth
import HandS.MakeKw
import HandS.MakeKwOnly
import HandS.DictTup
import HandS.Style
import HandS.Conv
import HandS.IsInst
import HandS.Codes
import HandS.MethStar
import HandS.GenCall
import HandS.Finally
import HandS.Iter
import HandS.SetFor
import HandS.Text
import KE.GoesEnumKw
import KE.KeyNested
import KE.KDictWalk
import PySem.Challenge.RW_fusewalks_k02_grammar_refused
set_option Elab.async false
set_option linter.all false
set_option maxRecDepth 100000
set_option maxHeartbeats 4000000
namespace DL
open PySem L2

/-- the World that the text runs in -/
class Wd where
  w : World
variable [Wd]
/-! ### data -/
inductive D where
  | non | bl (b : Bool) | int (i : Int) | str (x : Str) | ty (n : String) | ptr (a : Addr)
  | tup (ds : List D) | lst (ds : List D) | rol (ds : List D) | dic (es : List (Key × D)) | dit (es : List (D × D)) | obj (C : Addr) (es : List (Str × D))

def allS {α β : Type} (f : α → Option β) : List α → Option (List β)
  | [] => some []
  | x :: xs => match f x, allS f xs with
    | some y, some ys => some (y :: ys)
    | _, _ => none
/-- a key, nested to a depth: 1 and True are one key -/
def toNK : Nat → D → Option NestedKey
  | _, .non => some .none
  | _, .bl b => some (.num (if b = true then 1 else 0))
  | _, .int i => some (.num i)
  | _, .str x => some (.text x)
  | n + 1, .tup ds => (allS (toNK n) ds).map .tup
  | _, _ => none
/-- a dict whose keys are tuples, nested: each entry by its key, the key's own object and the value -/
def hoN (a : Addr) (xs : List (NestedKey × Addr × Value)) : HO := .ext fun h => xs.length ≤ sizeLine ∧ (a == sysModules) = false ∧ (xs.map (·.1)).Nodup ∧
  ∃ o es ep, h.get? a = some o ∧ o.ExactDict ∧ o.data = .dict es ep ∧ es.toList = xs.map fun x => (⟨x.1.hash Wd.w, .ref x.2.1, x.2.2⟩ : DictEntry)
mutual
/-- the value v stands for the data d, in the frozen part F -/
inductive Rep (K : PySem.W.Frag) (F : Hp) : V → D → Prop
  | non : Rep K F .non .non
  | bl (b : Bool) : Rep K F (.bl b) (.bl b)
  | int (i : Int) : Rep K F (.int i) (.int i)
  | str (x : Str) : Rep K F (.str x) (.str x)
  | ty (n : String) : Rep K F (.ty n) (.ty n)
  | ptr (a : Addr) : Rep K F (.ref a) (.ptr a)
  | tup {a : Addr} {xs : List V} {ds : List D} : F a = some (.tup xs) → Reps K F xs ds → Rep K F (.ref a) (.tup ds)
  | lst {a : Addr} {xs : List V} {ds : List D} : F a = some (.lst xs) → Reps K F xs ds → Rep K F (.ref a) (.lst ds)
  | rol {a : Addr} {xs : List V} {ds : List D} : SqL K F a xs → Reps K F xs ds → Rep K F (.ref a) (.rol ds)
  | dic {a : Addr} {kvs : List (Key × V)} {es : List (Key × D)} : F a = some (.dK kvs) → kvs.map (·.1) = es.map (·.1) → Reps K F (kvs.map (·.2)) (es.map (·.2)) → Rep K F (.ref a) (.dic es)
  | dit {a : Addr} {xs : List (NestedKey × Addr × Value)} {vs : List V} {es : List (D × D)} : F a = some (hoN a xs) → (es.map fun e => toNK 8 e.1) = (xs.map fun x => some x.1) → Reps K F (xs.map fun x => V.ref x.2.1) (es.map (·.1)) → Vals vs (xs.map fun x => x.2.2) → Reps K F vs (es.map (·.2)) → Rep K F (.ref a) (.dit es)
  | obj {a C dx : Addr} {kvs : List (Str × V)} {es : List (Str × D)} : F a = some (.ins C dx kvs) → kvs.map (·.1) = es.map (·.1) → Reps K F (kvs.map (·.2)) (es.map (·.2)) → Rep K F (.ref a) (.obj C es)
inductive Reps (K : PySem.W.Frag) (F : Hp) : List V → List D → Prop
  | nil : Reps K F [] []
  | cons {v : V} {d : D} {xs : List V} {ds : List D} : Rep K F v d → Reps K F xs ds → Reps K F (v :: xs) (d :: ds)
end
theorem sqT_mono {F F' : Hp} {a : Addr} {xs : List V} (s : Same F F') (h : F a = some (.tup xs)) : F' a = some (.tup xs) := s _ _ h
mutual
theorem Rep.mono {K : PySem.W.Frag} {F F' : Hp} (s : Same F F') : ∀ {v : V} {d : D}, Rep K F v d → Rep K F' v d
  | _, _, .non => .non
  | _, _, .bl b => .bl b
  | _, _, .int i => .int i
  | _, _, .str x => .str x
  | _, _, .ty n => .ty n
  | _, _, .ptr a => .ptr a
  | _, _, .tup h r => .tup (sqT_mono s h) (Reps.mono s r)
  | _, _, .lst h r => .lst (s _ _ h) (Reps.mono s r)
  | _, _, .rol h r => .rol (s.seq h) (Reps.mono s r)
  | _, _, .dic h l r => .dic (s _ _ h) l (Reps.mono s r)
  | _, _, .dit h l r1 rv r2 => .dit (s _ _ h) l (Reps.mono s r1) rv (Reps.mono s r2)
  | _, _, .obj h l r => .obj (s _ _ h) l (Reps.mono s r)
theorem Reps.mono {K : PySem.W.Frag} {F F' : Hp} (s : Same F F') : ∀ {xs : List V} {ds : List D}, Reps K F xs ds → Reps K F' xs ds
  | _, _, .nil => .nil
  | _, _, .cons r t => .cons (Rep.mono s r) (Reps.mono s t)
end
theorem Reps.length {K : PySem.W.Frag} {F : Hp} : ∀ {xs : List V} {ds : List D}, Reps K F xs ds → xs.length = ds.length
  | _, _, .nil => rfl
  | _, _, .cons _ t => congrArg (· + 1) (Reps.length t)
theorem Reps.append {K : PySem.W.Frag} {F : Hp} : ∀ {xs ys : List V} {ds es : List D}, Reps K F xs ds → Reps K F ys es → Reps K F (xs ++ ys) (ds ++ es)
  | _, _, _, _, .nil, s => s
  | _, _, _, _, .cons r t, s => .cons r (Reps.append t s)
theorem Reps.get {K : PySem.W.Frag} {F : Hp} : ∀ {xs : List V} {ds : List D} {i : Nat} {d : D}, Reps K F xs ds → ds[i]? = some d → ∃ v, xs[i]? = some v ∧ Rep K F v d
  | _, _, _, _, .nil, e => by simp at e
  | _, _, 0, _, .cons r _, e => by simp at e; subst e; exact ⟨_, rfl, r⟩
  | _, _, i + 1, d, .cons _ t, e => by
    obtain ⟨v, h1, h2⟩ := Reps.get (i := i) (d := d) t (by simpa using e)
    exact ⟨v, by simpa using h1, h2⟩
theorem Reps.get' {K : PySem.W.Frag} {F : Hp} : ∀ {xs : List V} {ds : List D} {i : Nat} {v : V}, Reps K F xs ds → xs[i]? = some v → ∃ d, ds[i]? = some d ∧ Rep K F v d
  | _, _, _, _, .nil, e => by simp at e
  | _, _, 0, _, .cons r _, e => by simp at e; subst e; exact ⟨_, rfl, r⟩
  | _, _, i + 1, v, .cons _ t, e => by
    obtain ⟨d, h1, h2⟩ := Reps.get' (i := i) (v := v) t (by simpa using e)
    exact ⟨d, by simpa using h1, h2⟩
theorem Reps.take {K : PySem.W.Frag} {F : Hp} : ∀ {xs : List V} {ds : List D} (n : Nat), Reps K F xs ds → Reps K F (xs.take n) (ds.take n)
  | _, _, 0, _ => .nil
  | _, _, _ + 1, .nil => .nil
  | _, _, n + 1, .cons r t => .cons r (Reps.take n t)
theorem Reps.drop {K : PySem.W.Frag} {F : Hp} : ∀ {xs : List V} {ds : List D} (n : Nat), Reps K F xs ds → Reps K F (xs.drop n) (ds.drop n)
  | _, _, 0, r => r
  | _, _, _ + 1, .nil => .nil
  | _, _, n + 1, .cons _ t => Reps.drop n t
theorem Reps.set {K : PySem.W.Frag} {F : Hp} {v : V} {d : D} (r : Rep K F v d) : ∀ {xs : List V} {ds : List D} (i : Nat), Reps K F xs ds → Reps K F (xs.set i v) (ds.set i d)
  | _, _, _, .nil => .nil
  | _, _, 0, .cons _ t => .cons r t
  | _, _, i + 1, .cons q t => .cons q (Reps.set r i t)
theorem Reps.flat {K : PySem.W.Frag} {F : Hp} {xs : List V} {ds : List D} (r : Reps K F xs ds) : ∀ n : Nat, Reps K F (List.replicate n xs).flatten (List.replicate n ds).flatten
  | 0 => .nil
  | n + 1 => by
    rw [List.replicate_succ, List.replicate_succ, List.flatten_cons, List.flatten_cons]
    exact r.append (Reps.flat r n)

/-! ### what changes: by address -/
inductive MO where
  | lst (ds : List D) | dic (es : List (Key × D)) | dit (es : List (D × D)) | obj (C : Addr) (es : List (Str × D)) | xd (es : List (Str × D)) | exd (dx : Addr) (es : List (Str × D)) | raw (o : HO)
abbrev Mem := List (Addr × MO)
abbrev Rho := List (Option D)
/-- the entries of such a dict stand for the data -/
def Ents (K : PySem.W.Frag) (F : Hp) (xs : List (NestedKey × Addr × Value)) (es : List (D × D)) : Prop :=
  ∃ vs, (es.map fun e => toNK 8 e.1) = (xs.map fun x => some x.1) ∧ Reps K F (xs.map fun x => V.ref x.2.1) (es.map (·.1)) ∧ Vals vs (xs.map fun x => x.2.2) ∧ Reps K F vs (es.map (·.2))
theorem Ents.mono {K : PySem.W.Frag} {F F' : Hp} (s : Same F F') {xs : List (NestedKey × Addr × Value)} {es : List (D × D)} (h : Ents K F xs es) : Ents K F' xs es :=
  let ⟨vs, l, r1, rv, r2⟩ := h; ⟨vs, l, r1.mono s, rv, r2.mono s⟩
def RepM (K : PySem.W.Frag) (F : Hp) (a : Addr) (o : HO) : MO → Prop
  | .lst ds => ∃ xs, o = .lst xs ∧ Reps K F xs ds
  | .dic es => ∃ kvs, o = .dK kvs ∧ kvs.map (·.1) = es.map (·.1) ∧ Reps K F (kvs.map (·.2)) (es.map (·.2))
  | .dit es => ∃ xs, o = hoN a xs ∧ Ents K F xs es
  | .obj C es => ∃ dx kvs, o = .ins C dx kvs ∧ kvs.map (·.1) = es.map (·.1) ∧ Reps K F (kvs.map (·.2)) (es.map (·.2))
  | .xd es => ∃ kvs, o = .xd kvs ∧ kvs.map (·.1) = es.map (·.1) ∧ Reps K F (kvs.map (·.2)) (es.map (·.2))
  | .exd dx es => ∃ kvs, o = exd dx kvs ∧ kvs.map (·.1) = es.map (·.1) ∧ Reps K F (kvs.map (·.2)) (es.map (·.2))
  | .raw u => o = u
theorem RepM.mono {K : PySem.W.Frag} {F F' : Hp} (s : Same F F') {a : Addr} {o : HO} {m : MO} (h : RepM K F a o m) : RepM K F' a o m := by
  cases m with
  | lst ds => obtain ⟨xs, e, r⟩ := h; exact ⟨xs, e, r.mono s⟩
  | dic es => obtain ⟨xs, e, l, r⟩ := h; exact ⟨xs, e, l, r.mono s⟩
  | dit es => obtain ⟨xs, e, r⟩ := h; exact ⟨xs, e, r.mono s⟩
  | obj C es => obtain ⟨dx, xs, e, l, r⟩ := h; exact ⟨dx, xs, e, l, r.mono s⟩
  | xd es => obtain ⟨xs, e, l, r⟩ := h; exact ⟨xs, e, l, r.mono s⟩
  | exd dx es => obtain ⟨xs, e, l, r⟩ := h; exact ⟨xs, e, l, r.mono s⟩
  | raw u => exact h

def isDct : HO → Bool
  | .dK _ => true
  | .ext _ => true
  | _ => false
/-- the frozen part stands in the heap; a dict may be locked -/
def SubF (F H : Hp) : Prop := ∀ a o, F a = some o → H a = some o ∨ (isDct o = true ∧ ∃ z, H a = some (.frz z o))
/-- K: the written part; U: what others hold -/
structure G where
  K : PySem.W.Frag
  U : Hp
/-- what others hold is none of the frozen part, but for a dict that is locked -/
def Apart (F : Hp) (a : Addr) (o : HO) : Prop := F a = none ∨ ∃ z u, o = .frz z u ∧ F a = some u ∧ isDct u = true
structure Sta (g : G) (F : Hp) (M : Mem) (H : Hp) : Prop where
  sub : SubF F H
  out : ∀ a o, g.U a = some o → H a = some o ∧ Apart F a o ∧ ∀ m, (a, m) ∉ M
  mem : ∀ a m, (a, m) ∈ M → F a = none ∧ ∃ o, H a = some o ∧ RepM g.K F a o m
  nd : (M.map (·.1)).Nodup
def at_ : Rho → Nat → Option D
  | [], _ => none
  | x :: _, 0 => x
  | _ :: r, n + 1 => at_ r n
def put : Rho → Nat → Option D → Rho
  | [], _, _ => []
  | _ :: r, 0, y => y :: r
  | x :: r, n + 1, y => x :: put r n y
structure Enr (K : PySem.W.Frag) (F : Hp) (σ : L2.St) (ρ : Rho) : Prop where
  len : σ.length = ρ.length
  has : ∀ i d, at_ ρ i = some d → ∃ v, σ[i]? = some (some v) ∧ Rep K F v d
theorem put_length : ∀ (ρ : Rho) (i : Nat) (x : Option D), (put ρ i x).length = ρ.length
  | [], _, _ => rfl
  | _ :: _, 0, _ => rfl
  | _ :: r, n + 1, y => congrArg (· + 1) (put_length r n y)
theorem at_put_same : ∀ (ρ : Rho) (i : Nat) (x : Option D), i < ρ.length → at_ (put ρ i x) i = x
  | [], _, _, h => by simp at h
  | _ :: _, 0, _, _ => rfl
  | _ :: r, n + 1, y, h => at_put_same r n y (by simpa using h)
theorem at_put_ne : ∀ (ρ : Rho) (i j : Nat) (x : Option D), i ≠ j → at_ (put ρ i x) j = at_ ρ j
  | [], _, _, _, _ => rfl
  | _ :: _, 0, 0, _, h => absurd rfl h
  | _ :: _, 0, _ + 1, _, _ => rfl
  | _ :: _, _ + 1, 0, _, _ => rfl
  | _ :: r, n + 1, m + 1, y, h => at_put_ne r n m y (fun e => h (by rw [e]))
theorem at_lt : ∀ {ρ : Rho} {i : Nat} {d : D}, at_ ρ i = some d → i < ρ.length
  | [], _, _, h => by simp [at_] at h
  | _ :: _, 0, _, _ => Nat.succ_pos _
  | _ :: r, n + 1, _, h => Nat.succ_lt_succ (at_lt (ρ := r) h)
theorem Enr.mono {K : PySem.W.Frag} {F F' : Hp} {σ : L2.St} {ρ : Rho} (s : Same F F') (E : Enr K F σ ρ) : Enr K F' σ ρ :=
  ⟨E.len, fun i d h => let ⟨v, a, r⟩ := E.has i d h; ⟨v, a, r.mono s⟩⟩
theorem Enr.set {K : PySem.W.Frag} {F : Hp} {σ : L2.St} {ρ : Rho} (E : Enr K F σ ρ) (i : Nat) {v : V} {d : D} (r : Rep K F v d) : Enr K F (σ.set i (some v)) (put ρ i (some d)) := by
  refine ⟨by rw [List.length_set, put_length]; exact E.len, fun j e h => ?_⟩
  by_cases hij : i = j
  · subst hij
    have hl := at_lt h
    rw [put_length] at hl
    rw [at_put_same _ _ _ hl] at h
    cases h
    exact ⟨v, by rw [List.getElem?_set_self (by rw [E.len]; exact hl)], r⟩
  · rw [at_put_ne _ _ _ _ hij] at h
    obtain ⟨u, a, ru⟩ := E.has j e h
    exact ⟨u, by rw [List.getElem?_set_ne hij]; exact a, ru⟩
theorem Enr.unset {K : PySem.W.Frag} {F : Hp} {σ : L2.St} {ρ : Rho} (E : Enr K F σ ρ) (i : Nat) (x : Option V) : Enr K F (σ.set i x) (put ρ i none) := by
  refine ⟨by rw [List.length_set, put_length]; exact E.len, fun j e h => ?_⟩
  by_cases hij : i = j
  · subst hij
    have hl := at_lt h
    rw [put_length] at hl
    rw [at_put_same _ _ _ hl] at h
    cases h
  · rw [at_put_ne _ _ _ _ hij] at h
    obtain ⟨u, a, ru⟩ := E.has j e h
    exact ⟨u, by rw [List.getElem?_set_ne hij]; exact a, ru⟩

/-! ### what a step of the heap does to a state -/
section
variable {g : G} {F F' : Hp} {M : Mem} {H : Hp} {a : Addr} {o : HO}
theorem SubF.lst {xs : List V} (s : SubF F H) (h : F a = some (.lst xs)) : H a = some (.lst xs) := by
  rcases s a _ h with q | ⟨q, _⟩
  · exact q
  · cases q
theorem SubF.ins {C dx : Addr} {fs : List (Str × V)} (s : SubF F H) (h : F a = some (.ins C dx fs)) : H a = some (.ins C dx fs) := by
  rcases s a _ h with q | ⟨q, _⟩
  · exact q
  · cases q
theorem SubF.dK {kvs : List (Key × V)} (s : SubF F H) (h : F a = some (.dK kvs)) : Rd H a (.dK kvs) := by
  rcases s a _ h with q | ⟨_, z, q⟩
  · exact .inl q
  · exact .inr ⟨z, q⟩
theorem SubF.nk {xs : List (NestedKey × Addr × Value)} (s : SubF F H) (h : F a = some (hoN a xs)) : Rd H a (hoN a xs) := by
  rcases s a _ h with q | ⟨_, z, q⟩
  · exact .inl q
  · exact .inr ⟨z, q⟩
theorem SubF.tup {xs : List V} (s : SubF F H) (h : F a = some (.tup xs)) : H a = some (.tup xs) := by
  rcases s a _ h with q | ⟨q, _⟩
  · exact q
  · cases q
theorem SubF.sqL {K : PySem.W.Frag} {xs : List V} (s : SubF F H) (h : SqL K F a xs) : SqL K H a xs := by
  rcases h with (h | ⟨z, h⟩) | h
  · exact .inl (.inl (s.lst h))
  · refine .inl (.inr ⟨z, ?_⟩)
    rcases s a _ h with q | ⟨q, _⟩
    · exact q
    · cases q
  · exact .inr h
theorem SubF.sqT {K : PySem.W.Frag} {xs : List V} (s : SubF F H) (h : F a = some (.tup xs)) : SqT K H a xs := .of (s.tup h)
theorem SubF.none (s : SubF F H) (h : H a = none) : F a = none := by
  cases q : F a with
  | none => rfl
  | some o =>
    rcases s a o q with e | ⟨_, z, e⟩
    · rw [h] at e; cases e
    · rw [h] at e; cases e
theorem Sta.fresh (S : Sta g F M H) (h : H a = none) : ∀ m, (a, m) ∉ M := fun m hm => by
  obtain ⟨_, o, e, _⟩ := S.mem a m hm
  rw [h] at e; cases e
theorem Apart.ext {F F' : Hp} {a : Addr} {o : HO} (h : Apart F a o) (e : F' a = F a) : Apart F' a o := by
  unfold Apart
  rw [e]
  exact h
/-- a new object, frozen at once -/
theorem Sta.newF (S : Sta g F M H) (h : H a = none) : Same F (upd F a o) ∧ Sta g (upd F a o) M (upd H a o) := by
  have hF := S.sub.none h
  have s : Same F (upd F a o) := fun b u e => by
    rw [upd_ne (ne_of_none e hF)]; exact e
  refine ⟨s, ⟨fun b u e => ?_, fun b u e => ?_, fun b m hm => ?_, S.nd⟩⟩
  · by_cases hb : b = a
    · subst hb
      rw [upd_same] at e ⊢
      exact .inl e
    · rw [upd_ne hb] at e ⊢
      exact S.sub b u e
  · obtain ⟨h1, h2, h3⟩ := S.out b u e
    have hb : b ≠ a := ne_of_none h1 h
    exact ⟨by rw [upd_ne hb]; exact h1, h2.ext (upd_ne hb), h3⟩
  · obtain ⟨h1, u, h2, h3⟩ := S.mem b m hm
    have hb : b ≠ a := ne_of_none h2 h
    exact ⟨by rw [upd_ne hb]; exact h1, u, by rw [upd_ne hb]; exact h2, h3.mono s⟩
/-- a new object that may change -/
theorem Sta.newM (S : Sta g F M H) (h : H a = none) {m : MO} (r : RepM g.K F a o m) : Sta g F ((a, m) :: M) (upd H a o) := by
  have hF := S.sub.none h
  refine ⟨fun b u e => ?_, fun b u e => ?_, fun b n hm => ?_, ?_⟩
  · have hb : b ≠ a := ne_of_none e hF
    rw [upd_ne hb]
    exact S.sub b u e
  · obtain ⟨h1, h2, h3⟩ := S.out b u e
    have hb : b ≠ a := ne_of_none h1 h
    refine ⟨by rw [upd_ne hb]; exact h1, h2, fun n hn => ?_⟩
    rcases List.mem_cons.mp hn with z | z
    · cases z; exact hb rfl
    · exact h3 n z
  · rcases List.mem_cons.mp hm with z | z
    · cases z
      exact ⟨hF, o, upd_same, r⟩
    · obtain ⟨h1, u, h2, h3⟩ := S.mem b n z
      exact ⟨h1, u, by rw [upd_ne (ne_of_none h2 h)]; exact h2, h3⟩
  · refine List.nodup_cons.mpr ⟨fun z => ?_, S.nd⟩
    obtain ⟨q, hq, e⟩ := List.mem_map.mp z
    obtain ⟨b, n⟩ := q
    cases e
    exact S.fresh h n hq
/-- what H grows by is none of ours -/
theorem Sta.grow (S : Sta g F M H) (h : H a = none) : Sta g F M (upd H a o) := by
  have hF := S.sub.none h
  refine ⟨fun b u e => ?_, fun b u e => ?_, fun b n hm => ?_, S.nd⟩
  · rw [upd_ne (ne_of_none e hF)]; exact S.sub b u e
  · obtain ⟨h1, h2, h3⟩ := S.out b u e
    exact ⟨by rw [upd_ne (ne_of_none h1 h)]; exact h1, h2, h3⟩
  · obtain ⟨h1, u, h2, h3⟩ := S.mem b n hm
    exact ⟨h1, u, by rw [upd_ne (ne_of_none h2 h)]; exact h2, h3⟩
end

/-- a frozen dict is locked -/
theorem Sta.lock {K : PySem.W.Frag} {U F : Hp} {M : Mem} {H : Hp} {a : Addr} {u : HO} {z : Obj} (S : Sta ⟨K, U⟩ F M H) (hF : F a = some u) (hd : isDct u = true) (hH : H a = some u) : Sta ⟨K, upd U a (.frz z u)⟩ F M (upd H a (.frz z u)) ∧ U a = none := by
  have hU : U a = none := by
    cases e : U a with
    | none => rfl
    | some o =>
      obtain ⟨h1, h2, _⟩ := S.out a o e
      rcases h2 with h2 | ⟨z', u', h2, h3, h4⟩
      · rw [hF] at h2; cases h2
      · rw [hH] at h1
        cases h1
        subst h2
        rw [hF] at h3
        cases h3
  refine ⟨⟨fun b o e => ?_, fun b o e => ?_, fun b m hm => ?_, S.nd⟩, hU⟩
  · by_cases hb : b = a
    · subst hb
      rw [hF] at e
      cases e
      exact .inr ⟨hd, z, upd_same⟩
    · rw [upd_ne hb]
      exact S.sub b o e
  · by_cases hb : b = a
    · subst hb
      have e' : upd U b (.frz z u) b = some o := e
      rw [upd_same] at e'
      cases e'
      exact ⟨upd_same, .inr ⟨z, u, rfl, hF, hd⟩, fun m hm => by rw [(S.mem b m hm).1] at hF; cases hF⟩
    · have e' : upd U a (.frz z u) b = some o := e
      rw [upd_ne hb] at e'
      obtain ⟨h1, h2, h3⟩ := S.out b o e'
      exact ⟨by rw [upd_ne hb]; exact h1, h2, h3⟩
  · obtain ⟨h1, w, h2, h3⟩ := S.mem b m hm
    have hb : b ≠ a := fun q => by
      subst q
      rw [hF] at h1
      cases h1
    exact ⟨h1, w, by rw [upd_ne hb]; exact h2, h3⟩
theorem Sta.less {K : PySem.W.Frag} {U U' F : Hp} {M : Mem} {H : Hp} (S : Sta ⟨K, U'⟩ F M H) (h : Same U U') : Sta ⟨K, U⟩ F M H := ⟨S.sub, fun b o e => S.out b o (h b o e), S.mem, S.nd⟩

/-- M with n in the place of m at a -/
inductive Upd (a : Addr) (m n : MO) : Mem → Mem → Prop
  | head {r : Mem} : Upd a m n ((a, m) :: r) ((a, n) :: r)
  | tail {p : Addr × MO} {r r' : Mem} : Upd a m n r r' → Upd a m n (p :: r) (p :: r')
inductive Del (a : Addr) (m : MO) : Mem → Mem → Prop
  | head {r : Mem} : Del a m ((a, m) :: r) r
  | tail {p : Addr × MO} {r r' : Mem} : Del a m r r' → Del a m (p :: r) (p :: r')
theorem Upd.old {a : Addr} {m n : MO} : ∀ {M M' : Mem}, Upd a m n M M' → (a, m) ∈ M
  | _, _, .head => List.mem_cons_self
  | _, _, .tail h => List.mem_cons_of_mem _ (Upd.old h)
theorem Upd.keys {a : Addr} {m n : MO} : ∀ {M M' : Mem}, Upd a m n M M' → M'.map (·.1) = M.map (·.1)
  | _, _, .head => rfl
  | _, _, .tail h => by rw [List.map_cons, List.map_cons, Upd.keys h]
theorem Upd.mem {a : Addr} {m n : MO} : ∀ {M M' : Mem} {b : Addr} {x : MO}, Upd a m n M M' → (b, x) ∈ M' → (b = a ∧ x = n) ∨ (b, x) ∈ M
  | _, _, b, x, .head, h => by
    rcases List.mem_cons.mp h with z | z
    · cases z; exact .inl ⟨rfl, rfl⟩
    · exact .inr (List.mem_cons_of_mem _ z)
  | _, _, b, x, .tail u, h => by
    rcases List.mem_cons.mp h with z | z
    · rw [z]; exact .inr List.mem_cons_self
    · rcases Upd.mem u z with q | q
      · exact .inl q
      · exact .inr (List.mem_cons_of_mem _ q)
theorem Del.old {a : Addr} {m : MO} : ∀ {M M' : Mem}, Del a m M M' → (a, m) ∈ M
  | _, _, .head => List.mem_cons_self
  | _, _, .tail h => List.mem_cons_of_mem _ (Del.old h)
theorem Del.mem {a : Addr} {m : MO} : ∀ {M M' : Mem} {p : Addr × MO}, Del a m M M' → p ∈ M' → p ∈ M
  | _, _, _, .head, h => List.mem_cons_of_mem _ h
  | _, _, p, .tail u, h => by
    rcases List.mem_cons.mp h with z | z
    · rw [z]; exact List.mem_cons_self
    · exact List.mem_cons_of_mem _ (Del.mem u z)
theorem Del.sub {a : Addr} {m : MO} : ∀ {M M' : Mem}, Del a m M M' → (M'.map (·.1)).Sublist (M.map (·.1))
  | _, _, .head => List.Sublist.cons _ (List.Sublist.refl _)
  | _, _, .tail u => List.Sublist.cons_cons _ (Del.sub u)
theorem key_unique {M : Mem} (nd : (M.map (·.1)).Nodup) {a : Addr} {m n : MO} (h1 : (a, m) ∈ M) (h2 : (a, n) ∈ M) : m = n := by
  induction M with
  | nil => cases h1
  | cons p r ih =>
    obtain ⟨d1, d2⟩ := List.nodup_cons.mp nd
    rcases List.mem_cons.mp h1 with e1 | e1
    · rcases List.mem_cons.mp h2 with e2 | e2
      · rw [← e1] at e2; cases e2; rfl
      · subst e1
        exact absurd (List.mem_map.mpr ⟨(a, n), e2, rfl⟩) d1
    · rcases List.mem_cons.mp h2 with e2 | e2
      · subst e2
        exact absurd (List.mem_map.mpr ⟨(a, m), e1, rfl⟩) d1
      · exact ih d2 e1 e2
theorem Del.gone {a : Addr} {m : MO} : ∀ {M M' : Mem}, Del a m M M' → (M.map (·.1)).Nodup → ∀ n, (a, n) ∉ M'
  | _, _, .head, nd, n, h => (List.nodup_cons.mp nd).1 (List.mem_map.mpr ⟨(a, n), h, rfl⟩)
  | _, _, .tail (p := p) (r := r) u, nd, n, h => by
    obtain ⟨d1, d2⟩ := List.nodup_cons.mp nd
    rcases List.mem_cons.mp h with z | z
    · have e : p.1 = a := by rw [← z]
      exact d1 (List.mem_map.mpr ⟨(a, m), Del.old u, e.symm⟩)
    · exact Del.gone u d2 n z
section
variable {g : G} {F F' : Hp} {M M' : Mem} {H : Hp} {a : Addr} {o o' : HO} {m n : MO}
/-- the object at a is changed -/
theorem Sta.upd (S : Sta g F M H) (u : Upd a m n M M') (r : RepM g.K F a o n) : Sta g F M' (L2.upd H a o) := by
  obtain ⟨hF, _, hH, _⟩ := S.mem a m u.old
  refine ⟨fun b w e => ?_, fun b w e => ?_, fun b x hx => ?_, by rw [u.keys]; exact S.nd⟩
  · rw [upd_ne (ne_of_none e hF)]
    exact S.sub b w e
  · obtain ⟨h1, h2, h3⟩ := S.out b w e
    have hb : b ≠ a := fun z => by subst z; exact h3 m u.old
    refine ⟨by rw [upd_ne hb]; exact h1, h2, fun x hx => ?_⟩
    rcases u.mem hx with ⟨z, _⟩ | z
    · exact hb z
    · exact h3 x z
  · by_cases hb : b = a
    · subst hb
      have e : x = n := by
        have k : (b, n) ∈ M' := by
          clear r hF hH S hx
          induction u with
          | head => exact List.mem_cons_self
          | tail _ ih => exact List.mem_cons_of_mem _ ih
        exact key_unique (by rw [u.keys]; exact S.nd) hx k
      subst e
      exact ⟨hF, o, upd_same, r⟩
    · rcases u.mem hx with ⟨z, _⟩ | z
      · exact absurd z hb
      · obtain ⟨h1, w, h2, h3⟩ := S.mem b x z
        exact ⟨h1, w, by rw [upd_ne hb]; exact h2, h3⟩
/-- the object at a is frozen -/
theorem Sta.frz (S : Sta g F M H) (u : Del a m M M') (h : H a = some o) : Same F (L2.upd F a o) ∧ Sta g (L2.upd F a o) M' H := by
  obtain ⟨hF, _⟩ := S.mem a m u.old
  have s : Same F (L2.upd F a o) := fun b w e => by rw [upd_ne (ne_of_none e hF)]; exact e
  refine ⟨s, ⟨fun b w e => ?_, fun b w e => ?_, fun b x hx => ?_, S.nd.sublist u.sub⟩⟩
  · by_cases hb : b = a
    · subst hb
      rw [upd_same] at e
      cases e
      exact .inl h
    · rw [upd_ne hb] at e
      exact S.sub b w e
  · obtain ⟨h1, h2, h3⟩ := S.out b w e
    have hb : b ≠ a := fun z => by subst z; exact h3 m u.old
    exact ⟨h1, h2.ext (upd_ne hb), fun x hx => h3 x (u.mem hx)⟩
  · obtain ⟨h1, w, h2, h3⟩ := S.mem b x (u.mem hx)
    have hb : b ≠ a := fun z => by subst z; exact u.gone S.nd x hx
    exact ⟨by rw [upd_ne hb]; exact h1, w, h2, h3.mono s⟩
end
end DL
namespace DL
variable [Wd]
open PySem L2

abbrev XD := Addr → Addr → Mem → Prop
abbrev DE := Rho → Mem → (D → Mem → Prop) → XD → Prop
abbrev DT := Rho → Mem → (Bool → Mem → Prop) → XD → Prop
abbrev DA := Rho → Mem → (List D → Mem → Prop) → XD → Prop
abbrev NX := Rho → Mem → Prop
/-- next, return, break, continue, an exception (its class, its dict) -/
abbrev DS := NX → (D → Mem → Prop) → NX → NX → (Addr → Addr → Rho → Mem → Prop) → Rho → Mem → Prop
abbrev DG := D → Rho → Mem → NX → Prop
abbrev SpD := List D → Mem → (D → Mem → Prop) → XD → Prop

section
variable (g : G) (W : WX)
def liftE (de : DE) : TE := fun σ H k => ∃ ρ M F Q E, Sta g F M H ∧ Enr g.K F σ ρ ∧ de ρ M Q E ∧
  (∀ d M' F' v H', Q d M' → Same F F' → Sta g F' M' H' → Rep g.K F' v d → k v H') ∧ (∀ C dd M' F' H', E C dd M' → Same F F' → Sta g F' M' H' → W (.ref C) (some dd) σ H')
def liftT (dt : DT) : TT := fun σ H k => ∃ ρ M F Q E, Sta g F M H ∧ Enr g.K F σ ρ ∧ dt ρ M Q E ∧
  (∀ b M' F' H', Q b M' → Same F F' → Sta g F' M' H' → k b H') ∧ (∀ C dd M' F' H', E C dd M' → Same F F' → Sta g F' M' H' → W (.ref C) (some dd) σ H')
def liftA (da : DA) : TA := fun σ H k => ∃ ρ M F Q E, Sta g F M H ∧ Enr g.K F σ ρ ∧ da ρ M Q E ∧
  (∀ ds M' F' vs H', Q ds M' → Same F F' → Sta g F' M' H' → Reps g.K F' vs ds → k vs H') ∧ (∀ C dd M' F' H', E C dd M' → Same F F' → Sta g F' M' H' → W (.ref C) (some dd) σ H')
def liftS (ds : DS) : TS := fun D σ H => ∃ ρ M F nx rt bk ct ex, Sta g F M H ∧ Enr g.K F σ ρ ∧ ds nx rt bk ct ex ρ M ∧
  (∀ ρ' M' F' σ' H', nx ρ' M' → Same F F' → Sta g F' M' H' → Enr g.K F' σ' ρ' → D.nx σ' H') ∧
  (∀ d M' F' v H', rt d M' → Same F F' → Sta g F' M' H' → Rep g.K F' v d → D.rt v H') ∧
  (∀ ρ' M' F' σ' H', bk ρ' M' → Same F F' → Sta g F' M' H' → Enr g.K F' σ' ρ' → D.bk σ' H') ∧
  (∀ ρ' M' F' σ' H', ct ρ' M' → Same F F' → Sta g F' M' H' → Enr g.K F' σ' ρ' → D.ct σ' H') ∧
  (∀ C dd ρ' M' F' σ' H', ex C dd ρ' M' → Same F F' → Sta g F' M' H' → Enr g.K F' σ' ρ' → W (.ref C) (some dd) σ' H')
def liftG (dg : DG) : TG := fun x σ H k => ∃ ρ M F d Q, Sta g F M H ∧ Enr g.K F σ ρ ∧ Rep g.K F x d ∧ dg d ρ M Q ∧
  (∀ ρ' M' F' σ' H', Q ρ' M' → Same F F' → Sta g F' M' H' → Enr g.K F' σ' ρ' → k σ' H')
end
theorem _root_.L2.PE.imp {X : Cx} {e : Expr} {t t' : TE} (h : PE X e t) (i : ∀ σ H k, t' σ H k → t σ H k) : PE X e t' := ⟨fun pins s σ H k I q => h.run pins s σ H k I (i σ H k q)⟩
theorem _root_.L2.PT.imp {X : Cx} {e : Expr} {t t' : TT} (h : PT X e t) (i : ∀ σ H k, t' σ H k → t σ H k) : PT X e t' := ⟨fun pins s σ H k I q => h.run pins s σ H k I (i σ H k q)⟩
theorem _root_.L2.PA.imp {X : Cx} {e : List Expr} {t t' : TA} (h : PA X e t) (i : ∀ σ H k, t' σ H k → t σ H k) : PA X e t' := ⟨fun pos pins s σ H k I q => h.run pos pins s σ H k I (i σ H k q)⟩
theorem _root_.L2.PS.imp {X : Cx} {e : Stmt} {t t' : TS} (h : PS X e t) (i : ∀ D σ H, t' D σ H → t D σ H) : PS X e t' := ⟨fun pins s σ H D I q => h.run pins s σ H D I (i D σ H q)⟩
theorem _root_.L2.PSs.imp {X : Cx} {e : List Stmt} {t t' : TS} (h : PSs X e t) (i : ∀ D σ H, t' D σ H → t D σ H) : PSs X e t' := ⟨fun pins s σ H D I q => h.run pins s σ H D I (i D σ H q)⟩
theorem _root_.L2.PG.imp {X : Cx} {e : Expr} {t t' : TG} (h : PG X e t) (i : ∀ v σ H k, t' v σ H k → t v σ H k) : PG X e t' := ⟨fun pins s σ H v u k I r q => h.run pins s σ H v u k I r (i v σ H k q)⟩
theorem _root_.L2.OpR.imp {X : Cx} {f : Value → Value → Sem Value} {r r' : R2} (h : OpR X f r) (i : ∀ x y H Q, r' x y H Q → r x y H Q) : OpR X f r' := fun pins s σ H x y v u Q I rx ry q => h pins s σ H x y v u Q I rx ry (i x y H Q q)
theorem _root_.L2.CallR.imp {X : Cx} {f : Value} {r r' : List V → Hp → VK → Prop} (h : CallR X f r) (i : ∀ xs H Q, r' xs H Q → r xs H Q) : CallR X f r' := fun pins s σ H xs us Q I rx q => h pins s σ H xs us Q I rx (i xs H Q q)
theorem _root_.L2.MtR.imp {X : Cx} {id : String} {r r' : V → List V → Hp → VK → Prop} (h : MtR X id r) (i : ∀ x xs H Q, r' x xs H Q → r x xs H Q) : MtR X id r' := fun pins s σ H x xs v us Q I rx rv q => h pins s σ H x xs v us Q I rx rv (i x xs H Q q)
theorem _root_.L2.Same.t {H H1 H2 : Hp} (a : Same H H1) (b : Same H1 H2) : Same H H2 := a.trans b
theorem _root_.L2.Same.r (H : Hp) : Same H H := Same.refl H

section
variable {X : Cx} {g : G} {W : WX} {pos : Pos} {a b c e : Expr} {es : List Expr} {da db dc de : DE} {dA : DA} {dt du : DT} {op : Operator}
/-! ### names and constants -/
def dVar (i : Nat) : DE := fun ρ M Q _ => ∃ d, at_ ρ i = some d ∧ Q d M
def dC (d : D) : DE := fun _ M Q _ => Q d M
theorem de_var (i : Nat) {x : Str} (hN : X.N[i]? = some x := by rfl) (hv : Vis X.env.scope x := by first | exact Or.inl rfl | exact Or.inr (Or.inl rfl) | exact Or.inr (Or.inr rfl)) (hd : (x == ("__debug__" : Str)) = false := by decide)
    (hcd : (x == ("__classdict__" : Str)) = false := by decide) : PE X (.Name x pos) (liftE g W (dVar i)) :=
  (pe_var hN hv hd hcd).imp fun σ H k ⟨ρ, M, F, Q, E, S, En, ⟨d, hd, q⟩, kQ, _⟩ => by
    obtain ⟨v, hv, r⟩ := En.has i d hd
    exact ⟨v, hv, kQ d M F v H q (Same.r F) S r⟩
theorem de_c {v : V} {d : D} (h : PE X e (tC v)) (r : ∀ F, Rep g.K F v d) : PE X e (liftE g W (dC d)) :=
  h.imp fun σ H k ⟨ρ, M, F, Q, E, S, En, q, kQ, _⟩ => kQ d M F v H q (Same.r F) S (r F)
theorem de_int {i : Int} {j : Nat} : PE X (.Constant (.int i) j pos) (liftE g W (dC (.int i))) := de_c pe_int fun _ => .int i
theorem de_bl {b : Bool} {j : Nat} : PE X (.Constant (.bool b) j pos) (liftE g W (dC (.bl b))) := de_c pe_bl fun _ => .bl b
theorem de_non {j : Nat} : PE X (.Constant .none j pos) (liftE g W (dC .non)) := de_c pe_non fun _ => .non
theorem de_str {x : Str} {j : Nat} : PE X (.Constant (.str x) j pos) (liftE g W (dC (.str x))) := de_c pe_str fun _ => .str x
theorem de_globI {x : Str} {i : Int} {t : Tok} (hg : Gl X x) (hm : X.mg x = some (.int i t)) (hd : (x == ("__debug__" : Str)) = false := by decide) : PE X (.Name x pos) (liftE g W (dC (.int i))) := de_c (v := .int i) (pe_glob hg hm ⟨t, rfl⟩ hd) fun _ => .int i

/-! ### a value of another form by the same step: data frozen behind an expression -/
/-- d of M may be taken as d' of M' -/
def Fz (g : G) (d : D) (M : Mem) (d' : D) (M' : Mem) : Prop := ∀ F v H, Sta g F M H → Rep g.K F v d → ∃ F', Same F F' ∧ Sta g F' M' H ∧ Rep g.K F' v d'
theorem Fz.refl (d : D) (M : Mem) : Fz g d M d M := fun F _ _ S r => ⟨F, Same.r F, S, r⟩
theorem Fz.trans {d d' d'' : D} {M M' M'' : Mem} (a : Fz g d M d' M') (b : Fz g d' M' d'' M'') : Fz g d M d'' M'' := fun F v H S r => by
  obtain ⟨F1, s1, S1, r1⟩ := a F v H S r
  obtain ⟨F2, s2, S2, r2⟩ := b F1 v H S1 r1
  exact ⟨F2, s1.t s2, S2, r2⟩
def frzD : MO → Option D
  | .lst ds => some (.lst ds)
  | .dic es => some (.dic es)
  | .dit es => some (.dit es)
  | .obj C es => some (.obj C es)
  | _ => none
theorem rep_frz {K : PySem.W.Frag} {F : Hp} {p : Addr} {o : HO} {m : MO} {d : D} (h : frzD m = some d) (r : RepM K F p o m) (e : F p = some o) : Rep K F (.ref p) d := by
  cases m with
  | lst ds => cases h; obtain ⟨xs, rfl, r⟩ := r; exact .lst e r
  | dic es => cases h; obtain ⟨xs, rfl, l, r⟩ := r; exact .dic e l r
  | dit es => cases h; obtain ⟨xs, rfl, vs, l, r1, rv, r2⟩ := r; exact .dit e l r1 rv r2
  | obj C es => cases h; obtain ⟨dx, xs, rfl, l, r⟩ := r; exact .obj e l r
  | xd es => cases h
  | exd _ es => cases h
  | raw u => cases h
/-- what stands at p may be taken as the data itself -/
theorem Fz.one {p : Addr} {m : MO} {d : D} {M M' : Mem} (u : Del p m M M') (h : frzD m = some d) : Fz g (.ptr p) M d M' := fun F v H S r => by
  cases r
  obtain ⟨hF, o, ho, rm⟩ := S.mem p m u.old
  obtain ⟨s, S'⟩ := S.frz u ho
  exact ⟨_, s, S', rep_frz h (rm.mono s) upd_same⟩
def dZ (g : G) (de : DE) : DE := fun ρ M Q E => de ρ M (fun d M' => ∃ d' M'', Fz g d M' d' M'' ∧ Q d' M'') E
theorem de_z (h : PE X e (liftE g W de)) : PE X e (liftE g W (dZ g de)) :=
  h.imp fun σ H k ⟨ρ, M, F, Q, E, S, En, q, kQ, kE⟩ => ⟨ρ, M, F, _, E, S, En, q, fun d M' F' v H' ⟨d', M'', z, q'⟩ s S' r => by
    obtain ⟨F2, s2, S2, r2⟩ := z F' v H' S' r
    exact kQ d' M'' F2 v H' q' (s.t s2) S2 r2, kE⟩

/-! ### operators by values -/
abbrev DR2 := D → D → Mem → (D → Mem → Prop) → Prop
def liftR (g : G) (r : DR2) : R2 := fun x y H k => ∃ F M d e Q, Sta g F M H ∧ Rep g.K F x d ∧ Rep g.K F y e ∧ r d e M Q ∧ ∀ d' M' F' v H', Q d' M' → Same F F' → Sta g F' M' H' → Rep g.K F' v d' → k v H'
def OpD (X : Cx) (g : G) (f : Value → Value → Sem Value) (r : DR2) : Prop := OpR X f (liftR g r)
def dOp (r : DR2) (da db : DE) : DE := fun ρ M Q E => da ρ M (fun d M1 => db ρ M1 (fun e M2 => r d e M2 Q) E) E
theorem lift_op {r : DR2} {σ : L2.St} {H : Hp} {k : VK} (h : liftE g W (dOp r da db) σ H k) : tOp (liftR g r) (liftE g W da) (liftE g W db) σ H k := by
  obtain ⟨ρ, M, F, Q, E, S, En, q, kQ, kE⟩ := h
  refine ⟨ρ, M, F, _, E, S, En, q, fun d M1 F1 v H1 q1 s1 S1 r1 => ?_, kE⟩
  refine ⟨ρ, M1, F1, _, E, S1, En.mono s1, q1, fun e M2 F2 u H2 q2 s2 S2 r2 => ?_, fun C dd M' F' H' z s S' => kE C dd M' F' H' z (s1.t s) S'⟩
  exact ⟨F2, M2, d, e, Q, S2, r1.mono s2, r2, q2, fun d' M' F' w H' z s S' r => kQ d' M' F' w H' z ((s1.t s2).t s) S' r⟩
theorem de_op {r : DR2} (ho : OpD X g (binaryOp op) r) (ha : PE X a (liftE g W da)) (hb : PE X b (liftE g W db)) : PE X (.BinOp a op b pos) (liftE g W (dOp r da db)) :=
  (pe_op ho ha hb).imp fun _ _ _ h => lift_op h
theorem de_cmp {r : DR2} {cop : CmpOp} (ho : OpD X g (compareOp cop) r) (ha : PE X a (liftE g W da)) (hb : PE X b (liftE g W db)) (hm : behindInMarks cop b = false) : PE X (.Compare a [cop] [b] pos) (liftE g W (dOp r da db)) :=
  (pe_cmpR ho ha hb hm).imp fun _ _ _ h => lift_op h
theorem dt_cmp {r : DR2} {cop : CmpOp} (ho : OpD X g (compareOp cop) r) (ha : PE X a (liftE g W da)) (hb : PE X b (liftE g W db)) (hm : behindInMarks cop b = false) :
    PT X (.Compare a [cop] [b] pos) (liftT g W (fun ρ M Q E => dOp r da db ρ M (fun d M' => ∃ k, d = .bl k ∧ Q k M') E)) :=
  (pt_cmpR ho ha hb hm).imp fun σ H k ⟨ρ, M, F, Q, E, S, En, q, kQ, kE⟩ => lift_op (W := W) ⟨ρ, M, F, _, E, S, En, q, fun d M' F' v H' ⟨b, e, z⟩ s S' r => by
    subst e
    cases r
    exact ⟨b, rfl, kQ b M' F' H' z s S'⟩, kE⟩

/-! ### tests -/
/-- an expression that gives a bool, as a test -/
def dB (de : DE) : DT := fun ρ M Q E => de ρ M (fun d M' => ∃ k, d = .bl k ∧ Q k M') E
theorem dt_val (h : PE X e (liftE g W de)) (he : ∀ whole, isTrue e X.env whole = (do let v ← whole; standAt e.pos; holding [v] (truthy v)) := by intro _; rfl) : PT X e (liftT g W (dB de)) :=
  (pt_val h he).imp fun σ H k ⟨ρ, M, F, Q, E, S, En, q, kQ, kE⟩ => ⟨ρ, M, F, _, E, S, En, q, fun d M' F' v H' ⟨b, e, z⟩ s S' r => by
    subst e
    cases r
    exact ⟨b, rfl, kQ b M' F' H' z s S'⟩, kE⟩
def dAnd (dt du : DT) : DT := fun ρ M Q E => dt ρ M (fun c M1 => if c = true then du ρ M1 Q E else Q false M1) E
def dOr (dt du : DT) : DT := fun ρ M Q E => dt ρ M (fun c M1 => if c = true then Q true M1 else du ρ M1 Q E) E
def dNot (dt : DT) : DT := fun ρ M Q E => dt ρ M (fun c M1 => Q (!c) M1) E
theorem dt_not (h : PT X a (liftT g W dt)) : PT X (.UnaryOp .Not a pos) (liftT g W (dNot dt)) :=
  (pt_not h).imp fun σ H k ⟨ρ, M, F, Q, E, S, En, q, kQ, kE⟩ => ⟨ρ, M, F, _, E, S, En, q, fun b M' F' H' z s S' => kQ _ M' F' H' z s S', kE⟩
structure PWd (X : Cx) (g : G) (W : WX) (e : Expr) (dt : DT) : Prop where
  pw : PW X e (liftT g W dt)
theorem _root_.L2.PW.imp {X : Cx} {e : Expr} {t t' : TT} (h : PW X e t) (i : ∀ σ H k, t' σ H k → t σ H k) : PW X e t' := ⟨fun w pins s σ H k I q => h.run w pins s σ H k I (i σ H k q)⟩
theorem dw_and1 (ha : PT X a (liftT g W dt)) : PWd X g W (.BoolOp .And [a] pos) dt := ⟨pw_and1 ha⟩
theorem dw_or1 (ha : PT X a (liftT g W dt)) : PWd X g W (.BoolOp .Or [a] pos) dt := ⟨pw_or1 ha⟩
theorem dw_and (ha : PT X a (liftT g W dt)) (hb : PWd X g W (.BoolOp .And (b :: es) pos) du) : PWd X g W (.BoolOp .And (a :: b :: es) pos) (dAnd dt du) :=
  ⟨(pw_and ha hb.pw).imp fun σ H k ⟨ρ, M, F, Q, E, S, En, q, kQ, kE⟩ => ⟨ρ, M, F, _, E, S, En, q, fun c M' F' H' z s S' => by
    cases c with
    | true =>
      rw [if_pos rfl] at z ⊢
      exact ⟨ρ, M', F', Q, E, S', En.mono s, z, fun b M2 F2 H2 q2 s2 S2 => kQ b M2 F2 H2 q2 (s.t s2) S2, fun C dd M2 F2 H2 q2 s2 S2 => kE C dd M2 F2 H2 q2 (s.t s2) S2⟩
    | false =>
      rw [if_neg Bool.false_ne_true] at z ⊢
      exact kQ false M' F' H' z s S', kE⟩⟩
theorem dw_or (ha : PT X a (liftT g W dt)) (hb : PWd X g W (.BoolOp .Or (b :: es) pos) du) : PWd X g W (.BoolOp .Or (a :: b :: es) pos) (dOr dt du) :=
  ⟨(pw_or ha hb.pw).imp fun σ H k ⟨ρ, M, F, Q, E, S, En, q, kQ, kE⟩ => ⟨ρ, M, F, _, E, S, En, q, fun c M' F' H' z s S' => by
    cases c with
    | true =>
      rw [if_pos rfl] at z ⊢
      exact kQ true M' F' H' z s S'
    | false =>
      rw [if_neg Bool.false_ne_true] at z ⊢
      exact ⟨ρ, M', F', Q, E, S', En.mono s, z, fun b M2 F2 H2 q2 s2 S2 => kQ b M2 F2 H2 q2 (s.t s2) S2, fun C dd M2 F2 H2 q2 s2 S2 => kE C dd M2 F2 H2 q2 (s.t s2) S2⟩, kE⟩⟩
theorem dt_w (h : PWd X g W e dt) : PT X e (liftT g W dt) := h.pw.pt
/-- and, or, not of bools as values -/
def dAndV (da db : DE) : DE := fun ρ M Q E => da ρ M (fun d M1 => ∃ c, d = .bl c ∧ if c = true then db ρ M1 Q E else Q (.bl false) M1) E
def dOrV (da db : DE) : DE := fun ρ M Q E => da ρ M (fun d M1 => ∃ c, d = .bl c ∧ if c = true then Q (.bl true) M1 else db ρ M1 Q E) E
def dNotV (da : DE) : DE := fun ρ M Q E => da ρ M (fun d M1 => ∃ c, d = .bl c ∧ Q (.bl (!c)) M1) E
theorem de_one {bop : BoolOp} (h : PE X a (liftE g W da)) : PE X (.BoolOp bop [a] pos) (liftE g W da) := pe_one h
theorem de_and (ha : PE X a (liftE g W da)) (hb : PE X (.BoolOp .And (b :: es) pos) (liftE g W db)) : PE X (.BoolOp .And (a :: b :: es) pos) (liftE g W (dAndV da db)) :=
  (pe_and ha hb).imp fun σ H k ⟨ρ, M, F, Q, E, S, En, q, kQ, kE⟩ => ⟨ρ, M, F, _, E, S, En, q, fun d M' F' v H' ⟨c, ec, z⟩ s S' r => by
    subst ec
    cases r
    refine ⟨c, rfl, ?_⟩
    cases c with
    | true =>
      rw [if_pos rfl] at z ⊢
      exact ⟨ρ, M', F', Q, E, S', En.mono s, z, fun b M2 F2 v2 H2 q2 s2 S2 => kQ b M2 F2 v2 H2 q2 (s.t s2) S2, fun C dd M2 F2 H2 q2 s2 S2 => kE C dd M2 F2 H2 q2 (s.t s2) S2⟩
    | false =>
      rw [if_neg Bool.false_ne_true] at z ⊢
      exact kQ _ M' F' _ H' z s S' (.bl false), kE⟩
theorem de_or (ha : PE X a (liftE g W da)) (hb : PE X (.BoolOp .Or (b :: es) pos) (liftE g W db)) : PE X (.BoolOp .Or (a :: b :: es) pos) (liftE g W (dOrV da db)) :=
  (pe_or ha hb).imp fun σ H k ⟨ρ, M, F, Q, E, S, En, q, kQ, kE⟩ => ⟨ρ, M, F, _, E, S, En, q, fun d M' F' v H' ⟨c, ec, z⟩ s S' r => by
    subst ec
    cases r
    refine ⟨c, rfl, ?_⟩
    cases c with
    | true =>
      rw [if_pos rfl] at z ⊢
      exact kQ _ M' F' _ H' z s S' (.bl true)
    | false =>
      rw [if_neg Bool.false_ne_true] at z ⊢
      exact ⟨ρ, M', F', Q, E, S', En.mono s, z, fun b M2 F2 v2 H2 q2 s2 S2 => kQ b M2 F2 v2 H2 q2 (s.t s2) S2, fun C dd M2 F2 H2 q2 s2 S2 => kE C dd M2 F2 H2 q2 (s.t s2) S2⟩, kE⟩
theorem de_not (ha : PE X a (liftE g W da)) : PE X (.UnaryOp .Not a pos) (liftE g W (dNotV da)) :=
  (pe_not ha).imp fun σ H k ⟨ρ, M, F, Q, E, S, En, q, kQ, kE⟩ => ⟨ρ, M, F, _, E, S, En, q, fun d M' F' v H' ⟨c, ec, z⟩ s S' r => by
    subst ec
    cases r
    exact ⟨c, rfl, kQ _ M' F' _ H' z s S' (.bl _)⟩, kE⟩
def dIf (dt : DT) (da db : DE) : DE := fun ρ M Q E => dt ρ M (fun c M1 => if c = true then da ρ M1 Q E else db ρ M1 Q E) E
theorem de_if {t : Expr} (ht : PT X t (liftT g W dt)) (ha : PE X a (liftE g W da)) (hb : PE X b (liftE g W db)) : PE X (.IfExp t a b pos) (liftE g W (dIf dt da db)) :=
  (pe_ifExp ht ha hb).imp fun σ H k ⟨ρ, M, F, Q, E, S, En, q, kQ, kE⟩ => ⟨ρ, M, F, _, E, S, En, q, fun c M' F' H' z s S' => by
    cases c with
    | true =>
      rw [if_pos rfl] at z ⊢
      exact ⟨ρ, M', F', Q, E, S', En.mono s, z, fun b M2 F2 v2 H2 q2 s2 S2 => kQ b M2 F2 v2 H2 q2 (s.t s2) S2, fun C dd M2 F2 H2 q2 s2 S2 => kE C dd M2 F2 H2 q2 (s.t s2) S2⟩
    | false =>
      rw [if_neg Bool.false_ne_true] at z ⊢
      exact ⟨ρ, M', F', Q, E, S', En.mono s, z, fun b M2 F2 v2 H2 q2 s2 S2 => kQ b M2 F2 v2 H2 q2 (s.t s2) S2, fun C dd M2 F2 H2 q2 s2 S2 => kE C dd M2 F2 H2 q2 (s.t s2) S2⟩, kE⟩
/-- a < b < c -/
def dChain (r r' : DR2) (da db dc : DE) : DE := fun ρ M Q E => da ρ M (fun d M1 => db ρ M1 (fun e M2 => r d e M2 fun z M3 => ∃ k, z = .bl k ∧ if k = true then dc ρ M3 (fun f M4 => r' e f M4 Q) E else Q (.bl false) M3) E) E
theorem de_chain {r r' : DR2} {op op' : CmpOp} (ho : OpD X g (compareOp op) r) (ho' : OpD X g (compareOp op') r') (ha : PE X a (liftE g W da)) (hb : PE X b (liftE g W db)) (hc : PE X c (liftE g W dc))
    (h : PE X (.Compare a [op, op'] [b, c] pos) (tChain (liftR g r) (liftR g r') (liftE g W da) (liftE g W db) (liftE g W dc))) : PE X (.Compare a [op, op'] [b, c] pos) (liftE g W (dChain r r' da db dc)) :=
  h.imp fun σ H k ⟨ρ, M, F, Q, E, S, En, q, kQ, kE⟩ => by
    refine ⟨ρ, M, F, _, E, S, En, q, fun d M1 F1 v H1 q1 s1 S1 r1 => ?_, kE⟩
    refine ⟨ρ, M1, F1, _, E, S1, En.mono s1, q1, fun e M2 F2 u H2 q2 s2 S2 r2 => ?_, fun C dd M' F' H' z s S' => kE C dd M' F' H' z (s1.t s) S'⟩
    refine ⟨F2, M2, d, e, _, S2, r1.mono s2, r2, q2, fun z M3 F3 w H3 ⟨b, ez, q3⟩ s3 S3 r3 => ?_⟩
    subst ez
    cases r3
    refine ⟨b, rfl, ?_⟩
    cases b with
    | true =>
      rw [if_pos rfl] at q3 ⊢
      refine ⟨ρ, M3, F3, _, E, S3, (En.mono (s1.t s2)).mono s3, q3, fun f M4 F4 y H4 q4 s4 S4 r4 => ?_, fun C dd M' F' H' z s S' => kE C dd M' F' H' z (((s1.t s2).t s3).t s) S'⟩
      exact ⟨F4, M4, e, f, Q, S4, (r2.mono s3).mono s4, r4, q4, fun d' M' F' w H' z s S' r => kQ d' M' F' w H' z ((((s1.t s2).t s3).t s4).t s) S' r⟩
    | false =>
      rw [if_neg Bool.false_ne_true] at q3 ⊢
      exact kQ _ M3 F3 _ H3 q3 ((s1.t s2).t s3) S3 (.bl false)

/-! ### arguments, displays -/
def dNil : DA := fun _ M Q _ => Q [] M
def dCons (de : DE) (dA : DA) : DA := fun ρ M Q E => de ρ M (fun d M1 => dA ρ M1 (fun ds M2 => Q (d :: ds) M2) E) E
theorem da_nil : PA X [] (liftA g W dNil) := (pa_nil).imp fun σ H k ⟨ρ, M, F, Q, E, S, En, q, kQ, kE⟩ => kQ [] M F [] H q (Same.r F) S .nil
theorem da_cons (ha : PE X e (liftE g W de)) (hr : PA X es (liftA g W dA)) (hs : starEach (e :: es) X.env = (false, eval e X.env) :: starEach es X.env := by rfl) : PA X (e :: es) (liftA g W (dCons de dA)) :=
  (pa_cons ha hr hs).imp fun σ H k ⟨ρ, M, F, Q, E, S, En, q, kQ, kE⟩ => ⟨ρ, M, F, _, E, S, En, q, fun d M1 F1 v H1 q1 s1 S1 r1 =>
    ⟨ρ, M1, F1, _, E, S1, En.mono s1, q1, fun ds M2 F2 vs H2 q2 s2 S2 r2 => kQ _ M2 F2 _ H2 q2 (s1.t s2) S2 (.cons (r1.mono s2) r2), fun C dd M2 F2 H2 q2 s2 S2 => kE C dd M2 F2 H2 q2 (s1.t s2) S2⟩, kE⟩
/-- (a, b, ..) -/
def dTup (dA : DA) : DE := fun ρ M Q E => dA ρ M (fun ds M' => ds.length ≤ sizeLine ∧ Q (.tup ds) M') E
theorem de_tup {x1} (h : PA X es (liftA g W dA)) : PE X (.Tuple es x1 pos) (liftE g W (dTup dA)) :=
  (pe_tup h).imp fun σ H k ⟨ρ, M, F, Q, E, S, En, q, kQ, kE⟩ => ⟨ρ, M, F, _, E, S, En, q, fun ds M1 F1 vs H1 ⟨hz, q1⟩ s1 S1 r1 => ⟨by rw [r1.length]; exact hz, fun p hp => by
    obtain ⟨s, S'⟩ := S1.newF (o := .tup vs) hp
    exact kQ _ M1 _ _ _ q1 (s1.t s) S' (.tup upd_same (r1.mono s))⟩, kE⟩
/-- a new list: frozen, or one that may change -/
def NewL (ds : List D) (M : Mem) (Q : D → Mem → Prop) : Prop := Q (.lst ds) M ∨ ∀ p, (∀ m, (p, m) ∉ M) → Q (.ptr p) ((p, .lst ds) :: M)
theorem NewL.to {ds : List D} {M : Mem} {Q : D → Mem → Prop} {F : Hp} {H : Hp} {xs : List V} {p : Addr} {k : Prop} (n : NewL ds M Q) (S : Sta g F M H) (hp : H p = none) (r : Reps g.K F xs ds)
    (h : ∀ d M' F', Q d M' → Same F F' → Sta g F' M' (upd H p (.lst xs)) → Rep g.K F' (.ref p) d → k) : k := by
  rcases n with q | q
  · obtain ⟨s, S'⟩ := S.newF (o := .lst xs) hp
    exact h _ _ _ q s S' (.lst upd_same (r.mono s))
  · exact h _ _ _ (q p (S.fresh hp)) (Same.r F) (S.newM (m := .lst ds) hp ⟨xs, rfl, r⟩) (.ptr p)
def dLst (dA : DA) : DE := fun ρ M Q E => dA ρ M (fun ds M' => ds.length ≤ sizeLine ∧ NewL ds M' Q) E
theorem de_lst (h : PA X es (liftA g W dA)) : PE X (.List es pos) (liftE g W (dLst dA)) :=
  (pe_lst h).imp fun σ H k ⟨ρ, M, F, Q, E, S, En, q, kQ, kE⟩ => ⟨ρ, M, F, _, E, S, En, q, fun ds M1 F1 vs H1 ⟨hz, q1⟩ s1 S1 r1 => ⟨by rw [r1.length]; exact hz, fun p hp =>
    q1.to S1 hp r1 fun d M' F' z s S' r => kQ d M' F' _ _ z (s1.t s) S' r⟩, kE⟩
end
end DL
namespace DL
variable [Wd]
open PySem L2
section
variable {X : Cx} {g : G} {W : WX} {pos : Pos} {a b c e : Expr} {es : List Expr} {da db dc de : DE} {dA : DA} {dt : DT} {ds du : DS} {dg : DG} {op : Operator} {st : Stmt} {sts body : List Stmt}
/-! ### statements -/
def sNext : DS := fun nx _ _ _ _ ρ M => nx ρ M
def sSeq (t u : DS) : DS := fun nx rt bk ct ex ρ M => t (u nx rt bk ct ex) rt bk ct ex ρ M
def sDrop (de : DE) : DS := fun nx _ _ _ ex ρ M => de ρ M (fun _ M' => nx ρ M') (fun C dd M' => ex C dd ρ M')
def sRet (de : DE) : DS := fun _ rt _ _ ex ρ M => de ρ M rt (fun C dd M' => ex C dd ρ M')
def sRetN : DS := fun _ rt _ _ _ _ M => rt .non M
def sIf (dt : DT) (t u : DS) : DS := fun nx rt bk ct ex ρ M => dt ρ M (fun c M1 => if c = true then t nx rt bk ct ex ρ M1 else u nx rt bk ct ex ρ M1) (fun C dd M' => ex C dd ρ M')
def sBreak : DS := fun _ _ bk _ _ ρ M => bk ρ M
def sCont : DS := fun _ _ _ ct _ ρ M => ct ρ M
def sAsg (de : DE) (dg : DG) : DS := fun nx _ _ _ ex ρ M => de ρ M (fun d M1 => dg d ρ M1 nx) (fun C dd M' => ex C dd ρ M')
theorem ds_next (h : PS X st tNext) : PS X st (liftS g W sNext) := h.imp fun D σ H ⟨ρ, M, F, nx, rt, bk, ct, ex, S, En, q, k1, k2, k3, k4, k5⟩ => k1 ρ M F σ H q (Same.r F) S En
theorem ds_pass : PS X (.Pass pos) (liftS g W sNext) := ds_next ps_pass
theorem ds_doc {x : Str} {j : Nat} {pos' : Pos} : PS X (.Expr (.Constant (.str x) j pos) pos') (liftS g W sNext) := ds_next ps_doc
theorem ds_break : PS X (.Break pos) (liftS g W sBreak) := ps_break.imp fun D σ H ⟨ρ, M, F, nx, rt, bk, ct, ex, S, En, q, k1, k2, k3, k4, k5⟩ => k3 ρ M F σ H q (Same.r F) S En
theorem ds_cont : PS X (.Continue pos) (liftS g W sCont) := ps_continue.imp fun D σ H ⟨ρ, M, F, nx, rt, bk, ct, ex, S, En, q, k1, k2, k3, k4, k5⟩ => k4 ρ M F σ H q (Same.r F) S En
theorem dss_nil : PSs X [] (liftS g W sNext) := pss_nil.imp fun D σ H ⟨ρ, M, F, nx, rt, bk, ct, ex, S, En, q, k1, k2, k3, k4, k5⟩ => k1 ρ M F σ H q (Same.r F) S En
theorem dss_one (h : PS X st (liftS g W ds)) : PSs X [st] (liftS g W ds) := pss_one h
theorem dss_cons (h : PS X st (liftS g W ds)) (h2 : PSs X sts (liftS g W du)) : PSs X (st :: sts) (liftS g W (sSeq ds du)) :=
  (pss_cons h h2).imp fun D σ H ⟨ρ, M, F, nx, rt, bk, ct, ex, S, En, q, k1, k2, k3, k4, k5⟩ =>
    ⟨ρ, M, F, _, rt, bk, ct, ex, S, En, q, fun ρ' M' F' σ' H' q' s S' En' => ⟨ρ', M', F', nx, rt, bk, ct, ex, S', En', q', fun a1 a2 a3 a4 a5 a6 a7 => k1 a1 a2 a3 a4 a5 a6 (s.t a7), fun a1 a2 a3 a4 a5 a6 a7 => k2 a1 a2 a3 a4 a5 a6 (s.t a7),
      fun a1 a2 a3 a4 a5 a6 a7 => k3 a1 a2 a3 a4 a5 a6 (s.t a7), fun a1 a2 a3 a4 a5 a6 a7 => k4 a1 a2 a3 a4 a5 a6 (s.t a7), fun a1 a2 a3 a4 a5 a6 a7 a8 a9 => k5 a1 a2 a3 a4 a5 a6 a7 a8 (s.t a9)⟩, k2, k3, k4, k5⟩
theorem ds_expr (h : PE X e (liftE g W de)) (hs : swapsWith e none pos.line X.env = pure false := by rfl) : PS X (.Expr e pos) (liftS g W (sDrop de)) :=
  (ps_expr h hs).imp fun D σ H ⟨ρ, M, F, nx, rt, bk, ct, ex, S, En, q, k1, k2, k3, k4, k5⟩ =>
    ⟨ρ, M, F, _, _, S, En, q, fun d M' F' v H' z s S' _ => k1 ρ M' F' σ H' z s S' (En.mono s), fun C dd M' F' H' z s S' => k5 C dd ρ M' F' σ H' z s S' (En.mono s)⟩
theorem ds_ret (h : PE X e (liftE g W de)) : PS X (.Return (some e) pos) (liftS g W (sRet de)) :=
  (ps_ret h).imp fun D σ H ⟨ρ, M, F, nx, rt, bk, ct, ex, S, En, q, k1, k2, k3, k4, k5⟩ =>
    ⟨ρ, M, F, _, _, S, En, q, k2, fun C dd M' F' H' z s S' => k5 C dd ρ M' F' σ H' z s S' (En.mono s)⟩
theorem ds_retN : PS X (.Return none pos) (liftS g W sRetN) :=
  ps_retN.imp fun D σ H ⟨ρ, M, F, nx, rt, bk, ct, ex, S, En, q, k1, k2, k3, k4, k5⟩ => k2 _ M F _ H q (Same.r F) S .non
theorem liftS_ite {t u : DS} {D : Ends} {σ : L2.St} {H : Hp} {c : Bool} {ρ : Rho} {M : Mem} {F : Hp} {nx rt bk ct ex} (S : Sta g F M H) (En : Enr g.K F σ ρ)
    (q : if c = true then t nx rt bk ct ex ρ M else u nx rt bk ct ex ρ M)
    (k1 : ∀ ρ' M' F' σ' H', nx ρ' M' → Same F F' → Sta g F' M' H' → Enr g.K F' σ' ρ' → D.nx σ' H') (k2 : ∀ d M' F' v H', rt d M' → Same F F' → Sta g F' M' H' → Rep g.K F' v d → D.rt v H')
    (k3 : ∀ ρ' M' F' σ' H', bk ρ' M' → Same F F' → Sta g F' M' H' → Enr g.K F' σ' ρ' → D.bk σ' H') (k4 : ∀ ρ' M' F' σ' H', ct ρ' M' → Same F F' → Sta g F' M' H' → Enr g.K F' σ' ρ' → D.ct σ' H')
    (k5 : ∀ C dd ρ' M' F' σ' H', ex C dd ρ' M' → Same F F' → Sta g F' M' H' → Enr g.K F' σ' ρ' → W (.ref C) (some dd) σ' H') :
    if c = true then liftS g W t D σ H else liftS g W u D σ H := by
  cases c with
  | true =>
    rw [if_pos rfl] at q ⊢
    exact ⟨ρ, M, F, nx, rt, bk, ct, ex, S, En, q, k1, k2, k3, k4, k5⟩
  | false =>
    rw [if_neg Bool.false_ne_true] at q ⊢
    exact ⟨ρ, M, F, nx, rt, bk, ct, ex, S, En, q, k1, k2, k3, k4, k5⟩
theorem ds_if {x y : List Stmt} (hc : PT X c (liftT g W dt)) (ht : PSs X x (liftS g W ds)) (hu : PSs X y (liftS g W du)) : PS X (.If c x y pos) (liftS g W (sIf dt ds du)) :=
  (ps_if hc ht hu).imp fun D σ H ⟨ρ, M, F, nx, rt, bk, ct, ex, S, En, q, k1, k2, k3, k4, k5⟩ =>
    ⟨ρ, M, F, _, _, S, En, q, fun c M' F' H' z s S' => liftS_ite S' (En.mono s) z (fun a1 a2 a3 a4 a5 a6 a7 => k1 a1 a2 a3 a4 a5 a6 (s.t a7)) (fun a1 a2 a3 a4 a5 a6 a7 => k2 a1 a2 a3 a4 a5 a6 (s.t a7))
      (fun a1 a2 a3 a4 a5 a6 a7 => k3 a1 a2 a3 a4 a5 a6 (s.t a7)) (fun a1 a2 a3 a4 a5 a6 a7 => k4 a1 a2 a3 a4 a5 a6 (s.t a7)) (fun a1 a2 a3 a4 a5 a6 a7 a8 a9 => k5 a1 a2 a3 a4 a5 a6 a7 a8 (s.t a9)),
      fun C dd M' F' H' z s S' => k5 C dd ρ M' F' σ H' z s S' (En.mono s)⟩

/-! ### targets -/
def gNm (i : Nat) : DG := fun d ρ M Q => Q (put ρ i (some d)) M
theorem dg_name {i : Nat} {x : Str} (hN : X.N.Nodup) (hi : X.N[i]? = some x) (hx : Loc X.env.scope x) (hf : X.fn x = true ∨ X.env.scope.names.lookup x = some .local := by first | exact .inl rfl | exact .inr rfl | assumption) : PG X (.Name x pos) (liftG g (gNm i)) :=
  (pg_name hN hi hx hf).imp fun v σ H k ⟨ρ, M, F, d, Q, S, En, r, q, kQ⟩ => kQ _ M F _ H q (Same.r F) S (En.set i r)
abbrev DGs := List D → Rho → Mem → NX → Prop
def liftGs (g : G) (dg : DGs) : TGs := fun vs σ H k => ∃ ρ M F ds Q, Sta g F M H ∧ Enr g.K F σ ρ ∧ Reps g.K F vs ds ∧ dg ds ρ M Q ∧ (∀ ρ' M' F' σ' H', Q ρ' M' → Same F F' → Sta g F' M' H' → Enr g.K F' σ' ρ' → k σ' H')
def gsNil : DGs := fun ds ρ M Q => ds = [] ∧ Q ρ M
def gsCons (t : DG) (u : DGs) : DGs := fun ds ρ M Q => ∃ d r, ds = d :: r ∧ t d ρ M (fun ρ' M' => u r ρ' M' Q)
theorem _root_.L2.PGs.imp {X : Cx} {ts : List Expr} {t t' : TGs} (h : PGs X ts t) (i : ∀ vs σ H k, t' vs σ H k → t vs σ H k) : PGs X ts t' := ⟨fun pins s σ H v u k I r q => h.run pins s σ H v u k I r (i v σ H k q)⟩
theorem dgs_nil : PGs X [] (liftGs g gsNil) := pgs_nil.imp fun vs σ H k ⟨ρ, M, F, ds, Q, S, En, r, ⟨e, q⟩, kQ⟩ => by
  subst e
  cases r
  exact ⟨rfl, kQ ρ M F σ H q (Same.r F) S En⟩
theorem dgs_cons {dgs : DGs} (h1 : PG X e (liftG g dg)) (h2 : PGs X es (liftGs g dgs)) (hs : (assignEach (e :: es) X.env).map (·.2) = assign e X.env :: (assignEach es X.env).map (·.2) := by rfl) : PGs X (e :: es) (liftGs g (gsCons dg dgs)) :=
  (pgs_cons h1 h2 hs).imp fun vs σ H k ⟨ρ, M, F, ds, Q, S, En, r, ⟨d, ds', e, q⟩, kQ⟩ => by
    subst e
    cases r with
    | cons r1 r2 =>
      exact ⟨_, _, rfl, ρ, M, F, d, _, S, En, r1, q, fun ρ' M' F' σ' H' z s S' En' => ⟨ρ', M', F', ds', Q, S', En', r2.mono s, z, fun a1 a2 a3 a4 a5 a6 a7 => kQ a1 a2 a3 a4 a5 a6 (s.t a7)⟩⟩
def gTp (n : Nat) (t : DGs) : DG := fun d ρ M Q => ∃ ds, d = .tup ds ∧ ds.length = n ∧ t ds ρ M Q
theorem dg_tup {k n : Nat} {dgs : DGs} (hc : X.calm = true) (hK : g.K = X.K) (h : PGs X es (liftGs g dgs)) (hn : (assignEach es X.env).length = n := by rfl) (hst : (assignEach es X.env).findIdx? (·.1) = none := by rfl) : PG X (.Tuple es k pos) (liftG g (gTp n dgs)) :=
  (pg_tup hc h hn hst).imp fun v σ H k ⟨ρ, M, F, d, Q, S, En, r, ⟨ds, e, hl, q⟩, kQ⟩ => by
    subst e
    cases r with
    | tup hs r => exact ⟨_, _, rfl, by rw [← hK]; exact S.sub.sqT hs, by rw [r.length]; exact hl, ρ, M, F, ds, Q, S, En, r, q, kQ⟩
theorem ds_asg {tg : Expr} (he : PE X e (liftE g W de)) (hg : PG X tg (liftG g dg)) (hs : swapsWithSole [tg] e pos.line X.env = pure false := by rfl) (hw : swappedStores [tg] e X.env = pure none := by rfl)
    (h1 : (assignEach [tg] X.env).map (·.2) = [assign tg X.env] := by rfl) : PS X (.Assign [tg] e pos) (liftS g W (sAsg de dg)) :=
  (ps_asg he hg hs hw h1).imp fun D σ H ⟨ρ, M, F, nx, rt, bk, ct, ex, S, En, q, k1, k2, k3, k4, k5⟩ =>
    ⟨ρ, M, F, _, _, S, En, q, fun d M' F' v H' z s S' r => ⟨ρ, M', F', d, nx, S', En.mono s, r, z, fun a1 a2 a3 a4 a5 a6 a7 => k1 a1 a2 a3 a4 a5 a6 (s.t a7)⟩, fun C dd M' F' H' z s S' => k5 C dd ρ M' F' σ H' z s S' (En.mono s)⟩
theorem ds_set {i : Nat} {x : Str} {pos' : Pos} (hN : X.N.Nodup) (hi : X.N[i]? = some x) (hx : Loc X.env.scope x) (he : PE X e (liftE g W de)) (hs : swapsWith e (some (.Name x pos')) pos.line X.env = pure false := by rfl)
    (hf : X.fn x = true ∨ X.env.scope.names.lookup x = some .local := by first | exact .inl rfl | exact .inr rfl | assumption) : PS X (.Assign [.Name x pos'] e pos) (liftS g W (sAsg de (gNm i))) :=
  (ps_set hN hi hx he hs hf).imp fun D σ H ⟨ρ, M, F, nx, rt, bk, ct, ex, S, En, q, k1, k2, k3, k4, k5⟩ =>
    ⟨ρ, M, F, _, _, S, En, q, fun d M' F' v H' z s S' r => k1 _ M' F' _ H' z s S' ((En.mono s).set i r), fun C dd M' F' H' z s S' => k5 C dd ρ M' F' σ H' z s S' (En.mono s)⟩
/-- x += e of ints -/
def sAugI (i : Nat) (f : Int → Int → Int) (de : DE) : DS := fun nx _ _ _ ex ρ M => ∃ n, at_ ρ i = some (.int n) ∧ de ρ M (fun d M1 => ∃ m, d = .int m ∧ nx (put ρ i (some (.int (f n m)))) M1) (fun C dd M' => ex C dd ρ M')
theorem ds_augI {i : Nat} {x : Str} {f : Int → Int → Int} {pos' : Pos} (hN : X.N.Nodup) (hi : X.N[i]? = some x) (hx : Loc X.env.scope x) (he : PE X e (liftE g W de)) (ho : PIp X op (ipI f))
    (hf : X.fn x = true ∨ X.env.scope.names.lookup x = some .local := by first | exact .inl rfl | exact .inr rfl | assumption) : PS X (.AugAssign (.Name x pos') op e pos) (liftS g W (sAugI i f de)) :=
  (ps_aug hN hi hx he ho hf).imp fun D σ H ⟨ρ, M, F, nx, rt, bk, ct, ex, S, En, ⟨n, hn, q⟩, k1, k2, k3, k4, k5⟩ => by
    obtain ⟨v, hv, r⟩ := En.has i _ hn
    cases r
    exact ⟨_, hv, ρ, M, F, _, _, S, En, q, fun d M' F' v H' ⟨m, ed, z⟩ s S' r => by
      subst ed
      cases r
      exact ⟨n, m, rfl, rfl, k1 _ M' F' _ H' z s S' ((En.mono s).set i (.int _))⟩, fun C dd M' F' H' z s S' => k5 C dd ρ M' F' σ H' z s S' (En.mono s)⟩

/-! ### what a loop walks -/
abbrev DI := Rho → Mem → (List D → (Mem → Prop) → Mem → Prop) → XD → Prop
def noH : Hp := fun _ => none
theorem same_no {U : Hp} : Same noH U := fun _ _ e => nomatch e
/-- J yields ds one after the other, as long as st holds -/
structure Yields (K : PySem.W.Frag) (V : Hp) (J : It) (F1 : Hp) (ds : List D) (st : Mem → Prop) : Prop where
  pl : ∀ b o, V b = some o → ∃ z u, o = HO.frz z u
  go : ∀ (i : Nat) (d : D) (U F : Hp) (M : Mem) (H : Hp), Same V U → Same F1 F → Sta ⟨K, U⟩ F M H → st M → ds[i]? = some d → J.go i H ∧ ∀ x H', J.yld i H x H' → ∃ F', Same F F' ∧ Sta ⟨K, U⟩ F' M H' ∧ Rep K F' x d
  stop : ∀ (i : Nat) (U F : Hp) (M : Mem) (H : Hp), Same V U → Same F1 F → Sta ⟨K, U⟩ F M H → st M → ds.length ≤ i → J.stop i H
def liftI (g : G) (W : WX) (di : DI) : TI := fun σ H R => ∃ ρ M F Q E, Sta g F M H ∧ Enr g.K F σ ρ ∧ di ρ M Q E ∧
  (∀ ds st M' U' V F' J H', Q ds st M' → Same g.U U' → Same V U' → Same F F' → Sta ⟨g.K, U'⟩ F' M' H' → Yields g.K V J F' ds st → R J H') ∧ (∀ C dd M' F' H', E C dd M' → Same F F' → Sta g F' M' H' → W (.ref C) (some dd) σ H')
theorem _root_.L2.PI.imp {X : Cx} {tg e : Expr} {t t' : TI} (h : PI X tg e t) (i : ∀ σ H k, t' σ H k → t σ H k) : PI X tg e t' := ⟨fun pins s σ H R I q => h.run pins s σ H R I (i σ H R q)⟩
/-- the items of a list: of a frozen one, or of one that stands in M -/
inductive IsL (M : Mem) : D → List D → (Mem → Prop) → Prop
  | lst (ds : List D) : IsL M (.lst ds) ds fun _ => True
  | rol (ds : List D) : IsL M (.rol ds) ds fun _ => True
  | ptr {p : Addr} {ds : List D} : (p, .lst ds) ∈ M → IsL M (.ptr p) ds fun M' => (p, .lst ds) ∈ M'
theorem IsL.now {M : Mem} {d : D} {ds : List D} {st : Mem → Prop} (h : IsL M d ds st) : st M := by
  cases h with
  | lst => trivial
  | rol => trivial
  | ptr h => exact h
theorem IsL.sq {F : Hp} {M : Mem} {H : Hp} {v : V} {d : D} {ds : List D} {st : Mem → Prop} (h : IsL M d ds st) (S : Sta g F M H) (r : Rep g.K F v d) :
    ∃ a xs, v = .ref a ∧ SqL g.K H a xs ∧ Reps g.K F xs ds ∧ ∀ U F' M' H', Same F F' → Sta ⟨g.K, U⟩ F' M' H' → st M' → ∃ ys, SqL g.K H' a ys ∧ Reps g.K F' ys ds := by
  cases h with
  | lst => cases r with | lst e r => exact ⟨_, _, rfl, .of (S.sub.lst e), r, fun U F' M' H' s S' _ => ⟨_, .of (S'.sub.lst (s _ _ e)), r.mono s⟩⟩
  | rol => cases r with | rol e r => exact ⟨_, _, rfl, S.sub.sqL e, r, fun U F' M' H' s S' _ => ⟨_, S'.sub.sqL (s.seq e), r.mono s⟩⟩
  | ptr h =>
    cases r
    obtain ⟨_, o, ho, xs, rfl, r⟩ := S.mem _ _ h
    refine ⟨_, xs, rfl, .of ho, r, fun U F' M' H' s S' h' => ?_⟩
    obtain ⟨_, o', ho', ys, rfl, r'⟩ := S'.mem _ _ h'
    exact ⟨ys, .of ho', r'⟩
theorem yields_list {F : Hp} {a : Addr} {ds : List D} {st : Mem → Prop} (hK : g.K = X.K) (hr : ∀ U F' M' H', Same F F' → Sta ⟨g.K, U⟩ F' M' H' → st M' → ∃ ys, SqL g.K H' a ys ∧ Reps g.K F' ys ds) : Yields g.K noH (Itl X.K a) F ds st := by
  refine ⟨fun _ _ e => (nomatch e), fun i d U F' M H _ s S h e => ?_, fun i U F' M H _ s S h e => ?_⟩
  · obtain ⟨ys, hq, r⟩ := hr U F' M H s S h
    obtain ⟨v, hv, rv⟩ := r.get e
    refine ⟨⟨ys, v, by rw [← hK]; exact hq, hv⟩, fun x H' ⟨eH, y⟩ => ?_⟩
    subst eH
    have y' := y ys (by rw [← hK]; exact hq)
    rw [hv] at y'
    cases y'
    exact ⟨F', Same.r F', S, rv⟩
  · obtain ⟨ys, hq, r⟩ := hr U F' M H s S h
    exact ⟨ys, by rw [← hK]; exact hq, by rw [r.length]; exact e⟩
/-- over a list -/
def iLst (de : DE) : DI := fun ρ M Q E => de ρ M (fun d M' => ∃ ds st, IsL M' d ds st ∧ Q ds st M') E
theorem di_list {tg : Expr} (hK : g.K = X.K) (h : PE X e (liftE g W de)) : PI X tg e (liftI g W (iLst de)) :=
  (pi_list h).imp fun σ H k ⟨ρ, M, F, Q, E, S, En, q, kQ, kE⟩ => ⟨ρ, M, F, _, E, S, En, q, fun d M' F' v H' ⟨ds, st, hl, z⟩ s S' r => by
    obtain ⟨a, xs, ev, hq, r1, r2⟩ := hl.sq S' r
    exact ⟨a, ev, ⟨xs, by rw [← hK]; exact hq⟩, kQ ds st M' g.U noH F' _ H' z (Same.r _) same_no s S' (yields_list hK r2)⟩, kE⟩
/-- over a tuple -/
def iTp (de : DE) : DI := fun ρ M Q E => de ρ M (fun d M' => ∃ ds, d = .tup ds ∧ Q ds (fun _ => True) M') E
theorem di_tup {tg : Expr} (hK : g.K = X.K) (h : PE X e (liftE g W de)) : PI X tg e (liftI g W (iTp de)) :=
  (pi_tup h).imp fun σ H k ⟨ρ, M, F, Q, E, S, En, q, kQ, kE⟩ => ⟨ρ, M, F, _, E, S, En, q, fun d M' F' v H' ⟨ds, ed, z⟩ s S' r => by
    subst ed
    cases r with
    | tup hs r =>
      refine ⟨_, rfl, ⟨_, by rw [← hK]; exact S'.sub.sqT hs⟩, kQ ds _ M' g.U noH F' _ H' z (Same.r _) same_no s S' ⟨fun _ _ e => (nomatch e), fun i d U F2 M2 H2 _ s2 S2 _ e => ?_, fun i U F2 M2 H2 _ s2 S2 _ e => ?_⟩⟩
      · obtain ⟨v, hv, rv⟩ := r.get e
        refine ⟨⟨_, v, by rw [← hK]; exact S2.sub.sqT (sqT_mono s2 hs), hv⟩, fun x H3 ⟨eH, y⟩ => ?_⟩
        subst eH
        have y' := y _ (by rw [← hK]; exact S2.sub.sqT (sqT_mono s2 hs))
        rw [hv] at y'
        cases y'
        exact ⟨F2, Same.r F2, S2, rv.mono s2⟩
      · exact ⟨_, by rw [← hK]; exact S2.sub.sqT (sqT_mono s2 hs), by rw [r.length]; exact e⟩, kE⟩
/-- range -/
def rng (lo : Int) (n : Nat) : List D := (List.range n).map fun (i : Nat) => D.int (lo + (i : Int))
theorem yields_rng {K : PySem.W.Frag} {F : Hp} {lo : Int} {n : Nat} : Yields K noH (Itr lo n) F (rng lo n) fun _ => True := by
  refine ⟨fun _ _ e => (nomatch e), fun i d U F' M H _ s S _ e => ?_, fun i U F' M H _ s S _ e => ?_⟩
  · unfold rng at e
    rw [List.getElem?_map] at e
    by_cases h : i < n
    · rw [List.getElem?_range h] at e
      cases e
      refine ⟨h, fun x H' ⟨eH, ex⟩ => ?_⟩
      subst eH ex
      exact ⟨F', Same.r F', S, .int _⟩
    · rw [List.getElem?_eq_none (by rw [List.length_range]; omega)] at e
      cases e
  · unfold rng at e
    rw [List.length_map, List.length_range] at e
    exact e
def iRg1 (dA : DA) : DI := fun ρ M Q E => dA ρ M (fun ds M' => ∃ j : Int, ds = [.int j] ∧ -(2 ^ 62) ≤ j ∧ j < 2 ^ 62 ∧ Q (rng 0 j.toNat) (fun _ => True) M') E
def iRg2 (dA : DA) : DI := fun ρ M Q E => dA ρ M (fun ds M' => ∃ i j : Int, ds = [.int i, .int j] ∧ (-(2 ^ 62) ≤ i ∧ i < 2 ^ 62 ∧ -(2 ^ 62) ≤ j ∧ j < 2 ^ 62) ∧ Q (rng i (j - i).toNat) (fun _ => True) M') E
theorem di_range1 {tg : Expr} {p : Pos} (hg : Gl X "range") (hm : X.mg "range" = none) (ha : PA X [a] (liftA g W dA)) (hs : starEach [a] X.env = [(false, eval a X.env)] := by rfl) : PI X tg (.Call (.Name "range" p) [a] [] pos) (liftI g W (iRg1 dA)) :=
  (pi_range1 hg hm ha hs).imp fun σ H k ⟨ρ, M, F, Q, E, S, En, q, kQ, kE⟩ => ⟨ρ, M, F, _, E, S, En, q, fun ds M' F' vs H' ⟨j, e, h1, h2, z⟩ s S' r => by
    subst e
    cases r with
    | cons r1 r2 =>
      cases r2
      cases r1
      exact ⟨j, rfl, h1, h2, kQ _ _ M' g.U noH F' _ H' z (Same.r _) same_no s S' yields_rng⟩, kE⟩
theorem di_range2 {tg : Expr} {p : Pos} (hg : Gl X "range") (hm : X.mg "range" = none) (ha : PA X [a, b] (liftA g W dA)) (hs : starEach [a, b] X.env = [(false, eval a X.env), (false, eval b X.env)] := by rfl) (hs2 : starEach [b] X.env = [(false, eval b X.env)] := by rfl) :
    PI X tg (.Call (.Name "range" p) [a, b] [] pos) (liftI g W (iRg2 dA)) :=
  (pi_range2 hg hm ha hs hs2).imp fun σ H k ⟨ρ, M, F, Q, E, S, En, q, kQ, kE⟩ => ⟨ρ, M, F, _, E, S, En, q, fun ds M' F' vs H' ⟨i, j, e, h1, z⟩ s S' r => by
    subst e
    cases r with
    | cons r1 r2 =>
      cases r2 with
      | cons r2 r3 =>
        cases r3
        cases r1
        cases r2
        exact ⟨i, j, rfl, h1, kQ _ _ M' g.U noH F' _ H' z (Same.r _) same_no s S' yields_rng⟩, kE⟩
/-- the turns of a loop -/
def goF (dg : DG) (body : DS) (st : Mem → Prop) (nx : NX) (rt : D → Mem → Prop) (ex : Addr → Addr → Rho → Mem → Prop) : List D → Rho → Mem → Prop
  | [], ρ, M => st M ∧ nx ρ M
  | d :: ds, ρ, M => st M ∧ dg d ρ M (fun ρ' M' => body (goF dg body st nx rt ex ds) rt nx (goF dg body st nx rt ex ds) ex ρ' M')
def sFor (di : DI) (dg : DG) (body : DS) : DS := fun nx rt _ _ ex ρ M => di ρ M (fun ds st M1 => goF dg body st nx rt ex ds ρ M1) (fun C dd M' => ex C dd ρ M')
theorem ds_for {tg iter : Expr} {di : DI} (hp : PassesOwn (model X.prog X.w) X.A X.env X.xe) (hc : X.calm = true) (hi : PI X tg iter (liftI g W di)) (hg : ∀ U, PG X tg (liftG ⟨g.K, U⟩ dg)) (hb : ∀ U, PSs X body (liftS ⟨g.K, U⟩ W ds))
    (hs : ∀ x, foldedSetIterable iter X.env x = pure x := by intro _; rfl) : PS X (.For tg iter body [] pos) (liftS g W (sFor di dg ds)) :=
  PS.imp (ps_for (g := fun v σ H k => ∃ U, liftG ⟨g.K, U⟩ dg v σ H k) (tb := fun D σ H => ∃ U, liftS ⟨g.K, U⟩ W ds D σ H) hp hc hi ⟨fun pins s σ H v u k I r ⟨U, q⟩ => (hg U).run pins s σ H v u k I r q⟩ ⟨fun pins s σ H D I ⟨U, q⟩ => (hb U).run pins s σ H D I q⟩ hs)
    fun D σ H ⟨ρ, M, F, nx, rt, bk, ct, ex, S, En, q, k1, k2, k3, k4, k5⟩ => by
    refine ⟨ρ, M, F, _, _, S, En, q, fun its st M1 U1 V F1 J H1 q1 su sv s1 S1 Y => ?_, fun C dd M' F' H' z s S' => k5 C dd ρ M' F' σ H' z s S' (En.mono s)⟩
    refine ⟨fun i m σ H => m = its.length - i ∧ i ≤ its.length ∧ ∃ ρ M F', Same F1 F' ∧ Sta ⟨g.K, U1⟩ F' M H ∧ Enr g.K F' σ ρ ∧ goF dg ds st nx rt ex (its.drop i) ρ M, ⟨_, rfl, Nat.zero_le _, ρ, M1, F1, Same.r F1, S1, En.mono s1, q1⟩, ?_⟩
    rintro i m σ2 H2 ⟨rfl, hi, ρ2, M2, F2, s2, S2, En2, q2⟩
    by_cases hlt : i < its.length
    · have e := List.drop_eq_getElem_cons hlt
      rw [e] at q2
      obtain ⟨hst, q3⟩ := q2
      obtain ⟨g1, g2⟩ := Y.go i its[i] U1 F2 M2 H2 sv s2 S2 hst (by simp [hlt])
      refine .inr ⟨g1, fun σ' H' => ∃ ρ M F', Same F1 F' ∧ Sta ⟨g.K, U1⟩ F' M H' ∧ Enr g.K F' σ' ρ ∧ goF dg ds st nx rt ex (its.drop (i + 1)) ρ M, fun σ' H' p => ⟨its.length - (i + 1), by omega, rfl, hlt, p⟩, fun x H' y => ?_⟩
      obtain ⟨F3, s3, S3, r3⟩ := g2 x H' y
      refine ⟨U1, ρ2, M2, F3, its[i], _, S3, En2.mono s3, r3, q3, fun ρ4 M4 F4 σ4 H4 q4 s4 S4 En4 => ?_⟩
      have s14 : Same F1 F4 := (s2.t s3).t s4
      have s04 : Same F F4 := s1.t s14
      exact ⟨U1, ρ4, M4, F4, _, rt, _, _, ex, S4, En4, q4, fun ρ5 M5 F5 σ5 H5 z s S' En' => ⟨ρ5, M5, F5, s14.t s, S', En', z⟩, fun a1 a2 a3 a4 a5 a6 a7 a8 => k2 a1 a2 a3 a4 a5 a6 (s04.t a7) (a8.less su),
        fun a1 a2 a3 a4 a5 a6 a7 a8 => k1 a1 a2 a3 a4 a5 a6 (s04.t a7) (a8.less su), fun ρ5 M5 F5 σ5 H5 z s S' En' => ⟨ρ5, M5, F5, s14.t s, S', En', z⟩, fun a1 a2 a3 a4 a5 a6 a7 a8 a9 a10 => k5 a1 a2 a3 a4 a5 a6 a7 a8 (s04.t a9) (a10.less su)⟩
    · have e : its.drop i = [] := List.drop_eq_nil_of_le (by omega)
      rw [e] at q2
      exact .inl ⟨Y.stop i U1 F2 M2 H2 sv s2 S2 q2.1 (by omega), k1 ρ2 M2 F2 σ2 H2 q2.2 (s1.t s2) (S2.less su) En2⟩
/-- by an invariant -/
theorem goF_inv {st : Mem → Prop} {nx : NX} {rt : D → Mem → Prop} {ex : Addr → Addr → Rho → Mem → Prop} {its : List D} (P : Nat → Rho → Mem → Prop)
    (hst : ∀ i ρ M, P i ρ M → st M) (hs : ∀ i d ρ M, its[i]? = some d → P i ρ M → ∀ (go : NX), (∀ ρ' M', P (i + 1) ρ' M' → go ρ' M') → dg d ρ M (fun ρ' M' => ds go rt nx go ex ρ' M'))
    (hd : ∀ ρ M, P its.length ρ M → nx ρ M) {ρ : Rho} {M : Mem} (h0 : P 0 ρ M) : goF dg ds st nx rt ex its ρ M := by
  have key : ∀ (n i : Nat) (ρ : Rho) (M : Mem), i + n = its.length → P i ρ M → goF dg ds st nx rt ex (its.drop i) ρ M := by
    intro n
    induction n with
    | zero =>
      intro i ρ M hi p
      have e : its.drop i = [] := List.drop_eq_nil_of_le (by omega)
      rw [e]
      have : i = its.length := by omega
      subst this
      exact ⟨hst _ _ _ p, hd _ _ p⟩
    | succ n ih =>
      intro i ρ M hi p
      have hlt : i < its.length := by omega
      rw [List.drop_eq_getElem_cons hlt]
      exact ⟨hst _ _ _ p, hs i its[i] ρ M (by simp [hlt]) p _ fun ρ' M' p' => ih (i + 1) ρ' M' (by omega) p'⟩
  have := key its.length 0 ρ M (by omega) h0
  rwa [List.drop_zero] at this
/-- while -/
def sWhile (dt : DT) (body : DS) : DS := fun nx rt _ _ ex ρ M => ∃ P : Nat → Rho → Mem → Prop, (∃ m, P m ρ M) ∧ ∀ m ρ M, P m ρ M →
  dt ρ M (fun b M1 => if b = true then body (fun ρ' M' => ∃ m', m' < m ∧ P m' ρ' M') rt nx (fun ρ' M' => ∃ m', m' < m ∧ P m' ρ' M') ex ρ M1 else nx ρ M1) (fun C dd M' => ex C dd ρ M')
theorem ds_while {c : Expr} (hp : PassesOwn (model X.prog X.w) X.A X.env X.xe) (hc : PT X c (liftT g W dt)) (hb : PSs X body (liftS g W ds)) : PS X (.While c body [] pos) (liftS g W (sWhile dt ds)) :=
  (ps_while hp hc hb).imp fun D σ H ⟨ρ, M, F, nx, rt, bk, ct, ex, S, En, ⟨P, ⟨m0, p0⟩, turn⟩, k1, k2, k3, k4, k5⟩ => by
    refine ⟨fun m σ' H' => ∃ ρ' M' F', Same F F' ∧ Sta g F' M' H' ∧ Enr g.K F' σ' ρ' ∧ P m ρ' M', ⟨m0, ρ, M, F, Same.r F, S, En, p0⟩, ?_⟩
    rintro m σ1 H1 ⟨ρ1, M1, F1, s1, S1, En1, p1⟩
    refine ⟨ρ1, M1, F1, _, _, S1, En1, turn m ρ1 M1 p1, fun b M2 F2 H2 z s2 S2 => ?_, fun C dd M' F' H' z s S' => k5 C dd ρ1 M' F' σ1 H' z (s1.t s) S' (En1.mono s)⟩
    cases b with
    | true =>
      rw [if_pos rfl] at z ⊢
      refine ⟨fun σ' H' => ∃ m', m' < m ∧ ∃ ρ' M' F', Same F F' ∧ Sta g F' M' H' ∧ Enr g.K F' σ' ρ' ∧ P m' ρ' M', fun σ' H' q => q, ?_⟩
      have s12 := s1.t s2
      exact ⟨ρ1, M2, F2, _, rt, _, _, ex, S2, En1.mono s2, z, fun ρ5 M5 F5 σ5 H5 ⟨m', hm, z⟩ s S' En' => ⟨m', hm, ρ5, M5, F5, s12.t s, S', En', z⟩, fun a1 a2 a3 a4 a5 a6 a7 => k2 a1 a2 a3 a4 a5 a6 (s12.t a7),
        fun a1 a2 a3 a4 a5 a6 a7 => k1 a1 a2 a3 a4 a5 a6 (s12.t a7), fun ρ5 M5 F5 σ5 H5 ⟨m', hm, z⟩ s S' En' => ⟨m', hm, ρ5, M5, F5, s12.t s, S', En', z⟩, fun a1 a2 a3 a4 a5 a6 a7 a8 a9 => k5 a1 a2 a3 a4 a5 a6 a7 a8 (s12.t a9)⟩
    | false =>
      rw [if_neg Bool.false_ne_true] at z ⊢
      exact k1 ρ1 M2 F2 σ1 H2 z (s1.t s2) S2 (En1.mono s2)
end
end DL
namespace DL
variable [Wd]
open PySem L2

/-! ### what is equal -/
mutual
def eqD : D → D → Bool
  | .non, .non => true
  | .bl a, .bl b => a == b
  | .bl a, .int j => (if a then 1 else 0) == j
  | .int i, .bl b => i == (if b then 1 else 0)
  | .int i, .int j => i == j
  | .str x, .str y => x == y
  | .tup xs, .tup ys => eqDs xs ys
  | .lst xs, .lst ys => eqDs xs ys
  | _, _ => false
def eqDs : List D → List D → Bool
  | [], [] => true
  | x :: xs, y :: ys => eqD x y && eqDs xs ys
  | _, _ => false
end
mutual
def pyD : D → PyData
  | .bl b => .bool b
  | .int i => .int i
  | .str x => .str x
  | .tup ds => .tuple (pyDs ds)
  | .lst ds => .list (pyDs ds)
  | _ => .none
def pyDs : List D → List PyData
  | [] => []
  | d :: ds => pyD d :: pyDs ds
end
/-- plain data of so small a depth -/
def okD : Nat → D → Bool
  | _, .non => true
  | _, .bl _ => true
  | _, .int _ => true
  | _, .str x => PyData.strOk x
  | n + 1, .tup ds => ds.all (okD n)
  | n + 1, .lst ds => ds.all (okD n)
  | _, _ => false
theorem okD_py : ∀ (n : Nat) (d : D), okD n d = true → (pyD d).canLay0 = true ∧ (pyD d).depth ≤ n
  | n, .non, _ => ⟨rfl, Nat.zero_le n⟩
  | n, .bl _, _ => ⟨rfl, Nat.zero_le n⟩
  | n, .int _, _ => ⟨rfl, Nat.zero_le n⟩
  | 0, .str x, h => ⟨h, Nat.zero_le 0⟩
  | n + 1, .str x, h => ⟨h, Nat.zero_le _⟩
  | 0, .tup ds, h => by simp [okD] at h
  | 0, .lst ds, h => by simp [okD] at h
  | n + 1, .tup ds, h => by
    have h' : ds.all (okD n) = true := h
    have k : ∀ es : List D, es.all (okD n) = true → PyData.canLayAll0 (pyDs es) = true ∧ PyData.depthAll (pyDs es) ≤ n := by
      intro es
      induction es with
      | nil => exact fun _ => ⟨rfl, Nat.zero_le n⟩
      | cons e es ih =>
        intro h
        rw [List.all_cons, Bool.and_eq_true] at h
        obtain ⟨a1, a2⟩ := okD_py n e h.1
        obtain ⟨b1, b2⟩ := ih h.2
        exact ⟨by show (PyData.canLay0 (pyD e) && PyData.canLayAll0 (pyDs es)) = true; rw [a1, b1]; rfl, by show max (pyD e).depth (PyData.depthAll (pyDs es)) ≤ n; omega⟩
    obtain ⟨a, b⟩ := k ds h'
    exact ⟨a, Nat.succ_le_succ b⟩
  | n + 1, .lst ds, h => by
    have h' : ds.all (okD n) = true := h
    have k : ∀ es : List D, es.all (okD n) = true → PyData.canLayAll0 (pyDs es) = true ∧ PyData.depthAll (pyDs es) ≤ n := by
      intro es
      induction es with
      | nil => exact fun _ => ⟨rfl, Nat.zero_le n⟩
      | cons e es ih =>
        intro h
        rw [List.all_cons, Bool.and_eq_true] at h
        obtain ⟨a1, a2⟩ := okD_py n e h.1
        obtain ⟨b1, b2⟩ := ih h.2
        exact ⟨by show (PyData.canLay0 (pyD e) && PyData.canLayAll0 (pyDs es)) = true; rw [a1, b1]; rfl, by show max (pyD e).depth (PyData.depthAll (pyDs es)) ≤ n; omega⟩
    obtain ⟨a, b⟩ := k ds h'
    exact ⟨a, Nat.succ_le_succ b⟩
  | 0, .ty _, h => by simp [okD] at h
  | 0, .ptr _, h => by simp [okD] at h
  | 0, .rol _, h => by simp [okD] at h
  | 0, .dic _, h => by simp [okD] at h
  | 0, .dit _, h => by simp [okD] at h
  | 0, .obj _ _, h => by simp [okD] at h
  | _ + 1, .ty _, h => by simp [okD] at h
  | _ + 1, .ptr _, h => by simp [okD] at h
  | _ + 1, .rol _, h => by simp [okD] at h
  | _ + 1, .dic _, h => by simp [okD] at h
  | _ + 1, .dit _, h => by simp [okD] at h
  | _ + 1, .obj _ _, h => by simp [okD] at h
theorem okD_shaped {n : Nat} {d : D} (h : okD n d = true) (hn : n ≤ 64 := by decide) : SeqAt.shaped (pyD d) = true := by
  obtain ⟨a, b⟩ := okD_py n d h
  unfold SeqAt.shaped
  rw [a, decide_eq_true (by omega)]
  rfl
mutual
theorem eqv_py : ∀ (n : Nat) (d e : D), okD n d = true → okD n e = true → PyData.eqv (pyD d) (pyD e) = eqD d e
  | n, d, e, hd, he => by
    cases d <;> cases e <;> first
      | rfl
      | (exfalso; cases n <;> simp [okD] at hd <;> done)
      | (exfalso; cases n <;> simp [okD] at he <;> done)
      | (cases n with
         | zero => simp [okD] at hd
         | succ n => exact eqvs_py n _ _ hd he)
theorem eqvs_py : ∀ (n : Nat) (ds es : List D), ds.all (okD n) = true → es.all (okD n) = true → PyData.eqvAll (pyDs ds) (pyDs es) = eqDs ds es
  | n, [], [], _, _ => rfl
  | n, [], _ :: _, _, _ => rfl
  | n, _ :: _, [], _, _ => rfl
  | n, d :: ds, e :: es, h1, h2 => by
    rw [List.all_cons, Bool.and_eq_true] at h1 h2
    show (PyData.eqv (pyD d) (pyD e) && PyData.eqvAll (pyDs ds) (pyDs es)) = (eqD d e && eqDs ds es)
    rw [eqv_py n d e h1.1 h2.1, eqvs_py n ds es h1.2 h2.2]
end
mutual
/-- the data behind the addresses -/
inductive Deref (M : Mem) : D → D → Prop
  | non : Deref M .non .non
  | bl (b : Bool) : Deref M (.bl b) (.bl b)
  | int (i : Int) : Deref M (.int i) (.int i)
  | str (x : Str) : Deref M (.str x) (.str x)
  | plain {d : D} {n : Nat} : okD n d = true → Deref M d d
  | rol {ds : List D} {n : Nat} : okD n (.lst ds) = true → Deref M (.rol ds) (.lst ds)
  | ptr {p : Addr} {ds : List D} {n : Nat} : (p, .lst ds) ∈ M → okD n (.lst ds) = true → Deref M (.ptr p) (.lst ds)
  | tupD {ds es : List D} : Derefs M ds es → Deref M (.tup ds) (.tup es)
  | lstD {ds es : List D} : Derefs M ds es → Deref M (.lst ds) (.lst es)
  | ptrD {p : Addr} {ds es : List D} : (p, .lst ds) ∈ M → Derefs M ds es → Deref M (.ptr p) (.lst es)
inductive Derefs (M : Mem) : List D → List D → Prop
  | nil : Derefs M [] []
  | cons {d e : D} {ds es : List D} : Deref M d e → Derefs M ds es → Derefs M (d :: ds) (e :: es)
end
section
variable {X : Cx} {g : G} {F : Hp} {M : Mem} {H : Hp}
mutual
theorem dp_of (S : Sta g F M H) : ∀ (n : Nat) (v : V) (d : D), Rep g.K F v d → okD n d = true → Dp g.K H v (pyD d)
  | n, _, _, .non, _ => .non
  | n, _, _, .bl b, _ => .bl b
  | n, _, _, .int i, _ => .int i
  | n, _, _, .str x, _ => .str x
  | n + 1, _, _, .tup h r, hd => .tup (S.sub.sqT h) (dps_of S n _ _ r hd)
  | n + 1, _, _, .lst h r, hd => .lst (.of (S.sub.lst h)) (dps_of S n _ _ r hd)
  | 0, _, _, .tup h r, hd => by simp [okD] at hd
  | 0, _, _, .lst h r, hd => by simp [okD] at hd
  | n, _, _, .ty _, hd => by cases n <;> simp [okD] at hd
  | n, _, _, .ptr _, hd => by cases n <;> simp [okD] at hd
  | n, _, _, .rol _ _, hd => by cases n <;> simp [okD] at hd
  | n, _, _, .dic _ _ _, hd => by cases n <;> simp [okD] at hd
  | n, _, _, .dit _ _ _ _ _, hd => by cases n <;> simp [okD] at hd
  | n, _, _, .obj _ _ _, hd => by cases n <;> simp [okD] at hd
theorem dps_of (S : Sta g F M H) : ∀ (n : Nat) (vs : List V) (ds : List D), Reps g.K F vs ds → ds.all (okD n) = true → DpAll g.K H vs (pyDs ds)
  | n, _, _, .nil, _ => .nil
  | n, _, _, .cons r t, h => by
    rw [List.all_cons, Bool.and_eq_true] at h
    exact .cons (dp_of S n _ _ r h.1) (dps_of S n _ _ t h.2)
end
mutual
theorem Deref.dp (S : Sta g F M H) : ∀ {v : V} {d d' : D}, Deref M d d' → Rep g.K F v d → Dp g.K H v (pyD d')
  | _, _, _, .non, r => by cases r; exact .non
  | _, _, _, .bl b, r => by cases r; exact .bl b
  | _, _, _, .int i, r => by cases r; exact .int i
  | _, _, _, .str x, r => by cases r; exact .str x
  | _, _, _, .plain h, r => dp_of S _ _ _ r h
  | _, _, _, .rol (n := n) h, r => by
    cases r with
    | rol e r =>
      cases n with
      | zero => simp [okD] at h
      | succ n => exact .lst (S.sub.sqL e) (dps_of S n _ _ r h)
  | _, _, _, .ptr (n := n) hm h, r => by
    cases r
    obtain ⟨_, o, ho, xs, rfl, r⟩ := S.mem _ _ hm
    cases n with
    | zero => simp [okD] at h
    | succ n => exact .lst (.of ho) (dps_of S n _ _ r h)
  | _, _, _, .tupD h, r => by cases r with | tup e r => exact .tup (S.sub.sqT e) (Derefs.dps S h r)
  | _, _, _, .lstD h, r => by cases r with | lst e r => exact .lst (.of (S.sub.lst e)) (Derefs.dps S h r)
  | _, _, _, .ptrD hm h, r => by
    cases r
    obtain ⟨_, o, ho, xs, rfl, r⟩ := S.mem _ _ hm
    exact .lst (.of ho) (Derefs.dps S h r)
theorem Derefs.dps (S : Sta g F M H) : ∀ {vs : List V} {ds es : List D}, Derefs M ds es → Reps g.K F vs ds → DpAll g.K H vs (pyDs es)
  | _, _, _, .nil, r => by cases r; exact .nil
  | _, _, _, .cons h t, r => by cases r with | cons r rs => exact .cons (Deref.dp S h r) (Derefs.dps S t rs)
end

/-! ### operators -/
/-- a list that is tracked: frozen, or in M -/
inductive IsM (M : Mem) : D → List D → Prop
  | lst (ds : List D) : IsM M (.lst ds) ds
  | ptr {p : Addr} {ds : List D} : (p, .lst ds) ∈ M → IsM M (.ptr p) ds
theorem IsM.to {v : V} {d : D} {ds : List D} (h : IsM M d ds) (S : Sta g F M H) (r : Rep g.K F v d) : ∃ a xs, v = .ref a ∧ H a = some (.lst xs) ∧ Reps g.K F xs ds := by
  cases h with
  | lst => cases r with | lst e r => exact ⟨_, _, rfl, S.sub.lst e, r⟩
  | ptr h =>
    cases r
    obtain ⟨_, o, ho, xs, rfl, r⟩ := S.mem _ _ h
    exact ⟨_, xs, rfl, ho, r⟩
/-- a list or a tuple, to be read -/
inductive IsS (M : Mem) : D → List D → Prop
  | lst (ds : List D) : IsS M (.lst ds) ds
  | rol (ds : List D) : IsS M (.rol ds) ds
  | tup (ds : List D) : IsS M (.tup ds) ds
  | ptr {p : Addr} {ds : List D} : (p, .lst ds) ∈ M → IsS M (.ptr p) ds
theorem IsS.to {v : V} {d : D} {ds : List D} (h : IsS M d ds) (S : Sta g F M H) (r : Rep g.K F v d) : ∃ a xs, v = .ref a ∧ (SqL g.K H a xs ∨ SqT g.K H a xs) ∧ Reps g.K F xs ds := by
  cases h with
  | lst => cases r with | lst e r => exact ⟨_, _, rfl, .inl (.of (S.sub.lst e)), r⟩
  | rol => cases r with | rol e r => exact ⟨_, _, rfl, .inl (S.sub.sqL e), r⟩
  | tup => cases r with | tup e r => exact ⟨_, _, rfl, .inr (S.sub.sqT e), r⟩
  | ptr h =>
    cases r
    obtain ⟨_, o, ho, xs, rfl, r⟩ := S.mem _ _ h
    exact ⟨_, xs, rfl, .inl (.of ho), r⟩
inductive AddR (M : Mem) (Q : D → Mem → Prop) : D → D → Prop
  | int {i j : Int} : Q (.int (i + j)) M → AddR M Q (.int i) (.int j)
  | str {x y : Str} : x.length + y.length ≤ sizeLine → Q (.str (x ++ y)) M → AddR M Q (.str x) (.str y)
  | lst {d e : D} {ds es : List D} : IsM M d ds → IsM M e es → ds.length + es.length ≤ sizeLine → NewL (ds ++ es) M Q → AddR M Q d e
  | tup {ds es : List D} : ds.length + es.length ≤ sizeLine → Q (.tup (ds ++ es)) M → AddR M Q (.tup ds) (.tup es)
theorem xs_nil {K : PySem.W.Frag} {xs : List V} {ds : List D} (r : Reps K F xs ds) : xs = [] ↔ ds = [] := by
  cases r with
  | nil => exact ⟨fun _ => rfl, fun _ => rfl⟩
  | cons _ _ => exact ⟨(fun h => nomatch h), (fun h => nomatch h)⟩
theorem od_add (hK : g.K = X.K) : OpD X g (binaryOp .Add) (fun d e M Q => AddR M Q d e) := by
  intro pins s σ H x y v u k I rx ry h
  obtain ⟨F, M, d, e, Q, S, r1, r2, ar, kQ⟩ := h
  cases ar with
  | int q => cases r1; cases r2; exact op_add pins s σ H _ _ v u k I rx ry ⟨_, _, rfl, rfl, kQ _ M F _ H q (Same.r F) S (.int _)⟩
  | str hz q => cases r1; cases r2; exact op_add_str pins s σ H _ _ v u k I rx ry ⟨_, _, rfl, rfl, hz, kQ _ M F _ H q (Same.r F) S (.str _)⟩
  | lst h1 h2 hz q =>
    obtain ⟨a, xs, rfl, ha, ra⟩ := h1.to S r1
    obtain ⟨b, ys, rfl, hb, rb⟩ := h2.to S r2
    exact op_cat pins s σ H _ _ v u k I rx ry ⟨a, b, xs, ys, rfl, rfl, ha, hb, by rw [ra.length, rb.length]; exact hz, fun p hp => q.to S hp (ra.append rb) fun d' M' F' z s S' r => kQ d' M' F' _ _ z s S' r⟩
  | tup hz q =>
    cases r1 with
    | tup h1 ra =>
      cases r2 with
      | tup h2 rb =>
        have k1 := S.sub.sqT (K := g.K) h1
        have k2 := S.sub.sqT (K := g.K) h2
        rw [hK] at k1 k2
        refine op_catA pins s σ H _ _ v u k I rx ry ⟨_, _, _, _, rfl, rfl, k1, k2, by rw [ra.length, rb.length]; exact hz, fun e => ?_, fun _ e => ?_, fun _ _ p hp => ?_⟩
        · have e' := (xs_nil ra).mp e
          subst e'
          exact kQ _ M F _ H q (Same.r F) S (.tup h2 rb)
        · have e' := (xs_nil rb).mp e
          subst e'
          exact kQ _ M F _ H q (Same.r F) S (.tup h1 (by rw [List.append_nil]; exact ra))
        · obtain ⟨s, S'⟩ := S.newF (o := .tup _) hp
          exact kQ _ M _ _ _ q s S' (.tup upd_same ((ra.append rb).mono s))
inductive SubR (M : Mem) (Q : D → Mem → Prop) : D → D → Prop
  | int {i j : Int} : Q (.int (i - j)) M → SubR M Q (.int i) (.int j)
theorem od_sub : OpD X g (binaryOp .Sub) (fun d e M Q => SubR M Q d e) := by
  intro pins s σ H x y v u k I rx ry h
  obtain ⟨F, M, d, e, Q, S, r1, r2, ar, kQ⟩ := h
  cases ar with
  | int q => cases r1; cases r2; exact op_sub pins s σ H _ _ v u k I rx ry ⟨_, _, rfl, rfl, kQ _ M F _ H q (Same.r F) S (.int _)⟩
/-- n times the text -/
def repS (x : Str) (n : Int) : Str := ⟨(List.replicate n.toNat x.cps).foldl (· ++ ·) #[]⟩
inductive MulR (M : Mem) (Q : D → Mem → Prop) : D → D → Prop
  | int {i j : Int} : CMulW i j → Q (.int (i * j)) M → MulR M Q (.int i) (.int j)
  | str {x : Str} {n : Int} : x.length ≤ 1000 → 0 ≤ n → n ≤ 1000 → Q (.str (repS x n)) M → MulR M Q (.str x) (.int n)
  | lst {d : D} {ds : List D} {n : Int} : IsM M d ds → -(2 ^ 63) ≤ n → n < 2 ^ 63 → ds.length * n.toNat ≤ sizeLine → NewL (List.replicate n.toNat ds).flatten M Q → MulR M Q d (.int n)
theorem repS_one (x : Str) : repS x 1 = x := by
  obtain ⟨a⟩ := x
  show (⟨(List.replicate 1 a).foldl (· ++ ·) #[]⟩ : Str) = ⟨a⟩
  simp
theorem repS_nil {x : Str} (h : x.length = 0) (n : Int) : repS x n = x := by
  obtain ⟨a⟩ := x
  have ha : a = #[] := Array.eq_empty_of_size_eq_zero h
  subst ha
  unfold repS
  congr 1
  generalize n.toNat = m
  induction m with
  | zero => rfl
  | succ m ih => rw [List.replicate_succ, List.foldl_cons]; simpa using ih
theorem repS_length (x : Str) (n : Int) : (repS x n).length = x.length * n.toNat := by
  obtain ⟨a⟩ := x
  show ((List.replicate n.toNat a).foldl (· ++ ·) #[]).size = a.size * n.toNat
  generalize n.toNat = m
  have k : ∀ (m : Nat) (b : Array Nat), ((List.replicate m a).foldl (· ++ ·) b).size = b.size + a.size * m := by
    intro m
    induction m with
    | zero => intro b; rfl
    | succ m ih =>
      intro b
      rw [List.replicate_succ, List.foldl_cons, ih, Array.size_append, Nat.mul_succ]
      omega
  rw [k m #[]]
  exact Nat.zero_add _
theorem od_mul : OpD X g (binaryOp .Mult) (fun d e M Q => MulR M Q d e) := by
  intro pins s σ H x y v u k I rx ry h
  obtain ⟨F, M, d, e, Q, S, r1, r2, ar, kQ⟩ := h
  cases ar with
  | int hc q => cases r1; cases r2; exact op_mulW pins s σ H _ _ v u k I rx ry ⟨_, _, rfl, rfl, hc, kQ _ M F _ H q (Same.r F) S (.int _)⟩
  | str hx h0 h1 q =>
    cases r1; cases r2
    rename_i z n
    obtain ⟨t, rfl⟩ := rx
    obtain ⟨t', rfl⟩ := ry
    have hs : (sizeLine : Nat) = 16777216 := sizeLine_eq
    have fin : ∀ s' : Shared, Inv X pins σ H s' → ∀ tk, EP X pins σ k (.str (repS z n) tk) s' := fun s' I' tk => ⟨.str _, H, I', ⟨tk, rfl⟩, kQ _ M F _ H q (Same.r F) S (.str _)⟩
    refine P.mul_str (by rw [decide_eq_false (by omega), decide_eq_false (by omega)]; rfl) (fun hn _ => ?_) (fun hn _ => ?_) ?_
    · have hn1 : 1 ≤ n := by omega
      have h2 : (1000 : Int) ≤ (2 ^ 63 - 1) / n := by
        rw [Int.le_ediv_iff_mul_le (by omega)]
        have : 1000 * n ≤ 1000 * 1000 := by omega
        exact Int.le_trans this (by decide)
      omega
    · unfold PySem.Builtin.Str.tooLong
      have h3 : z.length * n.toNat ≤ 1000 * 1000 := Nat.mul_le_mul hx (by omega)
      simp only [decide_eq_false_iff_not, gt_iff_lt, Nat.not_lt] <;> omega
    · by_cases hn : n < 1
      · rw [if_pos hn]
        have hn0 : n = 0 := by omega
        subst hn0
        exact ⟨by decide, fin _ (I.tok _) _⟩
      · rw [if_neg hn]
        by_cases hq : (n == 1 || z.length == 0) = true
        · rw [if_pos hq]
          have e : repS z n = z := by
            rcases Bool.or_eq_true _ _ ▸ hq with e | e
            · have := eq_of_beq e
              subst this
              exact repS_one z
            · exact repS_nil (eq_of_beq e) n
          have f := fin s I t
          rw [e] at f
          exact f
        · rw [if_neg hq]
          refine ⟨?_, fin _ (I.tok _) _⟩
          have h3 : z.length * n.toNat ≤ 1000 * 1000 := Nat.mul_le_mul hx (by omega)
          have h4 := repS_length z n
          unfold repS at h4
          rw [h4]
          omega
  | lst h1 h2 h3 hz q =>
    cases r2
    obtain ⟨a, xs, rfl, ha, ra⟩ := h1.to S r1
    exact op_rep pins s σ H _ _ v u k I rx ry ⟨a, _, xs, rfl, rfl, ha, h2, h3, by rw [ra.length]; exact hz, fun p hp => q.to S hp (ra.flat _) fun d' M' F' z s S' r => kQ d' M' F' _ _ z s S' r⟩
inductive DivR (M : Mem) (Q : D → Mem → Prop) : D → D → Prop
  | int {i j : Int} : CDivW i j → Q (.int (i / j)) M → DivR M Q (.int i) (.int j)
theorem od_div : OpD X g (binaryOp .FloorDiv) (fun d e M Q => DivR M Q d e) := by
  intro pins s σ H x y v u k I rx ry h
  obtain ⟨F, M, d, e, Q, S, r1, r2, ar, kQ⟩ := h
  cases ar with
  | int hc q => cases r1; cases r2; exact op_fdivW pins s σ H _ _ v u k I rx ry ⟨_, _, rfl, rfl, hc, kQ _ M F _ H q (Same.r F) S (.int _)⟩
inductive ModR (M : Mem) (Q : D → Mem → Prop) : D → D → Prop
  | int {i j : Int} : 0 < j → Q (.int (i % j)) M → ModR M Q (.int i) (.int j)
theorem od_mod : OpD X g (binaryOp .Mod) (fun d e M Q => ModR M Q d e) := by
  intro pins s σ H x y v u k I rx ry h
  obtain ⟨F, M, d, e, Q, S, r1, r2, ar, kQ⟩ := h
  cases ar with
  | int hc q => cases r1; cases r2; exact op_mod pins s σ H _ _ v u k I rx ry ⟨_, _, rfl, rfl, hc, kQ _ M F _ H q (Same.r F) S (.int _)⟩
inductive PowR (M : Mem) (Q : D → Mem → Prop) : D → D → Prop
  | int {i j : Int} : CPow i j → Q (.int (i ^ j.toNat)) M → PowR M Q (.int i) (.int j)
theorem od_pow : OpD X g (binaryOp .Pow) (fun d e M Q => PowR M Q d e) := by
  intro pins s σ H x y v u k I rx ry h
  obtain ⟨F, M, d, e, Q, S, r1, r2, ar, kQ⟩ := h
  cases ar with
  | int hc q => cases r1; cases r2; exact op_pow pins s σ H _ _ v u k I rx ry ⟨_, _, rfl, rfl, hc, kQ _ M F _ H q (Same.r F) S (.int _)⟩
/-- comparisons of ints -/
inductive IntB (f : Int → Int → Bool) (M : Mem) (Q : D → Mem → Prop) : D → D → Prop
  | int {i j : Int} : Q (.bl (f i j)) M → IntB f M Q (.int i) (.int j)
theorem od_intB {f : Value → Value → Sem Value} {p : Int → Int → Bool} (ho : OpR X f (rI0 fun i j => .bl (p i j))) : OpD X g f (fun d e M Q => IntB p M Q d e) := by
  intro pins s σ H x y v u k I rx ry h
  obtain ⟨F, M, d, e, Q, S, r1, r2, ar, kQ⟩ := h
  cases ar with
  | int q => cases r1; cases r2; exact ho pins s σ H _ _ v u k I rx ry ⟨_, _, rfl, rfl, kQ _ M F _ H q (Same.r F) S (.bl _)⟩
theorem od_lt : OpD X g (compareOp .Lt) (fun d e M Q => IntB (fun i j => decide (i < j)) M Q d e) := od_intB op_lt
theorem od_le : OpD X g (compareOp .LtE) (fun d e M Q => IntB (fun i j => decide (i ≤ j)) M Q d e) := od_intB op_le
theorem od_gt : OpD X g (compareOp .Gt) (fun d e M Q => IntB (fun i j => decide (j < i)) M Q d e) := od_intB op_gt
theorem od_ge : OpD X g (compareOp .GtE) (fun d e M Q => IntB (fun i j => decide (j ≤ i)) M Q d e) := od_intB op_ge
/-- ==, != -/
inductive EqR (neg : Bool) (M : Mem) (Q : D → Mem → Prop) : D → D → Prop
  | dat {d e d' e' : D} : Deref M d d' → Deref M e e' → okD 60 d' = true → okD 60 e' = true → Q (.bl (eqD d' e' != neg)) M → EqR neg M Q d e
  | str {x y : Str} : Q (.bl (decide (x = y) != neg)) M → EqR neg M Q (.str x) (.str y)
  | int {x y : Int} : Q (.bl (decide (x = y) != neg)) M → EqR neg M Q (.int x) (.int y)
  | bl {x y : Bool} : Q (.bl ((x == y) != neg)) M → EqR neg M Q (.bl x) (.bl y)
theorem ne_false (b : Bool) : (b != false) = b := by cases b <;> rfl
theorem ne_true (b : Bool) : (b != true) = !b := by cases b <;> rfl
theorem dec_str {x y : Str} : decide (V.str x = V.str y) = decide (x = y) := by
  by_cases h : x = y
  · rw [decide_eq_true h, decide_eq_true (by rw [h])]
  · rw [decide_eq_false h, decide_eq_false (fun e => h (V.str.inj e))]
theorem dec_int {x y : Int} : decide (V.int x = V.int y) = decide (x = y) := by
  by_cases h : x = y
  · rw [decide_eq_true h, decide_eq_true (by rw [h])]
  · rw [decide_eq_false h, decide_eq_false (fun e => h (V.int.inj e))]
theorem dec_bl {x y : Bool} : decide (V.bl x = V.bl y) = (x == y) := by cases x <;> cases y <;> rfl
theorem od_eq (hK : g.K = X.K) (hu : X.A.units + 64 < cLine) : OpD X g (compareOp .Eq) (fun d e M Q => EqR false M Q d e) := by
  intro pins s σ H x y v u k I rx ry h
  obtain ⟨F, M, d, e, Q, S, r1, r2, ar, kQ⟩ := h
  cases ar with
  | dat h1 h2 o1 o2 q =>
    rw [ne_false] at q
    have k1 := Deref.dp S h1 r1
    have k2 := Deref.dp S h2 r2
    rw [hK] at k1 k2
    exact op_eqD hu pins s σ H _ _ v u k I rx ry ⟨_, _, k1, k2, okD_shaped o1, okD_shaped o2, by rw [eqv_py 60 _ _ o1 o2]; exact kQ _ M F _ H q (Same.r F) S (.bl _)⟩
  | str q => rw [ne_false] at q; cases r1; cases r2; exact op_eq pins s σ H _ _ v u k I rx ry ⟨rfl, by rw [dec_str]; exact kQ _ M F _ H q (Same.r F) S (.bl _)⟩
  | int q => rw [ne_false] at q; cases r1; cases r2; exact op_eq pins s σ H _ _ v u k I rx ry ⟨rfl, by rw [dec_int]; exact kQ _ M F _ H q (Same.r F) S (.bl _)⟩
  | bl q => rw [ne_false] at q; cases r1; cases r2; exact op_eq pins s σ H _ _ v u k I rx ry ⟨rfl, by rw [dec_bl]; exact kQ _ M F _ H q (Same.r F) S (.bl _)⟩
theorem od_ne (hK : g.K = X.K) (hu : X.A.units + 64 < cLine) : OpD X g (compareOp .NotEq) (fun d e M Q => EqR true M Q d e) := by
  intro pins s σ H x y v u k I rx ry h
  obtain ⟨F, M, d, e, Q, S, r1, r2, ar, kQ⟩ := h
  cases ar with
  | dat h1 h2 o1 o2 q =>
    rw [ne_true] at q
    have k1 := Deref.dp S h1 r1
    have k2 := Deref.dp S h2 r2
    rw [hK] at k1 k2
    exact op_neD hu pins s σ H _ _ v u k I rx ry ⟨_, _, k1, k2, okD_shaped o1, okD_shaped o2, by rw [eqv_py 60 _ _ o1 o2]; exact kQ _ M F _ H q (Same.r F) S (.bl _)⟩
  | str q => rw [ne_true] at q; cases r1; cases r2; exact op_ne pins s σ H _ _ v u k I rx ry ⟨rfl, by rw [dec_str]; exact kQ _ M F _ H q (Same.r F) S (.bl _)⟩
  | int q => rw [ne_true] at q; cases r1; cases r2; exact op_ne pins s σ H _ _ v u k I rx ry ⟨rfl, by rw [dec_int]; exact kQ _ M F _ H q (Same.r F) S (.bl _)⟩
  | bl q => rw [ne_true] at q; cases r1; cases r2; exact op_ne pins s σ H _ _ v u k I rx ry ⟨rfl, by rw [dec_bl]; exact kQ _ M F _ H q (Same.r F) S (.bl _)⟩
/-- is None, is not None -/
def isN : D → Bool
  | .non => true
  | _ => false
inductive IsR (neg : Bool) (M : Mem) (Q : D → Mem → Prop) : D → D → Prop
  | non {d : D} : Q (.bl (isN d != neg)) M → IsR neg M Q d .non
theorem isN_rep {K : PySem.W.Frag} {v : V} {d : D} (r : Rep K F v d) : decide (v = .non) = isN d := by
  cases r <;> first | rfl | exact decide_eq_false (fun e => nomatch e)
theorem od_is : OpD X g (compareOp .Is) (fun d e M Q => IsR false M Q d e) := by
  intro pins s σ H x y v u k I rx ry h
  obtain ⟨F, M, d, e, Q, S, r1, r2, ar, kQ⟩ := h
  cases ar with
  | non q => rw [ne_false] at q; cases r2; exact op_isN pins s σ H _ _ v u k I rx ry ⟨rfl, by rw [isN_rep r1]; exact kQ _ M F _ H q (Same.r F) S (.bl _)⟩
theorem od_isNot : OpD X g (compareOp .IsNot) (fun d e M Q => IsR true M Q d e) := by
  intro pins s σ H x y v u k I rx ry h
  obtain ⟨F, M, d, e, Q, S, r1, r2, ar, kQ⟩ := h
  cases ar with
  | non q => rw [ne_true] at q; cases r2; exact op_notN pins s σ H _ _ v u k I rx ry ⟨rfl, by rw [isN_rep r1]; exact kQ _ M F _ H q (Same.r F) S (.bl _)⟩
end
end DL
namespace DL
variable [Wd]
open PySem L2 PySem.Spec PyProof.Rows
/-! ### dicts whose keys are tuples, nested -/
inductive EntI (K : PySem.W.Frag) (F : Hp) : List (NestedKey × Addr × Value) → List (D × D) → Prop
  | nil : EntI K F [] []
  | cons {kd d : D} {k : NestedKey} {b : Addr} {u : Value} {v : V} {xs : List (NestedKey × Addr × Value)} {es : List (D × D)} : toNK 8 kd = some k → Rep K F (.ref b) kd → RelV v u → Rep K F v d → EntI K F xs es → EntI K F ((k, b, u) :: xs) ((kd, d) :: es)
theorem Ents.to {K : PySem.W.Frag} {F : Hp} : ∀ {xs : List (NestedKey × Addr × Value)} {es : List (D × D)}, Ents K F xs es → EntI K F xs es
  | [], [], _ => .nil
  | [], _ :: _, ⟨_, l, _⟩ => by cases l
  | _ :: _, [], ⟨_, l, _⟩ => by cases l
  | (k, b, u) :: xs, (kd, d) :: es, ⟨vs, l, r1, rv, r2⟩ => by
    cases r1 with
    | cons a1 t1 =>
      cases rv with
      | cons a2 t2 =>
        cases r2 with
        | cons a3 t3 => exact .cons (List.cons.inj l).1 a1 a2 a3 (Ents.to ⟨_, (List.cons.inj l).2, t1, t2, t3⟩)
theorem EntI.of {K : PySem.W.Frag} {F : Hp} {xs : List (NestedKey × Addr × Value)} {es : List (D × D)} (h : EntI K F xs es) : Ents K F xs es := by
  induction h with
  | nil => exact ⟨[], rfl, .nil, .nil, .nil⟩
  | cons a1 a2 a3 a4 _ ih =>
    obtain ⟨vs, l, r1, rv, r2⟩ := ih
    exact ⟨_ :: vs, by rw [List.map_cons, List.map_cons, l, a1], .cons a2 r1, .cons a3 rv, .cons a4 r2⟩
def lookT (es : List (D × D)) (k : NestedKey) : Option D := (es.find? fun e => decide (toNK 8 e.1 = some k)).map (·.2)
def putT (es : List (D × D)) (kd : D) (k : NestedKey) (d : D) : List (D × D) :=
  if (es.any fun e => decide (toNK 8 e.1 = some k)) = true then es.map (fun e => if toNK 8 e.1 = some k then (e.1, d) else e) else es ++ [(kd, d)]
theorem EntI.length {K : PySem.W.Frag} {F : Hp} {xs : List (NestedKey × Addr × Value)} {es : List (D × D)} (h : EntI K F xs es) : xs.length = es.length := by
  induction h with
  | nil => rfl
  | cons _ _ _ _ _ ih => rw [List.length_cons, List.length_cons, ih]
theorem EntI.look {K : PySem.W.Frag} {F : Hp} {xs : List (NestedKey × Addr × Value)} {es : List (D × D)} (h : EntI K F xs es) (k : NestedKey) :
    (lookT es k = none → atKey xs k = none) ∧ ∀ d, lookT es k = some d → ∃ b u v, atKey xs k = some (b, u) ∧ RelV v u ∧ Rep K F v d := by
  induction h with
  | nil => exact ⟨fun _ => rfl, fun d e => by cases e⟩
  | cons a1 a2 a3 a4 _ ih =>
    rename_i kd d k' b u v xs es h0
    unfold lookT atKey at ih ⊢
    rw [List.find?_cons, List.find?_cons, a1]
    by_cases q : k' = k
    · subst q
      simp only [decide_true]
      exact ⟨(fun z => nomatch z), fun d' e => ⟨b, u, v, rfl, a3, by cases e; exact a4⟩⟩
    · have q2 : ¬ (some k' = some k) := fun z => q (Option.some.inj z)
      simp only [decide_eq_false q2, decide_eq_false q]
      exact ih
theorem EntI.any {K : PySem.W.Frag} {F : Hp} {xs : List (NestedKey × Addr × Value)} {es : List (D × D)} (h : EntI K F xs es) (k : NestedKey) : (es.any fun e => decide (toNK 8 e.1 = some k)) = (atKey xs k).isSome := by
  induction h with
  | nil => rfl
  | cons a1 a2 a3 a4 _ ih =>
    rename_i kd d k' b u v xs es h0
    unfold atKey at ih ⊢
    rw [List.any_cons, ih, a1, List.find?_cons]
    by_cases q : k' = k
    · subst q; simp
    · have q2 : ¬ (some k' = some k) := fun z => q (Option.some.inj z)
      simp [q]
theorem EntI.append {K : PySem.W.Frag} {F : Hp} {xs ys : List (NestedKey × Addr × Value)} {es fs : List (D × D)} (h : EntI K F xs es) (h' : EntI K F ys fs) : EntI K F (xs ++ ys) (es ++ fs) := by
  induction h with
  | nil => exact h'
  | cons a1 a2 a3 a4 _ ih => exact .cons a1 a2 a3 a4 ih
theorem EntI.put {K : PySem.W.Frag} {F : Hp} {xs : List (NestedKey × Addr × Value)} {es : List (D × D)} (h : EntI K F xs es) {kd d : D} {k : NestedKey} {b : Addr} {u : Value} {v : V} (hk : toNK 8 kd = some k) (rk : Rep K F (.ref b) kd) (rv : RelV v u) (rd : Rep K F v d) :
    EntI K F (storedH xs k b u) (putT es kd k d) := by
  unfold storedH putT
  rw [h.any]
  by_cases q : (atKey xs k).isSome = true
  · rw [if_pos q, if_pos q]
    clear q
    induction h with
    | nil => exact .nil
    | cons a1 a2 a3 a4 _ ih =>
      rename_i kd' d' k' b' u' v' xs es h0
      rw [List.map_cons, List.map_cons, a1]
      by_cases z : k' = k
      · subst z
        rw [if_pos rfl]
        show EntI K F (putAt k' u (k', b', u') :: _) _
        unfold putAt
        rw [if_pos rfl]
        exact .cons a1 a2 rv rd ih
      · have z2 : ¬ (some k' = some k) := fun w => z (Option.some.inj w)
        rw [if_neg z2]
        show EntI K F (putAt k u (k', b', u') :: _) _
        unfold putAt
        rw [if_neg z]
        exact .cons a1 a2 a3 a4 ih
  · rw [if_neg q, if_neg q]
    exact h.append (.cons hk rk rv rd .nil)
section
variable {X : Cx} {g : G} {F : Hp} {M : Mem} {H : Hp} {pins : List (Addr × Obj)} {σ : L2.St} {s : Shared}
mutual
theorem rep_nk (I : Inv X pins σ H s) (S : Sta g F M H) : ∀ (n : Nat) (d : D) (k : NestedKey) (v : V) (u : Value), toNK n d = some k → Rep g.K F v d → RelV v u → NestedIs s.heap k u ∧ k.depth ≤ n
  | n, .non, k, v, u, e, r, ru => by
    have e' : some NestedKey.none = some k := by cases n <;> exact e
    cases e'; cases r
    obtain rfl : u = Value.none := ru
    exact ⟨.none, Nat.zero_le _⟩
  | n, .bl b, k, v, u, e, r, ru => by
    have e' : some (NestedKey.num (if b = true then 1 else 0)) = some k := by cases n <;> exact e
    cases e'; cases r
    obtain rfl : u = Value.bool b := ru
    exact ⟨.bool rfl, Nat.zero_le _⟩
  | n, .int i, k, v, u, e, r, ru => by
    have e' : some (NestedKey.num i) = some k := by cases n <;> exact e
    cases e'; cases r
    obtain ⟨t, rfl⟩ : ∃ t, u = Value.int i t := ru
    exact ⟨.int _ _, Nat.zero_le _⟩
  | n, .str x, k, v, u, e, r, ru => by
    have e' : some (NestedKey.text x) = some k := by cases n <;> exact e
    cases e'; cases r
    obtain ⟨t, rfl⟩ : ∃ t, u = Value.str x t := ru
    exact ⟨.text _ _, Nat.zero_le _⟩
  | n + 1, .tup ds, k, v, u, e, r, ru => by
    have e' : (allS (toNK n) ds).map NestedKey.tup = some k := e
    cases q : allS (toNK n) ds with
    | none => rw [q] at e'; cases e'
    | some ks =>
      rw [q] at e'
      cases e'
      cases r with
      | tup ha r =>
        rename_i a xs
        obtain rfl : u = Value.ref a := ru
        obtain ⟨_, its, rv, o, h1, h2, m, h3⟩ := (show ObjOk X.prog X.w H s.heap a (.tup xs) from I.hok a _ (S.sub.tup ha))
        obtain ⟨a1, a2⟩ := reps_nk I S n ds ks xs its q r rv
        refine ⟨.tup h1 h2 h3 (by simpa using a1), ?_⟩
        show NestedKey.depthAll ks + 1 ≤ n + 1
        omega
  | 0, .tup ds, _, _, _, e, _, _ => by cases e
  | n, .lst _, _, _, _, e, _, _ => by cases n <;> cases e
  | n, .ty _, _, _, _, e, _, _ => by cases n <;> cases e
  | n, .ptr _, _, _, _, e, _, _ => by cases n <;> cases e
  | n, .rol _, _, _, _, e, _, _ => by cases n <;> cases e
  | n, .dic _, _, _, _, e, _, _ => by cases n <;> cases e
  | n, .dit _, _, _, _, e, _, _ => by cases n <;> cases e
  | n, .obj _ _, _, _, _, e, _, _ => by cases n <;> cases e
theorem reps_nk (I : Inv X pins σ H s) (S : Sta g F M H) : ∀ (n : Nat) (ds : List D) (ks : List NestedKey) (xs : List V) (its : List Value), allS (toNK n) ds = some ks → Reps g.K F xs ds → Vals xs its → NestedAll s.heap ks its ∧ NestedKey.depthAll ks ≤ n
  | n, [], ks, xs, its, e, r, rv => by
    cases e; cases r; cases rv
    exact ⟨.nil, Nat.zero_le _⟩
  | n, d :: ds, ks, xs, its, e, r, rv => by
    have e' := e
    unfold allS at e'
    cases q1 : toNK n d with
    | none => rw [q1] at e'; cases e'
    | some y =>
      cases q2 : allS (toNK n) ds with
      | none => rw [q1, q2] at e'; cases e'
      | some ys =>
        rw [q1, q2] at e'
        cases e'
        cases r with
        | cons r1 r2 =>
          cases rv with
          | cons v1 v2 =>
            obtain ⟨a1, a2⟩ := rep_nk I S n d y _ _ q1 r1 v1
            obtain ⟨b1, b2⟩ := reps_nk I S n ds ys _ _ q2 r2 v2
            refine ⟨.cons a1 b1, ?_⟩
            show max (NestedKey.depth y) (NestedKey.depthAll ys) ≤ n
            omega
end
/-- the dict itself -/
theorem nk_dict (hw : X.w = Wd.w) (I : Inv X pins σ H s) (S : Sta g F M H) {a : Addr} {xs : List (NestedKey × Addr × Value)} {es : List (D × D)} (h : Rd H a (hoN a xs)) (e : EntI g.K F xs es) :
    s.heap.DictOfH (nestedKind X.prog X.w) a xs ∧ xs.length ≤ sizeLine ∧ (a == sysModules) = false := by
  obtain ⟨⟨z, y, nd, o, es', ep, h1, h2, h3, h4⟩, hr⟩ : ObjOk X.prog X.w H s.heap a (hoN a xs) := by
    rcases h with h | ⟨ob, h⟩
    · exact I.hok a _ h
    · exact (show ObjOk X.prog X.w H s.heap a (.frz ob (hoN a xs)) from I.hok a _ h).2
  refine ⟨⟨o, es', ep, h1, h2, h3, ?_, fun x hx => ?_, nd⟩, z, y⟩
  · rw [h4]
    refine List.map_congr_left fun x _ => ?_
    show _ = (⟨x.1.hash X.w, _, _⟩ : DictEntry)
    rw [hw]
  · clear h1 h2 h3 h4 z nd h hr
    induction e with
    | nil => cases hx
    | cons a1 a2 a3 a4 _ ih =>
      rcases List.mem_cons.mp hx with q | q
      · subst q
        obtain ⟨b1, b2⟩ := rep_nk I S 8 _ _ _ _ a1 a2 rfl
        exact ⟨b1, b2⟩
      · exact ih q
/-- what stands behind d[k] = v -/
theorem nk_new (hw : X.w = Wd.w) {H' : Hp} {h' : Heap} {a : Addr} {xs : List (NestedKey × Addr × Value)} (dd : h'.DictOfH (nestedKind X.prog X.w) a xs) (z : xs.length ≤ sizeLine) (y : (a == sysModules) = false) : ObjOk X.prog X.w H' h' a (hoN a xs) := by
  obtain ⟨o, es', ep, h1, h2, h3, h4, _, nd⟩ := dd
  refine ⟨⟨z, y, nd, o, es', ep, h1, h2, h3, ?_⟩, ⟨o, h1⟩, fun g1 g2 ⟨z1, y1, nd1, o1, es1, ep1, b1, b2, b3, b4⟩ kp => ⟨z1, y1, nd1, o1, es1, ep1, kp o1 b1, b2, b3, b4⟩⟩
  rw [h4]
  refine List.map_congr_left fun x _ => ?_
  show (⟨x.1.hash X.w, _, _⟩ : DictEntry) = _
  rw [hw]
end
end DL
namespace DL
variable [Wd]
open PySem L2
section
variable {X : Cx} {g : G} {W : WX} {pos : Pos} {a b c e o : Expr} {es : List Expr} {da db dc de : DE} {dA : DA} {x : Str} {p apos cpos : Pos}
/-! ### in -/
def flatD : D → Bool
  | .non => true
  | .bl _ => true
  | .int _ => true
  | .str _ => true
  | _ => false
theorem flat_rep {K : PySem.W.Frag} {F : Hp} {v : V} {d : D} (r : Rep K F v d) (h : flatD d = true) : flatV v = true := by
  cases r <;> first | rfl | (simp [flatD] at h)
theorem flats_rep {K : PySem.W.Frag} {F : Hp} : ∀ {vs : List V} {ds : List D}, Reps K F vs ds → ds.all flatD = true → vs.all flatV = true
  | _, _, .nil, _ => rfl
  | _, _, .cons r t, h => by
    rw [List.all_cons, Bool.and_eq_true] at h ⊢
    exact ⟨flat_rep r h.1, flats_rep t h.2⟩
theorem eqV_rep {K : PySem.W.Frag} {F : Hp} {v u : V} {d e : D} (r : Rep K F v d) (s : Rep K F u e) (h : flatD d = true) (h' : flatD e = true) : eqV v u = eqD d e := by
  cases r <;> cases s <;> first | rfl | (simp [flatD] at h) | (simp [flatD] at h')
theorem inV_rep {K : PySem.W.Frag} {F : Hp} {v : V} {d : D} (r : Rep K F v d) (h : flatD d = true) : ∀ {vs : List V} {ds : List D}, Reps K F vs ds → ds.all flatD = true → inV v vs = ds.any fun z => eqD z d
  | _, _, .nil, _ => rfl
  | _, _, .cons q t, h' => by
    rw [List.all_cons, Bool.and_eq_true] at h'
    have ih := inV_rep r h t h'.2
    unfold inV at ih ⊢
    rw [List.any_cons, List.any_cons, eqV_rep q r h'.1 h, ih]
inductive IsDic (M : Mem) : D → List (Key × D) → Prop
  | dic (es : List (Key × D)) : IsDic M (.dic es) es
  | ptr {p : Addr} {es : List (Key × D)} : (p, .dic es) ∈ M → IsDic M (.ptr p) es
inductive IsDit (M : Mem) : D → List (D × D) → Prop
  | dit (es : List (D × D)) : IsDit M (.dit es) es
  | ptr {p : Addr} {es : List (D × D)} : (p, .dit es) ∈ M → IsDit M (.ptr p) es
def keyD : Key → D
  | .inl i => .int i
  | .inr x => .str x
theorem key_rep {K : PySem.W.Frag} {F : Hp} {v : V} {k : Key} (r : Rep K F v (keyD k)) : v = kV k := by
  cases k <;> (cases r; rfl)
theorem keys_rep {K : PySem.W.Frag} {F : Hp} : ∀ {vs : List V} {ks : List Key}, Reps K F vs (ks.map keyD) → vs = ks.map kV
  | _, [], .nil => rfl
  | _, _ :: _, .cons r t => by rw [key_rep r, keys_rep t]; rfl
def lookD {κ : Type} [DecidableEq κ] (es : List (κ × D)) (k : κ) : Option D := (es.find? fun kv => decide (kv.1 = k)).map (·.2)
def putD {κ : Type} [DecidableEq κ] (es : List (κ × D)) (k : κ) (d : D) : List (κ × D) :=
  if (es.any fun kv => decide (kv.1 = k)) = true then es.map (fun kv => if kv.1 = k then (kv.1, d) else kv) else es ++ [(k, d)]
theorem look_rep {κ : Type} [DecidableEq κ] {K : PySem.W.Frag} {F : Hp} (k : κ) : ∀ {kvs : List (κ × V)} {es : List (κ × D)}, kvs.map (·.1) = es.map (·.1) → Reps K F (kvs.map (·.2)) (es.map (·.2)) →
    (lookD es k = none → valV kvs k = none) ∧ ∀ d, lookD es k = some d → ∃ v, valV kvs k = some v ∧ Rep K F v d
  | [], [], _, _ => ⟨fun _ => rfl, fun d h => by cases h⟩
  | (k1, v1) :: kvs, (k2, d2) :: es, hk, r => by
    have e1 : k1 = k2 := (List.cons.inj hk).1
    subst e1
    cases r with
    | cons r1 r2 =>
      have ih := look_rep k (kvs := kvs) (es := es) (List.cons.inj hk).2 r2
      by_cases h : k1 = k
      · have a1 : lookD ((k1, d2) :: es) k = some d2 := by simp [lookD, List.find?_cons, h]
        have a2 : valV ((k1, v1) :: kvs) k = some v1 := valV_pos h
        rw [a1, a2]
        exact ⟨(fun h => nomatch h), fun d e => ⟨v1, rfl, by cases e; exact r1⟩⟩
      · have a1 : lookD ((k1, d2) :: es) k = lookD es k := by simp [lookD, List.find?_cons, h]
        rw [a1, valV_neg h]
        exact ih
theorem any_rep {κ : Type} [DecidableEq κ] (k : κ) : ∀ {kvs : List (κ × V)} {es : List (κ × D)}, kvs.map (·.1) = es.map (·.1) → (kvs.any fun kv => decide (kv.1 = k)) = es.any fun kv => decide (kv.1 = k)
  | [], [], _ => rfl
  | (k1, v1) :: kvs, (k2, d2) :: es, hk => by
    rw [List.any_cons, List.any_cons, any_rep k (List.cons.inj hk).2, show k1 = k2 from (List.cons.inj hk).1]
theorem put_rep {κ : Type} [DecidableEq κ] {K : PySem.W.Frag} {F : Hp} {v : V} {d : D} (k : κ) {kvs : List (κ × V)} {es : List (κ × D)} (hk : kvs.map (·.1) = es.map (·.1)) (r : Reps K F (kvs.map (·.2)) (es.map (·.2))) (rv : Rep K F v d) :
    (putK kvs k v).map (·.1) = (putD es k d).map (·.1) ∧ Reps K F ((putK kvs k v).map (·.2)) ((putD es k d).map (·.2)) := by
  unfold putK putD
  rw [any_rep k hk]
  by_cases h : (es.any fun kv => decide (kv.1 = k)) = true
  · rw [if_pos h, if_pos h]
    clear h
    induction kvs generalizing es with
    | nil =>
      cases es with
      | nil => exact ⟨rfl, .nil⟩
      | cons _ _ => cases hk
    | cons p kvs ih =>
      obtain ⟨k1, v1⟩ := p
      cases es with
      | nil => cases hk
      | cons q es =>
        obtain ⟨k2, d2⟩ := q
        have e1 : k1 = k2 := (List.cons.inj hk).1
        subst e1
        cases r with
        | cons r1 r2 =>
          obtain ⟨i1, i2⟩ := ih (List.cons.inj hk).2 r2
          by_cases e : k1 = k
          · simp only [List.map_cons, if_pos e]
            exact ⟨by rw [i1], .cons rv i2⟩
          · simp only [List.map_cons, if_neg e]
            exact ⟨by rw [i1], .cons r1 i2⟩
  · rw [if_neg h, if_neg h, List.map_append, List.map_append, List.map_append, List.map_append, hk]
    exact ⟨rfl, r.append (.cons rv .nil)⟩
section
variable {F : Hp} {M : Mem} {H : Hp}
theorem IsDic.to {v : V} {d : D} {es : List (Key × D)} (h : IsDic M d es) (S : Sta g F M H) (r : Rep g.K F v d) : ∃ a kvs, v = .ref a ∧ Rd H a (.dK kvs) ∧ kvs.map (·.1) = es.map (·.1) ∧ Reps g.K F (kvs.map (·.2)) (es.map (·.2)) := by
  cases h with
  | dic => cases r with | dic e l r => exact ⟨_, _, rfl, S.sub.dK e, l, r⟩
  | ptr h =>
    cases r
    obtain ⟨_, o, ho, kvs, rfl, l, r⟩ := S.mem _ _ h
    exact ⟨_, kvs, rfl, .inl ho, l, r⟩
theorem IsDit.to {v : V} {d : D} {es : List (D × D)} (h : IsDit M d es) (S : Sta g F M H) (r : Rep g.K F v d) : ∃ a xs, v = .ref a ∧ Rd H a (hoN a xs) ∧ EntI g.K F xs es := by
  cases h with
  | dit =>
    cases r with
    | dit e l r1 rv r2 => exact ⟨_, _, rfl, S.sub.nk e, Ents.to ⟨_, l, r1, rv, r2⟩⟩
  | ptr h =>
    cases r
    obtain ⟨_, o, ho, xs, rfl, r⟩ := S.mem _ _ h
    exact ⟨_, xs, rfl, .inl ho, r.to⟩
theorem EntI.isSome {K : PySem.W.Frag} {xs : List (NestedKey × Addr × Value)} {es : List (D × D)} (h : EntI K F xs es) (k : NestedKey) : (atKey xs k).isSome = (lookT es k).isSome := by
  obtain ⟨a, b⟩ := h.look k
  cases q : lookT es k with
  | none => rw [a q]; rfl
  | some d =>
    obtain ⟨_, _, _, e, _⟩ := b d q
    rw [e]; rfl
theorem room_in1 {A : Around} (hu : A.units + 64 < cLine) : A.in1.units + 8 < cLine := by
  have e : A.in1.units = A.units + 1 := rfl
  omega
/-- a tuple of keys stands in the heap itself (not in the written part) -/
theorem tup_keys {v : V} {ks : List Key} (S : Sta g F M H) (r : Rep g.K F v (.tup (ks.map keyD))) : ∃ b, v = .ref b ∧ H b = some (.tup (ks.map kV)) := by
  cases r with
  | tup h r => exact ⟨_, rfl, by rw [← keys_rep r]; exact S.sub.tup h⟩
end
inductive InR (neg : Bool) (M : Mem) (Q : D → Mem → Prop) : D → D → Prop
  | seq {d e : D} {ds : List D} : IsS M e ds → flatD d = true → ds.all flatD = true → Q (.bl ((ds.any fun z => eqD z d) != neg)) M → InR neg M Q d e
  | dic {k : Key} {e : D} {es : List (Key × D)} : IsDic M e es → Q (.bl ((lookD es k).isSome != neg)) M → InR neg M Q (keyD k) e
  | dit {e : D} {ds : List D} {k : NestedKey} {es : List (D × D)} : IsDit M e es → toNK 8 (.tup ds) = some k → Q (.bl ((lookT es k).isSome != neg)) M → InR neg M Q (.tup ds) e
  | deep {d d' e e' : D} {ds : List D} : Deref M d d' → Deref M e (.lst ds) → okD 60 d' = true → okD 60 (.lst ds) = true → Q (.bl ((ds.any fun z => eqD z d') != neg)) M → InR neg M Q d e
theorem any_eqv {d : D} (hd : okD 59 d = true) : ∀ {ds : List D}, ds.all (okD 59) = true → ((pyDs ds).any fun z => PyData.eqv z (pyD d)) = ds.any fun z => eqD z d
  | [], _ => rfl
  | e :: es, h => by
    rw [List.all_cons, Bool.and_eq_true] at h
    show (PyData.eqv (pyD e) (pyD d) || (pyDs es).any fun z => PyData.eqv z (pyD d)) = (eqD e d || es.any fun z => eqD z d)
    rw [eqv_py 59 e d h.1 hd, any_eqv hd h.2]
theorem look_some {o : Option D} {o' : Option V} (h1 : o = none → o' = none) (h2 : ∀ d, o = some d → ∃ v, o' = some v) : o'.isSome = o.isSome := by
  cases o with
  | none => rw [h1 rfl]; rfl
  | some d => obtain ⟨v, e⟩ := h2 d rfl; rw [e]; rfl
theorem okD_up : ∀ (n : Nat) (d : D), okD n d = true → okD (n + 1) d = true
  | n, .non, _ => rfl
  | n, .bl _, _ => rfl
  | n, .int _, _ => rfl
  | 0, .str x, h => h
  | n + 1, .str x, h => h
  | n + 1, .tup ds, h => List.all_eq_true.mpr fun e he => okD_up n e (List.all_eq_true.mp h e he)
  | n + 1, .lst ds, h => List.all_eq_true.mpr fun e he => okD_up n e (List.all_eq_true.mp h e he)
  | 0, .tup ds, h => by simp [okD] at h
  | 0, .lst ds, h => by simp [okD] at h
  | n, .ty _, h => by cases n <;> simp [okD] at h
  | n, .ptr _, h => by cases n <;> simp [okD] at h
  | n, .rol _, h => by cases n <;> simp [okD] at h
  | n, .dic _, h => by cases n <;> simp [okD] at h
  | n, .dit _, h => by cases n <;> simp [okD] at h
  | n, .obj _ _, h => by cases n <;> simp [okD] at h
theorem od_in (hw : X.w = Wd.w) (hK : g.K = X.K) (hu : X.A.units + 65 < cLine) : OpD X g (compareOp .In) (fun d e M Q => InR false M Q d e) := by
  intro pins s σ H x y v u k I rx ry h
  obtain ⟨F, M, d, e, Q, S, r1, r2, ar, kQ⟩ := h
  cases ar with
  | seq hs h1 h2 q =>
    rw [ne_false] at q
    obtain ⟨a, xs, rfl, ha, ra⟩ := hs.to S r2
    rw [hK] at ha
    refine op_in_seq pins s σ H _ _ v u k I rx ry ⟨a, xs, rfl, ha, flat_rep r1 h1, flats_rep ra h2, ?_⟩
    rw [if_neg Bool.false_ne_true, inV_rep r1 h1 ra h2]
    exact kQ _ M F _ H q (Same.r F) S (.bl _)
  | dic hs q =>
    rw [ne_false] at q
    obtain ⟨a, kvs, rfl, ha, l, ra⟩ := hs.to S r2
    obtain rfl := key_rep r1
    cases ry
    obtain ⟨l1, l2⟩ := look_rep _ l ra
    refine d_in (o := valV kvs _) (by omega) I (.inl ⟨kvs, _, ha, rfl, rfl⟩) rx fun s' I' => ⟨.bl _, H, I', rfl, ?_⟩
    rw [look_some l1 fun d e => let ⟨v, a, _⟩ := l2 d e; ⟨v, a⟩]
    exact kQ _ M F _ H q (Same.r F) S (.bl _)
  | dit hs hk q =>
    rw [ne_false] at q
    obtain ⟨a, xs, rfl, ha, en⟩ := hs.to S r2
    obtain ⟨hm, hz, hy⟩ := nk_dict hw I S ha en
    cases ry
    cases r1 with
    | tup hb rb =>
      cases rx
      obtain ⟨b1, b2⟩ := rep_nk I S 8 _ _ _ _ hk (.tup hb rb) rfl
      refine wpAny_in_heap (knd := nestedKind X.prog X.w) (room_in1 (by omega)) ⟨b1, b2⟩ hy hm ⟨.bl _, H, I.tok _, rfl, ?_⟩
      rw [en.isSome]
      exact kQ _ M F _ H q (Same.r F) S (.bl _)
  | deep h1 h2 o1 o2 q =>
    rw [ne_false] at q
    have k1 := Deref.dp S h1 r1
    have k2 := Deref.dp S h2 r2
    rw [hK] at k1 k2
    refine op_inD hu pins s σ H _ _ v u k I rx ry ⟨_, _, k1, k2, okD_shaped o1, okD_shaped o2, ?_⟩
    rename_i d' e' ds
    have e1 : ((pyDs ds).any fun z => PyData.eqv z (pyD d')) = ds.any fun z => eqD z d' := by
      have o1' := okD_up 60 d' o1
      have o2' : ds.all (okD 60) = true := List.all_eq_true.mpr fun z hz => okD_up 59 z (List.all_eq_true.mp o2 z hz)
      clear q k2 h2 o2
      induction ds with
      | nil => rfl
      | cons z zs ih =>
        rw [List.all_cons, Bool.and_eq_true] at o2'
        show (PyData.eqv (pyD z) (pyD d') || (pyDs zs).any fun z => PyData.eqv z (pyD d')) = (eqD z d' || zs.any fun z => eqD z d')
        rw [eqv_py 60 z d' o2'.1 o1, ih o2'.2]
    rw [e1]
    exact kQ _ M F _ H q (Same.r F) S (.bl _)
theorem od_notIn (hw : X.w = Wd.w) (hK : g.K = X.K) (hu : X.A.units + 65 < cLine) : OpD X g (compareOp .NotIn) (fun d e M Q => InR true M Q d e) := by
  intro pins s σ H x y v u k I rx ry h
  obtain ⟨F, M, d, e, Q, S, r1, r2, ar, kQ⟩ := h
  cases ar with
  | seq hs h1 h2 q =>
    rw [ne_true] at q
    obtain ⟨a, xs, rfl, ha, ra⟩ := hs.to S r2
    rw [hK] at ha
    refine op_notIn_seq pins s σ H _ _ v u k I rx ry ⟨a, xs, rfl, ha, flat_rep r1 h1, flats_rep ra h2, ?_⟩
    rw [if_pos rfl, inV_rep r1 h1 ra h2]
    exact kQ _ M F _ H q (Same.r F) S (.bl _)
  | dic hs q =>
    rw [ne_true] at q
    obtain ⟨a, kvs, rfl, ha, l, ra⟩ := hs.to S r2
    obtain rfl := key_rep r1
    cases ry
    obtain ⟨l1, l2⟩ := look_rep _ l ra
    refine d_notIn (o := valV kvs _) (by omega) I (.inl ⟨kvs, _, ha, rfl, rfl⟩) rx fun s' I' => ⟨.bl _, H, I', rfl, ?_⟩
    rw [look_some l1 fun d e => let ⟨v, a, _⟩ := l2 d e; ⟨v, a⟩]
    exact kQ _ M F _ H q (Same.r F) S (.bl _)
  | dit hs hk q =>
    rw [ne_true] at q
    obtain ⟨a, xs, rfl, ha, en⟩ := hs.to S r2
    obtain ⟨hm, hz, hy⟩ := nk_dict hw I S ha en
    cases ry
    cases r1 with
    | tup hb rb =>
      cases rx
      obtain ⟨b1, b2⟩ := rep_nk I S 8 _ _ _ _ hk (.tup hb rb) rfl
      refine PyProof.Rows.wpAny_notIn_heap (knd := nestedKind X.prog X.w) (room_in1 (by omega)) ⟨b1, b2⟩ hy hm ⟨.bl _, H, I.tok _, rfl, ?_⟩
      rw [en.isSome]
      exact kQ _ M F _ H q (Same.r F) S (.bl _)
  | deep h1 h2 o1 o2 q =>
    rw [ne_true] at q
    have k1 := Deref.dp S h1 r1
    have k2 := Deref.dp S h2 r2
    rw [hK] at k1 k2
    refine op_notInD hu pins s σ H _ _ v u k I rx ry ⟨_, _, k1, k2, okD_shaped o1, okD_shaped o2, ?_⟩
    rename_i d' e' ds
    have e1 : ((pyDs ds).any fun z => PyData.eqv z (pyD d')) = ds.any fun z => eqD z d' := by
      have o2' : ds.all (okD 60) = true := List.all_eq_true.mpr fun z hz => okD_up 59 z (List.all_eq_true.mp o2 z hz)
      clear q k2 h2 o2
      induction ds with
      | nil => rfl
      | cons z zs ih =>
        rw [List.all_cons, Bool.and_eq_true] at o2'
        show (PyData.eqv (pyD z) (pyD d') || (pyDs zs).any fun z => PyData.eqv z (pyD d')) = (eqD z d' || zs.any fun z => eqD z d')
        rw [eqv_py 60 z d' o2'.1 o1, ih o2'.2]
    rw [e1]
    exact kQ _ M F _ H q (Same.r F) S (.bl _)

/-! ### subscripts -/
def IxD (X : Cx) (g : G) (r : DR2) : Prop := IxR X (liftR g r)
theorem de_ix {r : DR2} (hr : IxD X g r) (ha : PE X a (liftE g W da)) (hb : PE X b (liftE g W db)) (hs : PlainIx b := by exact fun _ _ => rfl) : PE X (.Subscript a b pos) (liftE g W (dOp r da db)) :=
  PE.imp (pe_ix hr ha hb hs) fun _ _ _ h => lift_op h
inductive IxQ (M : Mem) (Q : D → Mem → Prop) : D → D → Prop
  | seq {d e : D} {ds : List D} {i : Int} : IsS M d ds → atI ds i = some e → Q e M → IxQ M Q d (.int i)
  | str {z : Str} {i : Int} {c : Nat} : z.length ≤ sizeLine → atI z.cps.toList i = some c → Q (.str ⟨#[c]⟩) M → IxQ M Q (.str z) (.int i)
  | dic {k : Key} {d e : D} {es : List (Key × D)} : IsDic M d es → lookD es k = some e → Q e M → IxQ M Q d (keyD k)
  | dit {d e : D} {ds : List D} {k : NestedKey} {es : List (D × D)} : IsDit M d es → toNK 8 (.tup ds) = some k → lookT es k = some e → Q e M → IxQ M Q d (.tup ds)
theorem atI_rep {K : PySem.W.Frag} {F : Hp} {vs : List V} {ds : List D} {i : Int} {d : D} (r : Reps K F vs ds) (h : atI ds i = some d) : ∃ v, atI vs i = some v ∧ Rep K F v d := by
  unfold atI at h ⊢
  rw [r.length]
  cases e : ixN ds.length i with
  | none => rw [e] at h; cases h
  | some j =>
    rw [e] at h
    exact r.get h
theorem ix_gen {value slice : Expr} {pins : List (Addr × Obj)} {s : Shared} {σ : L2.St} {u : Value} {Q : VK} {a : Addr} (hT : s.TypeIs (.ref a) "dict") (hs : subscripted slice false (.ref a) u = operate [.ref a, u] (getItem (.ref a) u))
    (h : wpAny (model X.prog X.w) X.A (getItem (.ref a) u) (EP X pins σ Q) X.xe s) : wpAny (model X.prog X.w) X.A (PyProof.Rows.subscriptTail value slice (.ref a) u) (EP X pins σ Q) X.xe s := by
  unfold PyProof.Rows.subscriptTail
  refine wpAny_bind ?_
  rw [getitemInPython_of_ne hT.not_modules]
  refine wpAny_bind (wpAny_specialOf hT PySem.F.slot_dict_getitem.lookup ?_)
  have fin : wpAny (model X.prog X.w) X.A (subscripted slice false (.ref a) u) (fun r s₃ => wpAny (model X.prog X.w) X.A (letTemporaryGo value (.ref a) r >>= fun _ => pure r) (EP X pins σ Q) X.xe s₃) X.xe s := by
    rw [hs]
    exact wpAny_operating (wpAny_mono h (fun r s₃ h₃ => wpAny_bind (wpAny_letTemporaryGo (wpAny_pure h₃))) fun _ _ x => x)
  first
    | exact wpAny_pure (wpAny_bind fin)
    | exact wpAny_bind (wpAny_pure (wpAny_bind fin))
    | exact wpAny_bind fin
theorem ix_dic (hu : X.A.units + 1 < cLine) : IxR X (fun x y H Q => ∃ a v, x = .ref a ∧ DGet H a y (some v) ∧ Q v H) := by
  intro value slice pins s σ H x y v u Q I rx ry h hs
  obtain ⟨a, z, rfl, gt, q⟩ := h
  cases rx
  have hT := dict_typeIs I gt
  unfold PyProof.Rows.subscriptTail
  refine wpAny_bind ?_
  rw [getitemInPython_of_ne hT.not_modules]
  refine wpAny_bind (wpAny_specialOf hT PySem.F.slot_dict_getitem.lookup ?_)
  have fin : wpAny (model X.prog X.w) X.A (subscripted slice false (.ref a) u) (fun r s₃ => wpAny (model X.prog X.w) X.A (letTemporaryGo value (.ref a) r >>= fun _ => pure r) (EP X pins σ Q) X.xe s₃) X.xe s := by
    rw [hs]
    exact wpAny_operating (wpAny_mono (d_getItem (Q := fun w s' => ∃ z' H', Inv X pins σ H' s' ∧ RelV z' w ∧ Q z' H') hu I gt ry fun w' s3 I3 rw' => ⟨z, H, I3, rw', q⟩) (fun r s₃ h₃ => wpAny_bind (wpAny_letTemporaryGo (wpAny_pure h₃))) fun _ _ x => x)
  first
    | exact wpAny_pure (wpAny_bind fin)
    | exact wpAny_bind (wpAny_pure (wpAny_bind fin))
    | exact wpAny_bind fin
theorem od_ix (hw : X.w = Wd.w) (hK : g.K = X.K) (hu : X.A.units + 64 < cLine) : IxD X g (fun d e M Q => IxQ M Q d e) := by
  intro value slice pins s σ H x y v u k I rx ry h hs
  obtain ⟨F, M, d, e, Q, S, r1, r2, ar, kQ⟩ := h
  cases ar with
  | seq h1 h2 q =>
    obtain ⟨a, xs, rfl, ha, ra⟩ := h1.to S r1
    cases r2
    obtain ⟨w, hw, rw_⟩ := atI_rep ra h2
    rw [hK] at ha
    rcases ha with ha | ha
    · exact ix_list value slice pins s σ H _ _ v u k I rx ry ⟨a, xs, _, w, rfl, rfl, ha, hw, kQ _ M F _ H q (Same.r F) S rw_⟩ hs
    · exact ix_tup value slice pins s σ H _ _ v u k I rx ry ⟨a, xs, _, w, rfl, rfl, ha, hw, kQ _ M F _ H q (Same.r F) S rw_⟩ hs
  | str hz h2 q =>
    cases r1; cases r2
    exact ix_str value slice pins s σ H _ _ v u k I rx ry ⟨_, _, _, rfl, rfl, hz, h2, kQ _ M F _ H q (Same.r F) S (.str _)⟩ hs
  | dic h1 h2 q =>
    obtain ⟨a, kvs, rfl, ha, l, ra⟩ := h1.to S r1
    obtain rfl := key_rep r2
    obtain ⟨_, l2⟩ := look_rep _ l ra
    obtain ⟨w, hw, rw_⟩ := l2 _ h2
    exact ix_dic (by omega) value slice pins s σ H _ _ v u k I rx ry ⟨a, w, rfl, .inl ⟨kvs, _, ha, rfl, hw.symm⟩, kQ _ M F _ H q (Same.r F) S rw_⟩ hs
  | dit hd hk h2 q =>
    obtain ⟨a, xs, rfl, ha, en⟩ := hd.to S r1
    obtain ⟨hm, hz, hy⟩ := nk_dict hw I S ha en
    obtain ⟨_, l2⟩ := en.look _
    obtain ⟨b', u', v', e1, e2, e3⟩ := l2 _ h2
    cases rx
    cases r2 with
    | tup hb rb =>
      cases ry
      obtain ⟨b1, b2⟩ := rep_nk I S 8 _ _ _ _ hk (.tup hb rb) rfl
      exact ix_gen hm.typeIs hs (wpAny_getItem_heap (knd := nestedKind X.prog X.w) (room_in1 hu) ⟨b1, b2⟩ hm e1 ⟨v', H, I.tok _, e2, kQ _ M F _ H q (Same.r F) S e3⟩)
/-! ### slices -/
abbrev DO := Rho → Mem → (Option Int → Mem → Prop) → XD → Prop
def liftO (g : G) (W : WX) (dt : DO) : TO := fun σ H k => ∃ ρ M F Q E, Sta g F M H ∧ Enr g.K F σ ρ ∧ dt ρ M Q E ∧
  (∀ b M' F' H', Q b M' → Same F F' → Sta g F' M' H' → k b H') ∧ (∀ C dd M' F' H', E C dd M' → Same F F' → Sta g F' M' H' → W (.ref C) (some dd) σ H')
theorem _root_.L2.PO.imp {X : Cx} {e : Option Expr} {t t' : TO} (h : PO X e t) (i : ∀ σ H k, t' σ H k → t σ H k) : PO X e t' := ⟨fun pins s σ H k I q => h.run pins s σ H k I (i σ H k q)⟩
def oNone : DO := fun _ M Q _ => Q none M
def oSome (de : DE) : DO := fun ρ M Q E => de ρ M (fun d M' => ∃ i, d = .int i ∧ Q (some i) M') E
theorem do_none : PO X none (liftO g W oNone) := PO.imp po_none fun σ H k ⟨ρ, M, F, Q, E, S, En, q, kQ, kE⟩ => kQ none M F H q (Same.r F) S
theorem do_some (h : PE X e (liftE g W de)) : PO X (some e) (liftO g W (oSome de)) :=
  PO.imp (po_some h) fun σ H k ⟨ρ, M, F, Q, E, S, En, q, kQ, kE⟩ => ⟨ρ, M, F, _, E, S, En, q, fun d M' F' v H' ⟨i, ed, z⟩ s S' r => by
    subst ed
    cases r
    exact ⟨i, rfl, kQ _ M' F' H' z s S'⟩, kE⟩
def cutD (xs : List D) (lo hi : Option Int) : List D := (xs.drop (HT.sIx xs.length 0 lo)).take (HT.sIx xs.length xs.length hi - HT.sIx xs.length 0 lo)
theorem cut_rep {K : PySem.W.Frag} {F : Hp} {vs : List V} {ds : List D} (r : Reps K F vs ds) (lo hi : Option Int) : Reps K F (cutV vs lo hi) (cutD ds lo hi) := by
  unfold cutV cutD
  rw [r.length]
  exact (r.drop _).take _
inductive SlQ (M : Mem) (Q : D → Mem → Prop) (lo hi : Option Int) : D → Prop
  | lst {d : D} {ds : List D} {st : Mem → Prop} : IsL M d ds st → NewL (cutD ds lo hi) M Q → SlQ M Q lo hi d
  | tup {ds : List D} : Q (.tup (cutD ds lo hi)) M → SlQ M Q lo hi (.tup ds)
def dSl (de : DE) (l h : DO) : DE := fun ρ M Q E => de ρ M (fun d M1 => l ρ M1 (fun lo M2 => h ρ M2 (fun hi M3 => SlQ M3 Q lo hi d) E) E) E
theorem cut_all {xs : List V} {lo hi : Option Int} (h1 : HT.sIx xs.length 0 lo = 0) (h2 : HT.sIx xs.length xs.length hi = xs.length) : cutV xs lo hi = xs := by
  unfold cutV
  rw [h1, h2, List.drop_zero, Nat.sub_zero, List.take_length]
theorem sl_any (hK : g.K = X.K) : SlR X (fun x lo hi H k => ∃ F M d Q, Sta g F M H ∧ Rep g.K F x d ∧ SlQ M Q lo hi d ∧ ∀ d' M' F' v H', Q d' M' → Same F F' → Sta g F' M' H' → Rep g.K F' v d' → k v H') := by
  intro pins s σ H x v vl vu lo hi sl k I rx hs pl pu h
  obtain ⟨F, M, d, Q, S, r, q, kQ⟩ := h
  cases q with
  | lst hl q =>
    obtain ⟨a, xs, rfl, ha, ra, _⟩ := hl.sq S r
    rw [hK] at ha
    exact sl_list pins s σ H _ v vl vu lo hi sl k I rx hs pl pu ⟨a, xs, rfl, ha, fun p hp => q.to S hp (cut_rep ra lo hi) fun d' M' F' z s S' r => kQ d' M' F' _ _ z s S' r⟩
  | tup q =>
    cases r with
    | tup ht ra =>
      have k1 := S.sub.sqT (K := g.K) ht
      rw [hK] at k1
      refine sl_tupA pins s σ H _ v vl vu lo hi sl k I rx hs pl pu ⟨_, _, rfl, k1, fun ⟨e1, e2⟩ => ?_, fun _ p hp => ?_⟩
      · have e := cut_rep ra lo hi
        rw [cut_all e1 e2] at e
        exact kQ _ M F _ H q (Same.r F) S (.tup ht e)
      · obtain ⟨s, S'⟩ := S.newF (o := .tup _) hp
        exact kQ _ M _ _ _ q s S' (.tup upd_same ((cut_rep ra lo hi).mono s))
theorem de_slice {lo hi : Option Expr} {l h : DO} {p2 : Pos} (hK : g.K = X.K) (he : PE X e (liftE g W de)) (hl : PO X lo (liftO g W l)) (hu : PO X hi (liftO g W h)) : PE X (.Subscript e (.Slice lo hi none p2) pos) (liftE g W (dSl de l h)) :=
  PE.imp (pe_slice (sl_any hK) he hl hu) fun σ H k ⟨ρ, M, F, Q, E, S, En, q, kQ, kE⟩ => by
    refine ⟨ρ, M, F, _, E, S, En, q, fun d M1 F1 v H1 q1 s1 S1 r1 => ?_, kE⟩
    refine ⟨ρ, M1, F1, _, E, S1, En.mono s1, q1, fun lo M2 F2 H2 q2 s2 S2 => ?_, fun C dd M' F' H' z s S' => kE C dd M' F' H' z (s1.t s) S'⟩
    refine ⟨ρ, M2, F2, _, E, S2, En.mono (s1.t s2), q2, fun hi M3 F3 H3 q3 s3 S3 => ?_, fun C dd M' F' H' z s S' => kE C dd M' F' H' z ((s1.t s2).t s) S'⟩
    exact ⟨F3, M3, d, Q, S3, r1.mono (s2.t s3), q3, fun d' M' F' w H' z s S' r => kQ d' M' F' w H' z (((s1.t s2).t s3).t s) S' r⟩
end
end DL
namespace DL
variable [Wd]
open PySem L2 PySem.Spec PyProof.Rows
/-! ### tuple(d) of a dict: its keys -/
section
variable {prog : Program} {w : World} {A : Around} {E : Value → Shared → Prop} {s : Shared} {T : String} {r d : Addr} {n : Nat} {P : Nat → Value → Prop} {OK : Heap → Prop}
/-- what stands behind a walk over the source -/
structure Took (P : Nat → Value → Prop) (n : Nat) (s s' : Shared) (acc : Array Value) : Prop where
  ex : ∃ (h' : Heap) (tk : Nat), s' = { s with heap := h', toks := tk } ∧ ∀ b o, s.heap.get? b = some o → h'.get? b = some o
  it : ItemsOf P acc n
theorem took_src {Q : List Value → Shared → Prop} (src : PySem.W.KdlSrc prog w T r d n P OK) (hh : A.handled = none) (hok : OK s.heap) (hn : n ≤ sizeLine) (hQ : ∀ s' acc, Took P n s s' acc → Q acc.toList s') :
    wpAny (model prog w) A (collect (.ref r)) Q E s := by
  have lt := src.there _ hok
  let L : Addr := s.heap.objs.size
  let s0 : Shared := { s with heap := s.heap.push { cls := .type "list", data := .seq ([] : List Value).toArray } }
  have at0 : s0.heap.get? L = some { cls := .type "list", data := .seq #[] 0 } := Heap.get?_push_size _ rfl
  have ok0 : OK s0.heap := src.keep _ _ hok fun b _ o e => Heap.get?_push_of_some _ e
  let R : Result → Shared → Prop := fun rr s' => rr = .ok (.ret (.ref L)) ∧ ∃ acc c', s'.heap.get? L = some { cls := .type "list", dict := none, data := .seq acc c', slots := #[] } ∧ Took P n s s' acc
  have main := PySem.W.kdl_extend (A := A) (R := R) (s := s0) src hh ok0 L (Nat.ne_of_gt lt.1) (Nat.ne_of_gt lt.2) (.ref L) 0 at0
    (fun h' tk acc' c' hk hS hi => ⟨rfl, acc', c', hS, ⟨h', tk, rfl, fun b o q => hk b o (Nat.ne_of_lt (Heap.lt_size q)) (Heap.get?_push_of_some _ q)⟩, hi⟩) hn
  have back : ∀ rr s', R rr s' → ∃ acc, rr = .ok (.ret (.ref L)) ∧ wpAny (model prog w) A (load L) (fun o s2 => s2 = s' ∧ ∃ c', o = { cls := .type "list", dict := none, data := .seq acc c', slots := #[] }) E s' ∧ Took P n s s' acc := fun rr s' ⟨e, acc, c', hS, tk⟩ =>
    ⟨acc, e, wpAny_load hS ⟨rfl, c', rfl⟩, tk⟩
  unfold collect
  refine wpAny_bind (wpAny_runValue (codeAny_builtin F.entry_proto_collect ?_))
  rw [Around.under_plainId F.plain_proto_collect _]
  refine wpAny_bind (m := newList []) (wpAny_newObj_type ?_)
  refine wpAny_pure ⟨plainId_quiet F.plain_list_iadd _, codeAny_builtin F.entry_list_iadd ?_⟩
  rw [Around.under_plainId F.plain_list_iadd _]
  refine wpAny_mono main (fun fin s' h => ?_) fun e s' h => nomatch h.1
  cases fin with
  | done f =>
    obtain ⟨acc, e, ld, tk⟩ := back _ _ h
    cases e
    exact wpAny_bind (m := load L) (wpAny_mono ld (fun o s2 ⟨es, c', eo⟩ => by subst es eo; exact wpAny_pure (hQ _ _ tk)) fun _ _ z => z)
  | again c' =>
    refine ⟨h.1, codeAny_mono h.2 fun rr s2 h2 => ?_⟩
    obtain ⟨acc, e, ld, tk⟩ := back _ _ h2
    subst e
    exact wpAny_bind (m := load L) (wpAny_mono ld (fun o s2 ⟨es, c', eo⟩ => by subst es eo; exact wpAny_pure (hQ _ _ tk)) fun _ _ z => z)
theorem new_tup_src {Q₁ : Value → Shared → Prop} (src : PySem.W.KdlSrc prog w T r d n P OK) (hh : A.handled = none) (hok : OK s.heap) (hn : n ≤ sizeLine)
    (h : ∀ s' acc, Took P n s s' acc → Q₁ (.ref s'.heap.objs.size) { s' with heap := s'.heap.push { cls := .type "tuple", data := .seq acc } }) :
    codeAny (model prog w) A (.call (.builtin "tuple.__new__") ⟨[.type "tuple", .ref r], []⟩) (wants Q₁ E) s := by
  have e1 := F.newCall_tuple_1 (.ref r)
  have sT := sub_tuple_self
  have iT := init_tuple_lookup
  have mT := madeHere_tuple
  have ty := src.type s hok
  refine codeAny_of_tree (wpAny_bind (m := checkBuiltinCall "tuple.__new__" ⟨[.type "tuple", .ref r], []⟩) (wpAny_of_eq e1 (wpAny_pure ⟨plainId_quiet F.plain_tuple_new _, codeAny_builtin F.entry_tuple_new ?_⟩)))
  rw [Around.under_plainId F.plain_tuple_new _]
  have hh1 : A.in1.handled = none := hh
  wp_walk using wpAny_typeOf ty
  rw [if_neg (by rw [src.notTuple]; exact Bool.false_ne_true)]
  refine wpAny_bind (took_src (A := A.in1) src hh1 hok hn fun s' acc tk => ?_)
  show wpAny _ _ (Builtin.Tuple.tupleExact acc.toList.toArray >>= fun v => ret v) _ _ _
  rw [Array.toArray_toList]
  unfold Builtin.Tuple.tupleExact
  exact wpAny_bind (wpAny_newObj_type (wpAny_pure (h s' acc tk)) (by show acc.size ≤ sizeLine; rw [tk.it.1]; exact hn))
theorem tup_src {Q : Value → Shared → Prop} (src : PySem.W.KdlSrc prog w T r d n P OK) (hh : A.handled = none) (hok : OK s.heap) (hn : n ≤ sizeLine)
    (h : ∀ s' acc, Took P n s s' acc → Q (.ref s'.heap.objs.size) { s' with heap := s'.heap.push { cls := .type "tuple", data := .seq acc } }) : wpAny (model prog w) A (call (.type "tuple") [.ref r]) Q E s := by
  refine callType_codes (Q₁ := fun o s₁ => s₁.TypeIs o "tuple" ∧ Q o s₁) F.called_tuple (F.typeCall_tuple_1 _) F.entry_object_init
    (new_tup_src (A := A.in1) src hh hok hn fun s' acc tk => ⟨⟨_, Heap.get?_push_size _ rfl, rfl⟩, h s' acc tk⟩) fun o s₁ h₁ => ?_
  refine ⟨h₁.1, F.args_object_init_2 o _, object_init_meets F.called_tuple.init.lookup F.called_tuple.made (by decide) prog w A.in1 _ s₁ ?_⟩
  exact ⟨h₁.1, rfl, h₁.2⟩
/-- tuple(d) -/
theorem call_tupD {X : Cx} (hc : X.calm = true) : CallR X (.type "tuple") (fun xs H Q => ∃ (a : Addr) (kvs : List (Key × V)), xs = [.ref a] ∧ Rd H a (.dK kvs) ∧ ∀ p, H p = none → Q (.ref p) (upd H p (.tup (kvs.map fun kv => kV kv.1)))) := by
  intro pins s σ H xs us Q I r q
  obtain ⟨a, kvs, rfl, hd, q⟩ := q
  obtain ⟨u, rfl, rx⟩ := vals1 r
  cases rx
  obtain ⟨z, lo, vs, rel, dd⟩ := dk_rd I.hok hd
  obtain ⟨ep, at1⟩ := dd.dictAt
  have z' : vs.length ≤ sizeLine := by rw [← rel.length]; exact z
  refine tup_src (PySem.W.kdl_dict (knd := mixKind X.prog X.w) (kvs := vs) (ep := ep) lo) (I.ok.hd hc) at1 z' fun s' acc tk => ?_
  obtain ⟨⟨h', tk', rfl, hk⟩, it⟩ := tk
  have I1 : Inv X pins σ H { s with heap := h', toks := tk' } := I.kept hk
  have hv : Vals (vs.map fun p => kV p.1) acc.toList := keys_at (by rw [Array.length_toList]; exact it.1) fun j v e => it.2 j v (by rw [← Array.getElem?_toList]; exact e)
  have ek : (kvs.map fun kv => kV kv.1) = vs.map fun p => kV p.1 := by
    have e := congrArg (List.map kV) rel.keys
    rwa [List.map_map, List.map_map] at e
  have hv' : Vals (kvs.map fun kv => kV kv.1) acc.toList := by rw [ek]; exact hv
  have hz : (kvs.map fun kv => kV kv.1).length ≤ sizeLine := by rw [List.length_map]; exact z
  have tp : IsTup (h'.push { cls := .type "tuple", data := .seq acc }) h'.objs.size acc.toList.toArray := by rw [Array.toArray_toList]; exact IsTup.new _ _
  have ob : ObjOk X.prog X.w (upd H h'.objs.size (.tup (kvs.map fun kv => kV kv.1))) (h'.push { cls := .type "tuple", data := .seq acc }) h'.objs.size (.tup (kvs.map fun kv => kV kv.1)) := ⟨hz, acc.toList, hv', tp⟩
  exact ⟨.ref h'.objs.size, _, I1.laid (t' := tk') (fun b o e => Heap.get?_push_of_some _ e) (Nat.le_refl _) ob, rfl, q _ (I1.hok.fresh (Nat.le_refl _))⟩
end
end DL
namespace DL
variable [Wd]
open PySem L2
section
variable {X : Cx} {g : G} {W : WX} {pos : Pos} {a b c e o : Expr} {es : List Expr} {da db dc de : DE} {dA : DA} {x f : Str} {p apos cpos : Pos}
/-! ### built-ins by name -/
abbrev DC := List D → Mem → (D → Mem → Prop) → Prop
def liftC (g : G) (r : DC) : List V → Hp → VK → Prop := fun vs H k => ∃ F M ds Q, Sta g F M H ∧ Reps g.K F vs ds ∧ r ds M Q ∧ ∀ d' M' F' v H', Q d' M' → Same F F' → Sta g F' M' H' → Rep g.K F' v d' → k v H'
def CallD (X : Cx) (g : G) (f : Value) (r : DC) : Prop := CallR X f (liftC g r)
def dCB (r : DC) (dA : DA) : DE := fun ρ M Q E => dA ρ M (fun ds M1 => r ds M1 Q) E
theorem lift_cb {r : DC} {σ : L2.St} {H : Hp} {k : VK} (h : liftE g W (dCB r dA) σ H k) : tCB (liftC g r) (liftA g W dA) σ H k := by
  obtain ⟨ρ, M, F, Q, E, S, En, q, kQ, kE⟩ := h
  exact ⟨ρ, M, F, _, E, S, En, q, fun ds M1 F1 vs H1 q1 s1 S1 r1 => ⟨F1, M1, ds, Q, S1, r1, q1, fun d' M' F' v H' z s S' r => kQ d' M' F' v H' z (s1.t s) S' r⟩, kE⟩
theorem de_callB {r : DC} {id : String} (hc : CallD X g (.builtin id) r) (hg : Gl X x) (hm : X.mg x = none) (hv : bootBuiltins x = some (.builtin id)) (ha : PA X (e :: es) (liftA g W dA)) (hn : x ≠ "__name__" := by decide) (hdb : (x == ("__debug__" : Str)) = false := by decide)
    (he : starEach (e :: es) X.env = (false, eval e X.env) :: starEach es X.env := by rfl) (hpl : (backTo pos (starEach es X.env)).any (·.1) = false := by rfl) : PE X (.Call (.Name x p) (e :: es) [] pos) (liftE g W (dCB r dA)) :=
  PE.imp (pe_callB hc hg hm hv ha hn hdb he hpl) fun _ _ _ h => lift_cb h
theorem de_callTy {r : DC} {T : String} (hc : CallD X g (.type T) r) (hg : Gl X x) (hm : X.mg x = none) (hv : bootBuiltins x = some (.type T)) (ha : PA X (e :: es) (liftA g W dA)) (hn : x ≠ "__name__" := by decide) (hdb : (x == ("__debug__" : Str)) = false := by decide)
    (he : starEach (e :: es) X.env = (false, eval e X.env) :: starEach es X.env := by rfl) (hpl : (backTo pos (starEach es X.env)).any (·.1) = false := by rfl) : PE X (.Call (.Name x p) (e :: es) [] pos) (liftE g W (dCB r dA)) :=
  PE.imp (pe_callTy hc hg hm hv ha hn hdb he hpl) fun _ _ _ h => lift_cb h
inductive LenC (M : Mem) (Q : D → Mem → Prop) : List D → Prop
  | seq {d : D} {ds : List D} : IsS M d ds → Q (.int (ds.length : Nat)) M → LenC M Q [d]
  | str {z : Str} : z.length ≤ sizeLine → Q (.int (z.length : Nat)) M → LenC M Q [.str z]
  | dic {d : D} {es : List (Key × D)} : IsDic M d es → Q (.int (es.length : Nat)) M → LenC M Q [d]
  | dit {d : D} {es : List (D × D)} : IsDit M d es → Q (.int (es.length : Nat)) M → LenC M Q [d]
theorem cd_len (hw : X.w = Wd.w) (hK : g.K = X.K) : CallD X g (.builtin "len") (fun ds M Q => LenC M Q ds) := by
  intro pins s σ H vs us k I r h
  obtain ⟨F, M, ds, Q, S, r1, q, kQ⟩ := h
  cases q with
  | seq hs q =>
    cases r1 with
    | cons r1 rn =>
      cases rn
      obtain ⟨a, xs, rfl, ha, ra⟩ := hs.to S r1
      rw [hK] at ha
      have ev : ∀ d : D, d = .int (xs.length : Nat) → d = .int ((_ : List D).length : Nat) := fun d e => by rw [e, ra.length]
      refine call_len pins s σ H _ us k I r ⟨_, xs.length, rfl, ?_, ?_⟩
      · rcases ha with ha | ha
        · exact .inl ⟨xs, ha, rfl⟩
        · exact .inr ⟨xs, ha, rfl⟩
      · rw [ra.length]
        exact kQ _ M F _ H q (Same.r F) S (.int _)
  | str hz q =>
    cases r1 with
    | cons r1 rn =>
      cases rn
      cases r1
      exact call_len pins s σ H _ us k I r ⟨_, _, rfl, ⟨hz, rfl⟩, kQ _ M F _ H q (Same.r F) S (.int _)⟩
  | dic hm q =>
    cases r1 with
    | cons r1 rn =>
      cases rn
      obtain ⟨a, kvs, rfl, ha, l, rr⟩ := hm.to S r1
      obtain ⟨u, eu, rx⟩ := vals1 r
      subst eu
      cases rx
      refine d_len I ha fun t s' I' => ⟨.int (kvs.length : Nat), H, I', ⟨t, rfl⟩, ?_⟩
      have e := congrArg List.length l
      rw [List.length_map, List.length_map] at e
      rw [e]
      exact kQ _ M F _ H q (Same.r F) S (.int _)
  | dit hm q =>
    cases r1 with
    | cons r1 rn =>
      cases rn
      obtain ⟨a, xs, rfl, ha, en⟩ := hm.to S r1
      obtain ⟨u, eu, rx⟩ := vals1 r
      subst eu
      cases rx
      obtain ⟨dd, hz, hy⟩ := nk_dict hw I S ha en
      have hs : (sizeLine : Nat) = 16777216 := sizeLine_eq
      refine call_len_dictH hy dd (by omega) ⟨.int (xs.length : Nat), H, (I.tok _).tok _, ⟨_, rfl⟩, ?_⟩
      rw [en.length]
      exact kQ _ M F _ H q (Same.r F) S (.int _)
inductive ListC (M : Mem) (Q : D → Mem → Prop) : List D → Prop
  | seq {d : D} {ds : List D} : IsS M d ds → NewL ds M Q → ListC M Q [d]
  | dic {d : D} {es : List (Key × D)} : IsDic M d es → NewL (es.map fun kv => keyD kv.1) M Q → ListC M Q [d]
  | dit {d : D} {es : List (D × D)} : IsDit M d es → NewL (es.map (·.1)) M Q → ListC M Q [d]
theorem EntI.keys {K : PySem.W.Frag} {F : Hp} {xs : List (NestedKey × Addr × Value)} {es : List (D × D)} (h : EntI K F xs es) : Reps K F (xs.map fun x => V.ref x.2.1) (es.map (·.1)) := by
  induction h with
  | nil => exact .nil
  | cons _ a2 _ _ _ ih => exact .cons a2 ih
theorem vals_ref : ∀ bs : List Addr, Vals (bs.map V.ref) (bs.map Value.ref)
  | [] => .nil
  | _ :: r => .cons rfl (vals_ref r)
/-- list(d), its keys tuples -/
theorem call_listN (hw : X.w = Wd.w) (hc : X.calm = true) {pins : List (Addr × Obj)} {s : Shared} {σ : L2.St} {H : Hp} {a : Addr} {xs : List (NestedKey × Addr × Value)} {k : VK} (I : Inv X pins σ H s) (h : Rd H a (hoN a xs)) (q : ∀ p, H p = none → k (.ref p) (upd H p (.lst (xs.map fun x => V.ref x.2.1)))) :
    wpAny (model X.prog X.w) X.A (call (.type "list") [.ref a]) (EP X pins σ k) X.xe s := by
  obtain ⟨⟨z, y, nd, o, es', ep, h1, h2, h3, h4⟩, _⟩ : ObjOk X.prog X.w H s.heap a (hoN a xs) := by
    rcases h with h | ⟨ob, h⟩
    · exact I.hok a _ h
    · exact (show ObjOk X.prog X.w H s.heap a (.frz ob (hoN a xs)) from I.hok a _ h).2
  have hsz : es'.size = xs.length := by rw [← Array.length_toList, h4, List.length_map]
  refine PySem.W.kdl_call (kdl_raw y h2 h3) (I.ok.hd hc) h1 (by omega) fun h' tk acc c kp e it => ?_
  have ea : acc.toList = (xs.map fun x => x.2.1).map Value.ref := by
    refine List.ext_getElem? fun j => ?_
    rw [Array.getElem?_toList, List.getElem?_map, List.getElem?_map]
    cases hj : acc[j]? with
    | none =>
      have := it.1
      have h5 := Array.getElem?_eq_none_iff.mp hj
      rw [List.getElem?_eq_none (show xs.length ≤ j by omega)]
      rfl
    | some v =>
      obtain ⟨en, hen, hv⟩ := it.2 j v hj
      rw [← Array.getElem?_toList, h4, List.getElem?_map] at hen
      cases hx : xs[j]? with
      | none => rw [hx] at hen; cases hen
      | some x =>
        rw [hx] at hen
        cases hen
        rw [hv]
        rfl
  have rv : Vals (xs.map fun x => V.ref x.2.1) acc.toList := by
    rw [ea]
    have := vals_ref (xs.map fun x => x.2.1)
    rwa [List.map_map] at this
  refine ⟨.ref s.heap.objs.size, _, I.laid (t' := tk) (o := .lst (xs.map fun x => V.ref x.2.1)) kp (Nat.le_refl _) ?_, rfl, q _ (I.hok.fresh (Nat.le_refl _))⟩
  exact ⟨by rw [List.length_map]; exact z, acc.toList, c, rv, by rw [Array.toArray_toList]; exact e⟩
theorem keys_reps {K : PySem.W.Frag} {F : Hp} {kvs : List (Key × V)} {es : List (Key × D)} (l : kvs.map (·.1) = es.map (·.1)) : Reps K F (kvs.map fun kv => kV kv.1) (es.map fun kv => keyD kv.1) := by
  have g : ∀ ks : List Key, Reps K F (ks.map kV) (ks.map keyD) := fun ks => by
    induction ks with
    | nil => exact .nil
    | cons q ks ih => exact .cons (by cases q <;> first | exact .int _ | exact .str _) ih
  have h := g (kvs.map (·.1))
  rw [List.map_map] at h
  rw [l, List.map_map] at h
  exact h
theorem cd_list (hw : X.w = Wd.w) (hK : g.K = X.K) (hc : X.calm = true) : CallD X g (.type "list") (fun ds M Q => ListC M Q ds) := by
  intro pins s σ H vs us k I r h
  obtain ⟨F, M, ds, Q, S, r1, q, kQ⟩ := h
  cases q with
  | seq hs q =>
    cases r1 with
    | cons r1 rn =>
      cases rn
      obtain ⟨a, xs, rfl, ha, ra⟩ := hs.to S r1
      rw [hK] at ha
      exact call_list_of pins s σ H _ us k I r ⟨a, xs, rfl, ha, fun p hp => q.to S hp ra fun d' M' F' z s S' r => kQ d' M' F' _ _ z s S' r⟩
  | dic hs q =>
    cases r1 with
    | cons r1 rn =>
      cases rn
      obtain ⟨a, kvs, rfl, ha, l, rr⟩ := hs.to S r1
      exact call_listD hc pins s σ H _ us k I r ⟨a, kvs, rfl, ha, fun p hp => q.to S hp (keys_reps l) fun d' M' F' z s S' r => kQ d' M' F' _ _ z s S' r⟩
  | dit hs q =>
    cases r1 with
    | cons r1 rn =>
      cases rn
      obtain ⟨a, xs, rfl, ha, en⟩ := hs.to S r1
      obtain ⟨u, eu, rx⟩ := vals1 r
      subst eu
      cases rx
      exact call_listN hw hc I ha fun p hp => q.to S hp en.keys fun d' M' F' z s S' r => kQ d' M' F' _ _ z s S' r
inductive TupC (M : Mem) (Q : D → Mem → Prop) : List D → Prop
  | lst {d : D} {ds : List D} {st : Mem → Prop} : IsL M d ds st → Q (.tup ds) M → TupC M Q [d]
  | tup {ds : List D} : Q (.tup ds) M → TupC M Q [.tup ds]
  | dic {d : D} {es : List (Key × D)} : IsDic M d es → Q (.tup (es.map fun kv => keyD kv.1)) M → TupC M Q [d]
theorem cd_tuple (hK : g.K = X.K) (hc : X.calm = true) : CallD X g (.type "tuple") (fun ds M Q => TupC M Q ds) := by
  intro pins s σ H vs us k I r h
  obtain ⟨F, M, ds, Q, S, r1, q, kQ⟩ := h
  cases q with
  | lst hs q =>
    cases r1 with
    | cons r1 rn =>
      cases rn
      obtain ⟨a, xs, rfl, ha, ra, _⟩ := hs.sq S r1
      rw [hK] at ha
      refine call_tuple_of pins s σ H _ us k I r ⟨a, xs, rfl, .inl ⟨ha, fun p hp => ?_⟩⟩
      obtain ⟨s, S'⟩ := S.newF (o := .tup xs) hp
      exact kQ _ M _ _ _ q s S' (.tup upd_same (ra.mono s))
  | tup q =>
    cases r1 with
    | cons r1 rn =>
      cases rn
      cases r1 with
      | tup ht ra =>
        have k1 := S.sub.sqT (K := g.K) ht
        rw [hK] at k1
        exact call_tuple_of pins s σ H _ us k I r ⟨_, _, rfl, .inr ⟨k1, kQ _ M F _ H q (Same.r F) S (.tup ht ra)⟩⟩
  | dic hs q =>
    cases r1 with
    | cons r1 rn =>
      cases rn
      obtain ⟨a, kvs, rfl, ha, l, rr⟩ := hs.to S r1
      refine call_tupD hc pins s σ H _ us k I r ⟨a, kvs, rfl, ha, fun p hp => ?_⟩
      obtain ⟨s, S'⟩ := S.newF (o := .tup (kvs.map fun kv => kV kv.1)) hp
      exact kQ _ M _ _ _ q s S' (.tup upd_same ((keys_reps l).mono s))
inductive IntC (M : Mem) (Q : D → Mem → Prop) : List D → Prop
  | int {i : Int} : Q (.int i) M → IntC M Q [.int i]
  | bl {b : Bool} : Q (.int (if b then 1 else 0)) M → IntC M Q [.bl b]
theorem cd_int : CallD X g (.type "int") (fun ds M Q => IntC M Q ds) := by
  intro pins s σ H vs us k I r h
  obtain ⟨F, M, ds, Q, S, r1, q, kQ⟩ := h
  cases q with
  | int q =>
    cases r1 with
    | cons r1 rn =>
      cases rn; cases r1
      exact call_int1 pins s σ H _ us k I r (.inl ⟨_, rfl, kQ _ M F _ H q (Same.r F) S (.int _)⟩)
  | bl q =>
    cases r1 with
    | cons r1 rn =>
      cases rn; cases r1
      exact call_int1 pins s σ H _ us k I r (.inr ⟨_, rfl, kQ _ M F _ H q (Same.r F) S (.int _)⟩)
inductive MinC (M : Mem) (Q : D → Mem → Prop) : List D → Prop
  | two {i j : Int} : Q (.int (if j < i then j else i)) M → MinC M Q [.int i, .int j]
  | lst {d : D} {ns : List Int} {st : Mem → Prop} : IsL M d (ns.map .int) st → 0 < ns.length → (∀ m, m ∈ ns → (∀ y, y ∈ ns → m ≤ y) → Q (.int m) M) → MinC M Q [d]
theorem ints_rep {K : PySem.W.Frag} {F : Hp} : ∀ {vs : List V} {ns : List Int}, Reps K F vs (ns.map .int) → vs = ns.map V.int
  | _, [], .nil => rfl
  | _, _ :: _, .cons r t => by cases r; rw [ints_rep t]; rfl
theorem bls_rep {K : PySem.W.Frag} {F : Hp} : ∀ {vs : List V} {ns : List Bool}, Reps K F vs (ns.map .bl) → vs = ns.map V.bl
  | _, [], .nil => rfl
  | _, _ :: _, .cons r t => by cases r; rw [bls_rep t]; rfl
theorem strs_rep {K : PySem.W.Frag} {F : Hp} : ∀ {vs : List V} {ns : List Str}, Reps K F vs (ns.map .str) → vs = ns.map V.str
  | _, [], .nil => rfl
  | _, _ :: _, .cons r t => by cases r; rw [strs_rep t]; rfl
theorem cd_min (hK : g.K = X.K) (hc : X.calm = true) : CallD X g (.builtin "min") (fun ds M Q => MinC M Q ds) := by
  intro pins s σ H vs us k I r h
  obtain ⟨F, M, ds, Q, S, r1, q, kQ⟩ := h
  cases q with
  | two q =>
    cases r1 with
    | cons r1 rn =>
      cases rn with
      | cons r2 rn =>
        cases rn; cases r1; cases r2
        exact call_min2 hc pins s σ H _ us k I r ⟨_, _, rfl, kQ _ M F _ H q (Same.r F) S (.int _)⟩
  | lst hs hn q =>
    cases r1 with
    | cons r1 rn =>
      cases rn
      obtain ⟨a, xs, rfl, ha, ra, _⟩ := hs.sq S r1
      rw [hK] at ha
      rw [ints_rep ra] at ha
      exact cr_min hc pins s σ H _ us k I r ⟨a, _, rfl, ha, hn, fun m h1 h2 => kQ _ M F _ H (q m h1 h2) (Same.r F) S (.int _)⟩
inductive SumC (M : Mem) (Q : D → Mem → Prop) : List D → Prop
  | lst {d : D} {ns : List Int} {st : Mem → Prop} : IsL M d (ns.map .int) st → Q (.int ns.sum) M → SumC M Q [d]
theorem cd_sum (hK : g.K = X.K) (hc : X.calm = true) : CallD X g (.builtin "sum") (fun ds M Q => SumC M Q ds) := by
  intro pins s σ H vs us k I r h
  obtain ⟨F, M, ds, Q, S, r1, q, kQ⟩ := h
  cases q with
  | lst hs q =>
    cases r1 with
    | cons r1 rn =>
      cases rn
      obtain ⟨a, xs, rfl, ha, ra, _⟩ := hs.sq S r1
      rw [hK] at ha
      rw [ints_rep ra] at ha
      exact cr_sum hc pins s σ H _ us k I r ⟨a, _, rfl, ha, kQ _ M F _ H q (Same.r F) S (.int _)⟩
inductive AnyC (all : Bool) (M : Mem) (Q : D → Mem → Prop) : List D → Prop
  | lst {d : D} {bs : List Bool} {st : Mem → Prop} : IsL M d (bs.map .bl) st → Q (.bl (if all then bs.all id else bs.any id)) M → AnyC all M Q [d]
theorem cd_any (hK : g.K = X.K) (hc : X.calm = true) : CallD X g (.builtin "any") (fun ds M Q => AnyC false M Q ds) := by
  intro pins s σ H vs us k I r h
  obtain ⟨F, M, ds, Q, S, r1, q, kQ⟩ := h
  cases q with
  | lst hs q =>
    cases r1 with
    | cons r1 rn =>
      cases rn
      obtain ⟨a, xs, rfl, ha, ra, _⟩ := hs.sq S r1
      rw [hK] at ha
      rw [bls_rep ra] at ha
      exact cr_any hc pins s σ H _ us k I r ⟨a, _, rfl, ha, kQ _ M F _ H q (Same.r F) S (.bl _)⟩
theorem cd_all (hK : g.K = X.K) (hc : X.calm = true) : CallD X g (.builtin "all") (fun ds M Q => AnyC true M Q ds) := by
  intro pins s σ H vs us k I r h
  obtain ⟨F, M, ds, Q, S, r1, q, kQ⟩ := h
  cases q with
  | lst hs q =>
    cases r1 with
    | cons r1 rn =>
      cases rn
      obtain ⟨a, xs, rfl, ha, ra, _⟩ := hs.sq S r1
      rw [hK] at ha
      rw [bls_rep ra] at ha
      exact cr_all hc pins s σ H _ us k I r ⟨a, _, rfl, ha, kQ _ M F _ H q (Same.r F) S (.bl _)⟩

/-! ### methods of built-in types -/
abbrev DM := D → List D → Mem → (D → Mem → Prop) → Prop
def liftM (g : G) (r : DM) : V → List V → Hp → VK → Prop := fun x vs H k => ∃ F M d ds Q, Sta g F M H ∧ Rep g.K F x d ∧ Reps g.K F vs ds ∧ r d ds M Q ∧ ∀ d' M' F' v H', Q d' M' → Same F F' → Sta g F' M' H' → Rep g.K F' v d' → k v H'
def MtD (X : Cx) (g : G) (id : String) (r : DM) : Prop := MtR X id (liftM g r)
inductive TyD : String → Mem → D → Prop
  | lst {M : Mem} {d : D} {ds : List D} {st : Mem → Prop} : IsL M d ds st → TyD "list" M d
  | str {M : Mem} {z : Str} : TyD "str" M (.str z)
  | dic {M : Mem} {q : Addr} {es : List (Key × D)} : (q, .dic es) ∈ M → TyD "dict" M (.ptr q)
theorem TyD.to {T : String} {F : Hp} {M : Mem} {H : Hp} {v : V} {d : D} (t : TyD T M d) (S : Sta g F M H) (r : Rep g.K F v d) : tyV g.K T v H := by
  cases t with
  | lst hs =>
    obtain ⟨a, xs, rfl, ha, _, _⟩ := hs.sq S r
    exact .inl ⟨rfl, xs, ha⟩
  | str => cases r; exact rfl
  | dic hm =>
    cases r
    obtain ⟨_, o, ho, kvs, rfl, l, rr⟩ := S.mem _ _ hm
    exact .inr (.inr (.inl ⟨rfl, .inl ⟨kvs, ho⟩⟩))
def dBM (T : String) (r : DM) (do_ : DE) (dA : DA) : DE := fun ρ M Q E => do_ ρ M (fun d M1 => TyD T M1 d ∧ dA ρ M1 (fun ds M2 => r d ds M2 Q) E) E
def dBM0 (T : String) (r : DM) (do_ : DE) : DE := fun ρ M Q E => do_ ρ M (fun d M1 => TyD T M1 d ∧ r d [] M1 Q) E
theorem de_bm {T id : String} {name : Str} {r : DM} {do_ : DE} (pa : PlainAttrs T) (slot : Slot T name id) (hty : typeOf (.builtin id) = pure (.type "method_descriptor")) (hK : g.K = X.K) (hm : MtD X g id r) (ho : PE X o (liftE g W do_)) (ha : PA X (e :: es) (liftA g W dA))
    (hbase : attributeBase o name X.env (eval o X.env) = eval o X.env := by rfl)
    (hfew : ((backTo cpos (starEach (e :: es) X.env)).all (fun x => !x.1) && (backToKw cpos (keywordEach [] X.env)).all (fun x => x.1.isSome)
      && decide ((e :: es).length + ([] : List Keyword).length + (if ([] : List Keyword).isEmpty then 0 else 1) < 30)) = true := by rfl)
    (hline : (apos.endLine == cpos.line) = true := by rfl) (hs : starEach (e :: es) X.env = (false, eval e X.env) :: starEach es X.env := by rfl) (hplain : (backTo cpos (starEach es X.env)).any (·.1) = false := by rfl) :
    PE X (.Call (.Attribute o name apos) (e :: es) [] cpos) (liftE g W (dBM T r do_ dA)) :=
  PE.imp (pe_bm pa slot hty hm ho ha hbase hfew hline hs hplain) fun σ H k ⟨ρ, M, F, Q, E, S, En, q, kQ, kE⟩ =>
    ⟨ρ, M, F, _, E, S, En, q, fun d M1 F1 v H1 ⟨t, q1⟩ s1 S1 r1 => ⟨by rw [← hK]; exact t.to S1 r1, ρ, M1, F1, _, E, S1, En.mono s1, q1, fun ds M2 F2 vs H2 q2 s2 S2 r2 =>
      ⟨F2, M2, d, ds, Q, S2, r1.mono s2, r2, q2, fun d' M' F' w H' z s S' r => kQ d' M' F' w H' z ((s1.t s2).t s) S' r⟩, fun C dd M' F' H' z s S' => kE C dd M' F' H' z (s1.t s) S'⟩, kE⟩
theorem de_bm0 {T id : String} {name : Str} {r : DM} {do_ : DE} (pa : PlainAttrs T) (slot : Slot T name id) (hty : typeOf (.builtin id) = pure (.type "method_descriptor")) (hK : g.K = X.K) (hm : MtD X g id r) (ho : PE X o (liftE g W do_))
    (hbase : attributeBase o name X.env (eval o X.env) = eval o X.env := by rfl) (hline : (apos.endLine == cpos.line) = true := by rfl) : PE X (.Call (.Attribute o name apos) [] [] cpos) (liftE g W (dBM0 T r do_)) :=
  PE.imp (pe_bm0 pa slot hty hm ho hbase hline) fun σ H k ⟨ρ, M, F, Q, E, S, En, q, kQ, kE⟩ =>
    ⟨ρ, M, F, _, E, S, En, q, fun d M1 F1 v H1 ⟨t, q1⟩ s1 S1 r1 => ⟨by rw [← hK]; exact t.to S1 r1, F1, M1, d, [], Q, S1, r1, .nil, q1, fun d' M' F' w H' z s S' r => kQ d' M' F' w H' z (s1.t s) S' r⟩, kE⟩
inductive AppM (M : Mem) (Q : D → Mem → Prop) : D → List D → Prop
  | ptr {q : Addr} {ds : List D} {d : D} {M' : Mem} : Upd q (.lst ds) (.lst (ds ++ [d])) M M' → ds.length < sizeLine → Q .non M' → AppM M Q (.ptr q) [d]
theorem md_append : MtD X g "list.append" (fun d ds M Q => AppM M Q d ds) := by
  intro pins s σ H x vs v us k I rx rv h
  obtain ⟨F, M, d, ds, Q, S, r1, r2, q, kQ⟩ := h
  cases q with
  | ptr u hz q =>
    cases r1
    cases r2 with
    | cons r2 rn =>
      cases rn
      obtain ⟨_, o, ho, xs, rfl, rr⟩ := S.mem _ _ u.old
      exact mt_append pins s σ H _ _ v us k I rx rv ⟨_, xs, _, rfl, rfl, ho, by rw [rr.length]; exact hz, kQ _ _ F _ _ q (Same.r F) (S.upd u ⟨_, rfl, rr.append (.cons r2 .nil)⟩) .non⟩
inductive InsM (M : Mem) (Q : D → Mem → Prop) : D → List D → Prop
  | ptr {q : Addr} {ds : List D} {d : D} {i : Int} {M' : Mem} : Upd q (.lst ds) (.lst (ds.take i.toNat ++ [d] ++ ds.drop i.toNat)) M M' → ds.length < sizeLine → 0 ≤ i → i < 2 ^ 63 → Q .non M' → InsM M Q (.ptr q) [.int i, d]
theorem md_insert : MtD X g "list.insert" (fun d ds M Q => InsM M Q d ds) := by
  intro pins s σ H x vs v us k I rx rv h
  obtain ⟨F, M, d, ds, Q, S, r1, r2, q, kQ⟩ := h
  cases q with
  | ptr u hz h0 h1 q =>
    cases r1
    cases r2 with
    | cons r2 rn =>
      cases rn with
      | cons r3 rn =>
        cases rn
        cases r2
        obtain ⟨_, o, ho, xs, rfl, rr⟩ := S.mem _ _ u.old
        exact mt_insert pins s σ H _ _ v us k I rx rv ⟨_, xs, _, _, rfl, rfl, ho, by rw [rr.length]; exact hz, h0, h1, kQ _ _ F _ _ q (Same.r F) (S.upd u ⟨_, rfl, ((rr.take _).append (.cons r3 .nil)).append (rr.drop _)⟩) .non⟩
end
end DL
namespace DL
variable [Wd]
open PySem L2
section
variable {X : Cx} {g : G} {W : WX} {pos : Pos} {a b c e o : Expr} {es : List Expr} {da db dc de : DE} {dA : DA} {x f m : Str} {p apos cpos : Pos}
/-! ### instances -/
inductive Has : List (Str × D) → Str → D → Prop
  | head {f : Str} {d : D} {r : List (Str × D)} : Has ((f, d) :: r) f d
  | tail {f f' : Str} {d e : D} {r : List (Str × D)} : f' ≠ f → Has r f d → Has ((f', e) :: r) f d
inductive Put : List (Str × D) → Str → D → List (Str × D) → Prop
  | nil {f : Str} {d : D} : Put [] f d [(f, d)]
  | head {f : Str} {d e : D} {r : List (Str × D)} : Put ((f, e) :: r) f d ((f, d) :: r)
  | tail {f f' : Str} {d e : D} {r r' : List (Str × D)} : f' ≠ f → Put r f d r' → Put ((f', e) :: r) f d ((f', e) :: r')
inductive NoF (m : Str) : List (Str × D) → Prop
  | nil : NoF m []
  | cons {f : Str} {d : D} {r : List (Str × D)} : f ≠ m → NoF m r → NoF m ((f, d) :: r)
theorem lookup_hd {f : Str} {v : V} {r : List (Str × V)} : ((f, v) :: r).lookup f = some v := by simp [List.lookup]
theorem lookup_tl {f f' : Str} {v : V} {r : List (Str × V)} (h : f' ≠ f) : ((f', v) :: r).lookup f = r.lookup f := by
  have e : (f == f') = false := by simpa using fun z => h z.symm
  simp [List.lookup, e]
theorem Has.rep {K : PySem.W.Frag} {F : Hp} {es : List (Str × D)} {f : Str} {d : D} (h : Has es f d) : ∀ {kvs : List (Str × V)}, kvs.map (·.1) = es.map (·.1) → Reps K F (kvs.map (·.2)) (es.map (·.2)) → ∃ v, kvs.lookup f = some v ∧ Rep K F v d := by
  induction h with
  | head =>
    intro kvs hk r
    cases kvs with
    | nil => cases hk
    | cons q kvs =>
      obtain ⟨k, v⟩ := q
      have e := (List.cons.inj hk).1
      simp only at e
      subst e
      cases r with
      | cons r _ => exact ⟨v, lookup_hd, r⟩
  | tail ne _ ih =>
    intro kvs hk r
    cases kvs with
    | nil => cases hk
    | cons q kvs =>
      obtain ⟨k, v⟩ := q
      have e := (List.cons.inj hk).1
      simp only at e
      subst e
      cases r with
      | cons _ r =>
        obtain ⟨u, h1, h2⟩ := ih (List.cons.inj hk).2 r
        exact ⟨u, by rw [lookup_tl ne]; exact h1, h2⟩
theorem NoF.rep {es : List (Str × D)} {m : Str} (h : NoF m es) : ∀ {kvs : List (Str × V)}, kvs.map (·.1) = es.map (·.1) → kvs.lookup m = none := by
  induction h with
  | nil =>
    intro kvs hk
    cases kvs with
    | nil => rfl
    | cons _ _ => cases hk
  | cons ne _ ih =>
    intro kvs hk
    cases kvs with
    | nil => cases hk
    | cons q kvs =>
      obtain ⟨k, v⟩ := q
      have e := (List.cons.inj hk).1
      simp only at e
      subst e
      rw [lookup_tl ne]
      exact ih (List.cons.inj hk).2
theorem putF_hd {f : Str} {v w : V} {r : List (Str × V)} : putF f v ((f, w) :: r) = (f, v) :: r := by
  show (if f = f then _ else _) = _
  rw [if_pos rfl]
theorem putF_tl {f f' : Str} {v w : V} {r : List (Str × V)} (h : f' ≠ f) : putF f v ((f', w) :: r) = (f', w) :: putF f v r := by
  show (if f' = f then _ else _) = _
  rw [if_neg h]
theorem Put.rep {K : PySem.W.Frag} {F : Hp} {es es' : List (Str × D)} {f : Str} {d : D} (h : Put es f d es') {v : V} (rv : Rep K F v d) : ∀ {kvs : List (Str × V)}, kvs.map (·.1) = es.map (·.1) → Reps K F (kvs.map (·.2)) (es.map (·.2)) →
    (putF f v kvs).map (·.1) = es'.map (·.1) ∧ Reps K F ((putF f v kvs).map (·.2)) (es'.map (·.2)) := by
  induction h with
  | nil =>
    intro kvs hk r
    cases kvs with
    | nil => exact ⟨rfl, .cons rv .nil⟩
    | cons _ _ => cases hk
  | head =>
    intro kvs hk r
    cases kvs with
    | nil => cases hk
    | cons q kvs =>
      obtain ⟨k, w⟩ := q
      have e := (List.cons.inj hk).1
      simp only at e
      subst e
      rw [putF_hd]
      cases r with
      | cons _ r => exact ⟨congrArg _ (List.cons.inj hk).2, .cons rv r⟩
  | tail ne _ ih =>
    intro kvs hk r
    cases kvs with
    | nil => cases hk
    | cons q kvs =>
      obtain ⟨k, w⟩ := q
      have e := (List.cons.inj hk).1
      simp only at e
      subst e
      rw [putF_tl ne]
      cases r with
      | cons r1 r =>
        obtain ⟨i1, i2⟩ := ih rv (List.cons.inj hk).2 r
        exact ⟨congrArg _ i1, .cons r1 i2⟩
inductive IsO (M : Mem) : D → Addr → List (Str × D) → Prop
  | obj (C : Addr) (es : List (Str × D)) : IsO M (.obj C es) C es
  | ptr {q C : Addr} {es : List (Str × D)} : (q, .obj C es) ∈ M → IsO M (.ptr q) C es
theorem IsO.to {F : Hp} {M : Mem} {H : Hp} {v : V} {d : D} {C : Addr} {es : List (Str × D)} (h : IsO M d C es) (S : Sta g F M H) (r : Rep g.K F v d) :
    ∃ a dx kvs, v = .ref a ∧ H a = some (.ins C dx kvs) ∧ kvs.map (·.1) = es.map (·.1) ∧ Reps g.K F (kvs.map (·.2)) (es.map (·.2)) := by
  cases h with
  | obj => cases r with | obj e l r => exact ⟨_, _, _, rfl, S.sub.ins e, l, r⟩
  | ptr h =>
    cases r
    obtain ⟨_, o, ho, dx, kvs, rfl, l, r⟩ := S.mem _ _ h
    exact ⟨_, dx, kvs, rfl, ho, l, r⟩
/-- f is a plain attribute of the instances of the class at C -/
structure FldOk (K : PySem.W.Frag) (C : Addr) (f : Str) : Prop where
  cl : Cls K C
  no : NoAttr K C f
def dFld (K : PySem.W.Frag) (de : DE) (f : Str) : DE := fun ρ M Q E => de ρ M (fun d M' => ∃ C es d', IsO M' d C es ∧ FldOk K C f ∧ Has es f d' ∧ Q d' M') E
theorem de_fld (hK : g.K = X.K) (he : PE X e (liftE g W de)) (hb : attributeBase e f X.env (eval e X.env) = eval e X.env := by rfl) : PE X (.Attribute e f pos) (liftE g W (dFld X.K de f)) :=
  PE.imp (pe_fld he hb) fun σ H k ⟨ρ, M, F, Q, E, S, En, q, kQ, kE⟩ => ⟨ρ, M, F, _, E, S, En, q, fun d M' F' v H' ⟨C, es, d', ho, fo, hs, z⟩ s S' r => by
    obtain ⟨a, dx, kvs, rfl, ha, l, rr⟩ := ho.to S' r
    obtain ⟨u, h1, h2⟩ := hs.rep l rr
    exact ⟨a, C, dx, kvs, u, rfl, ha, fo.cl, fo.no, h1, kQ _ M' F' _ H' z s S' h2⟩, kE⟩
/-- o.f = e -/
def sFldD (K : PySem.W.Frag) (do_ de : DE) (f : Str) : DS := fun nx _ _ _ ex ρ M => de ρ M (fun d M1 => do_ ρ M1 (fun x M2 => ∃ q C es es' M3, x = .ptr q ∧ FldOk K C f ∧ es.length < 1000 ∧ Put es f d es' ∧ Upd q (.obj C es) (.obj C es') M2 M3 ∧ nx ρ M3) (fun C dd M' => ex C dd ρ M')) (fun C dd M' => ex C dd ρ M')
theorem ds_fld {value : Expr} {pos' : Pos} {do_ : DE} (hK : g.K = X.K) (ho : PE X o (liftE g W do_)) (hv : PE X value (liftE g W de)) (hs : swapsWith value (some (.Attribute o f pos')) pos.line X.env = pure false := by rfl) :
    PS X (.Assign [.Attribute o f pos'] value pos) (liftS g W (sFldD X.K do_ de f)) :=
  PS.imp (ps_fld ho hv hs) fun D σ H ⟨ρ, M, F, nx, rt, bk, ct, ex, S, En, q, k1, k2, k3, k4, k5⟩ =>
    ⟨ρ, M, F, _, _, S, En, q, fun d M1 F1 v H1 q1 s1 S1 r1 => ⟨ρ, M1, F1, _, _, S1, En.mono s1, q1, fun y M2 F2 u H2 ⟨qa, C, fs, fs', M3, ey, fo, hl, hp, hu, z⟩ s2 S2 r2 => by
      subst ey
      cases r2
      obtain ⟨_, o, ho, dx, kvs, rfl, l, rr⟩ := S2.mem _ _ hu.old
      obtain ⟨i1, i2⟩ := hp.rep (r1.mono s2) l rr
      have el : kvs.length = fs.length := by
        have := congrArg List.length l
        rwa [List.length_map, List.length_map] at this
      exact ⟨qa, C, dx, kvs, rfl, ho, fo.cl, fo.no, by rw [el]; exact hl, k1 ρ M3 F2 σ _ z (s1.t s2) (S2.upd hu ⟨dx, _, rfl, i1, i2⟩) (En.mono (s1.t s2))⟩,
      fun C dd M' F' H' z s S' => k5 C dd ρ M' F' σ H' z (s1.t s) S' (En.mono (s1.t s))⟩, fun C dd M' F' H' z s S' => k5 C dd ρ M' F' σ H' z s S' (En.mono s)⟩

/-! ### defs -/
def spOf (K : PySem.W.Frag) (sd : SpD) : Sp := fun vs H Q E => ∃ U M F ds Qd Ed, Sta ⟨K, U⟩ F M H ∧ Reps K F vs ds ∧ sd ds M Qd Ed ∧
  (∀ d M' F' v H', Qd d M' → Same F F' → Sta ⟨K, U⟩ F' M' H' → Rep K F' v d → Q v H') ∧ (∀ C dd M' F' H', Ed C dd M' → Same F F' → Sta ⟨K, U⟩ F' M' H' → E (.ref C) (some dd) H')
abbrev FnD (P : Program) (w : World) (K : PySem.W.Frag) (mg : Str → Option Value) (base : Heap) (k : Nat) (f : Addr) (sd : SpD) : Prop := FnR P w K mg base (L2.CX P w) k f (spOf K sd)
/-- the slots at the entry -/
def start0 (N : List Str) (ds : List D) : Rho := ds.map some ++ List.replicate (N.length - ds.length) none
theorem at_app : ∀ (ds : List D) (n i : Nat) (d : D), at_ (ds.map some ++ List.replicate n none) i = some d → ds[i]? = some d
  | [], n, i, d, h => by
    exfalso
    induction n generalizing i with
    | zero => cases h
    | succ n ih =>
      cases i with
      | zero => cases h
      | succ i => exact ih i h
  | e :: ds, n, 0, d, h => by cases h; rfl
  | e :: ds, n, i + 1, d, h => by simpa using at_app ds n i d h
theorem env_start {K : PySem.W.Frag} {F : Hp} {N : List Str} {vs : List V} {ds : List D} (r : Reps K F vs ds) : Enr K F (L2.start N vs) (start0 N ds) := by
  have hl := r.length
  refine ⟨by unfold L2.start start0; simp [hl], fun i d h => ?_⟩
  have h' := at_app _ _ _ _ h
  obtain ⟨v, h1, h2⟩ := r.get h'
  refine ⟨v, ?_, h2⟩
  unfold L2.start
  have hi : i < vs.length := (List.getElem?_eq_some_iff.mp h1).1
  rw [List.getElem?_append_left (by simpa using hi), List.getElem?_map, h1]
  rfl
section
variable {P : Program} {w : World} {K : PySem.W.Frag} {mg : Str → Option Value} {base : Heap}
theorem fnOk_of {x qual : Str} {st : Stmt} {f : Addr} {fd : FuncData} {N ps : List Str} {k : Nat} {sd : SpD} (Fu : Fun K x qual st f fd) (S : FnScope N ps (defScope st))
    (len : ∀ ds M Q E, sd ds M Q E → ds.length = ps.length)
    (hbody : ∀ (cdv : Value) (A : Around) (outer : List PySem.Env) (s : Shared) (H : Hp) (U : Hp) (E : XK) (ds : List D) (M : Mem) (Qd : D → Mem → Prop) (Ed : XD), Room k (A.deeper (PyProof.Rows.envOfC qual (defScope st) s.heap.objs.size f cdv)) → sd ds M Qd Ed →
      ∃ body : DS, PSs (cxOf (L2.CX P w) P w K mg base N qual (defScope st) f cdv A outer s H E) (defBody st) (liftS ⟨K, U⟩ (fun cls d _ H => E cls d H) body) ∧
        body (fun _ M' => Qd .non M') Qd (fun _ _ => False) (fun _ _ => False) (fun C dd _ M' => Ed C dd M') (start0 N ds) M) : FnOk P w K mg base (L2.CX P w) (k + 1) f fd ps (spOf K sd) := by
  refine Fu.okX S (fun vs H Q E h => ?_) (fun cdv A outer s H vs Q E hr h => ?_)
  · obtain ⟨U, M, F, ds, Qd, Ed, _, r, h, _⟩ := h
    rw [r.length]
    exact len _ _ _ _ h
  · obtain ⟨U, M, F, ds, Qd, Ed, St_, r, h, kQ, kE⟩ := h
    obtain ⟨body, hp, hq⟩ := hbody cdv A outer s H U E ds M Qd Ed hr h
    refine ⟨_, hp, start0 N ds, M, F, _, _, _, _, _, St_, env_start r, hq, ?_, ?_, ?_, ?_, ?_⟩
    · exact fun ρ' M' F' σ' H' z s S' En => kQ _ M' F' .non H' z s S' .non
    · exact kQ
    · exact fun ρ' M' F' σ' H' z s S' En => z.elim
    · exact fun ρ' M' F' σ' H' z s S' En => z.elim
    · exact fun C dd ρ' M' F' σ' H' z s S' En => kE C dd M' F' H' z s S'
theorem FnOk.fnD {k : Nat} {f : Addr} {fd : FuncData} {ps : List Str} {sd : SpD} (ok : FnOk P w K mg base (L2.CX P w) k f fd ps (spOf K sd)) (bi : Binds K fd ps []) : FnD P w K mg base k f sd :=
  FnR.imp (ok.raw (ds := []) (dvs := []) bi .nil) fun vs H Q E h => by
    rw [List.append_nil]
    exact h
theorem FnR.up {j k : Nat} {f : Addr} {sp : Sp} {CXg : CXT} (F : FnR P w K mg base CXg j f sp) (h : j ≤ k := by decide) : FnR P w K mg base CXg k f sp := FnR.mono F h
end
/-! ### calls -/
theorem run_fnD {k : Nat} {fa : Addr} {sp : Sp} {Ex : XK} {Q : VK} {us : List Value} {vs : List V} {pins : List (Addr × Obj)} {σ : L2.St} {H : Hp} {s : Shared} (F : FnR X.prog X.w X.K X.mg X.base (L2.CX X.prog X.w) k fa sp) (hr : Room k X.A) (tk : Takes X W)
    (hW : ∀ cls d H', Ex cls d H' → W cls d σ H') (I : Inv X pins σ H s) (r : Vals vs us) (h : sp vs H Q Ex) : wpAny (model X.prog X.w) X.A (call (.ref fa) us) (EP X pins σ Q) X.xe s := by
  refine wpAny_call (codeAny_mono (F X.A X.stack s H us vs Q Ex hr I.env0 r h) fun r s' hq => ?_)
  cases r with
  | error e => exact tk e s' (XE.of_call I hW hq)
  | ok fl =>
    cases fl with
    | ret u => exact I.after hq
    | next => exact False.elim hq
    | brk => exact False.elim hq
    | cont => exact False.elim hq
def dCall (sd : SpD) (dA : DA) : DE := fun ρ M Q E => dA ρ M (fun ds M1 => sd ds M1 Q E) E
theorem de_call {k : Nat} {fa : Addr} {sd : SpD} (F : FnD X.prog X.w X.K X.mg X.base k fa sd) (hr : Room k X.A) (hg : Gl X x) (hm : X.mg x = some (.ref fa)) (hk : PySem.W.keepIn X.K (.ref fa) = true) (hK : g.K = X.K) (tk : Takes X W) (ha : PA X (e :: es) (liftA g W dA))
    (hdb : (x == ("__debug__" : Str)) = false := by decide) (he : starEach (e :: es) X.env = (false, eval e X.env) :: starEach es X.env := by rfl) (hpl : (backTo pos (starEach es X.env)).any (·.1) = false := by rfl) :
    PE X (.Call (.Name x p) (e :: es) [] pos) (liftE g W (dCall sd dA)) := by
  refine ⟨fun pins s σ H k I ⟨ρ, M, F1, Q, E, S, En, q, kQ, kE⟩ => ?_⟩
  obtain ⟨K0, U⟩ := g
  simp only at hK
  subst hK
  refine wpAny_Call_Name_kw (ld_glob I hg hm ?_ hdb)
  refine PySem.W.callWith_K (h₀ := X.base) I.ok.mod.kin hk (thn (ha.run pos pins s σ H (fun vs H1 => ∃ M1 F2 ds, Same F1 F2 ∧ Sta ⟨X.K, U⟩ F2 M1 H1 ∧ Reps X.K F2 vs ds ∧ sd ds M1 Q E) I
    ⟨ρ, M, F1, _, E, S, En, q, fun ds M1 F2 vs H1 z s S' r => ⟨M1, F2, ds, s, S', r, z⟩, kE⟩) fun us s1 ⟨vs, H1, I1, r, M1, F2, ds, s12, S1, r1, q1⟩ => ⟨I1.kIn, ?_⟩) he hpl
  exact run_fnD (Ex := fun cls d H' => W cls d σ H') F hr tk (fun _ _ _ h => h) I1 r ⟨U, M1, F2, ds, Q, E, S1, r1, q1, fun d M' F' v H' z s S' r => kQ d M' F' v H' z (s12.t s) S' r, fun C dd M' F' H' z s S' => kE C dd M' F' H' z (s12.t s) S'⟩
theorem de_call0 {k : Nat} {fa : Addr} {sd : SpD} (F : FnD X.prog X.w X.K X.mg X.base k fa sd) (hr : Room k X.A) (hg : Gl X x) (hm : X.mg x = some (.ref fa)) (hk : PySem.W.keepIn X.K (.ref fa) = true) (hK : g.K = X.K) (tk : Takes X W)
    (hdb : (x == ("__debug__" : Str)) = false := by decide) : PE X (.Call (.Name x p) [] [] pos) (liftE g W (dCall sd dNil)) := by
  refine ⟨fun pins s σ H k I ⟨ρ, M, F1, Q, E, S, En, q, kQ, kE⟩ => ?_⟩
  obtain ⟨K0, U⟩ := g
  simp only at hK
  subst hK
  refine wpAny_Call_Name_kw (ld_glob I hg hm ?_ hdb)
  exact PySem.W.callWith_K0 I.kIn hk (run_fnD (us := []) (Ex := fun cls d H' => W cls d σ H') F hr tk (fun _ _ _ h => h) I .nil ⟨U, M, F1, [], Q, E, S, .nil, q, kQ, kE⟩)
/-- o.m(..), o an instance of the class at C -/
def dMeth (C : Addr) (m : Str) (sd : SpD) (do_ : DE) (dA : DA) : DE := fun ρ M Q E => do_ ρ M (fun d M1 => ∃ es, IsO M1 d C es ∧ NoF m es ∧ dA ρ M1 (fun ds M2 => sd (d :: ds) M2 Q E) E) E
theorem de_meth {k : Nat} {C fa : Addr} {sd : SpD} {do_ : DE} {pl : Sem Bool} (c : Cls X.K C) (hm : Meth X.K C m fa) (F : FnD X.prog X.w X.K X.mg X.base k fa sd) (hr : Room k X.A) (hK : g.K = X.K) (tk : Takes X W) (ho : PE X o (liftE g W do_)) (ha : PA X (e :: es) (liftA g W dA))
    (hst : starEach (e :: es) X.env = (false, eval e X.env) :: starEach es X.env := by rfl) (hpl : (backTo pos (starEach es X.env)).any (·.1) = false := by rfl)
    (ht : eval (.Call (.Attribute o m apos) (e :: es) [] pos) X.env = (do
      let ov ← eval o X.env
      standAt apos.atName
      let (f, first) ← holding [ov] (getMethod ov m pl)
      callWith pos f first (backTo pos (starEach (e :: es) X.env)) (backToKw pos (keywordEach [] X.env))) := by rfl) :
    PE X (.Call (.Attribute o m apos) (e :: es) [] pos) (liftE g W (dMeth C m sd do_ dA)) := by
  refine ⟨fun pins s σ H k I ⟨ρ, M, F1, Q, E, S, En, q, kQ, kE⟩ => ?_⟩
  obtain ⟨K0, U⟩ := g
  simp only at hK
  subst hK
  refine PySem.W.methodCall_KW (pl := pl) (thn (ho.run pins s σ H (fun x H1 => ∃ M1 F2 d es, Same F1 F2 ∧ Sta ⟨X.K, U⟩ F2 M1 H1 ∧ Rep X.K F2 x d ∧ IsO M1 d C es ∧ NoF m es ∧ dA ρ M1 (fun ds M2 => sd (d :: ds) M2 Q E) E) I
    ⟨ρ, M, F1, _, E, S, En, q, fun d M1 F2 v H1 ⟨es, h1, h2, z⟩ s S' r => ⟨M1, F2, d, es, s, S', r, h1, h2, z⟩, kE⟩) fun u s1 ⟨x, H1, I1, rx, M1, F2, d, es, s12, S1, rd, ho1, nf, q1⟩ => ?_) ht
  obtain ⟨a, dx, kvs, rfl, ha1, l, rr⟩ := ho1.to S1 rd
  obtain rfl : u = Value.ref a := rx
  refine getmeth_ok I1 ha1 c hm (nf.rep l) ?_
  refine PySem.W.callWith_K (first := [.ref a]) (h₀ := X.base) I.ok.mod.kin hm.kp (thn (ha.run pos pins s1 σ H1 (fun vs H2 => ∃ M2 F3 ds, Same F2 F3 ∧ Sta ⟨X.K, U⟩ F3 M2 H2 ∧ Reps X.K F3 vs ds ∧ sd (d :: ds) M2 Q E) I1
    ⟨ρ, M1, F2, _, E, S1, En.mono s12, q1, fun ds M2 F3 vs H2 z s S' r => ⟨M2, F3, ds, s, S', r, z⟩, fun C dd M' F' H' z s S' => kE C dd M' F' H' z (s12.t s) S'⟩) fun us s2 ⟨vs, H2, I2, r, M2, F3, ds, s23, S2, r2, q2⟩ => ⟨I2.kIn, ?_⟩) hst hpl
  exact run_fnD (us := .ref a :: us) (vs := .ref a :: vs) (Ex := fun cls d H' => W cls d σ H') F hr tk (fun _ _ _ h => h) I2 (.cons rfl r) ⟨U, M2, F3, d :: ds, Q, E, S2, .cons (rd.mono s23) r2, q2, fun d M' F' v H' z s S' r => kQ d M' F' v H' z ((s12.t s23).t s) S' r, fun C dd M' F' H' z s S' => kE C dd M' F' H' z ((s12.t s23).t s) S'⟩
theorem de_meth0 {k : Nat} {C fa : Addr} {sd : SpD} {do_ : DE} {pl : Sem Bool} (c : Cls X.K C) (hm : Meth X.K C m fa) (F : FnD X.prog X.w X.K X.mg X.base k fa sd) (hr : Room k X.A) (hK : g.K = X.K) (tk : Takes X W) (ho : PE X o (liftE g W do_))
    (ht : eval (.Call (.Attribute o m apos) [] [] pos) X.env = (do
      let ov ← eval o X.env
      standAt apos.atName
      let (f, first) ← holding [ov] (getMethod ov m pl)
      callWith pos f first (backTo pos (starEach [] X.env)) (backToKw pos (keywordEach [] X.env))) := by rfl) :
    PE X (.Call (.Attribute o m apos) [] [] pos) (liftE g W (dMeth C m sd do_ dNil)) := by
  refine ⟨fun pins s σ H k I ⟨ρ, M, F1, Q, E, S, En, q, kQ, kE⟩ => ?_⟩
  obtain ⟨K0, U⟩ := g
  simp only at hK
  subst hK
  refine PySem.W.methodCall_KW (pl := pl) (thn (ho.run pins s σ H (fun x H1 => ∃ M1 F2 d es, Same F1 F2 ∧ Sta ⟨X.K, U⟩ F2 M1 H1 ∧ Rep X.K F2 x d ∧ IsO M1 d C es ∧ NoF m es ∧ sd [d] M1 Q E) I
    ⟨ρ, M, F1, _, E, S, En, q, fun d M1 F2 v H1 ⟨es, h1, h2, z⟩ s S' r => ⟨M1, F2, d, es, s, S', r, h1, h2, z⟩, kE⟩) fun u s1 ⟨x, H1, I1, rx, M1, F2, d, es, s12, S1, rd, ho1, nf, q1⟩ => ?_) ht
  obtain ⟨a, dx, kvs, rfl, ha1, l, rr⟩ := ho1.to S1 rd
  obtain rfl : u = Value.ref a := rx
  refine getmeth_ok I1 ha1 c hm (nf.rep l) ?_
  exact PySem.W.callWith_K0 (first := [.ref a]) I1.kIn hm.kp (run_fnD (us := [.ref a]) (vs := [.ref a]) (Ex := fun cls d H' => W cls d σ H') F hr tk (fun _ _ _ h => h) I1 (.cons rfl .nil) ⟨U, M1, F2, [d], Q, E, S1, .cons rd .nil, q1, fun d M' F' v H' z s S' r => kQ d M' F' v H' z (s12.t s) S' r, fun C dd M' F' H' z s S' => kE C dd M' F' H' z (s12.t s) S'⟩)
/-- C(..) -/
def dMake (C : Addr) (sd : SpD) (dA : DA) : DE := fun ρ M Q E => dA ρ M (fun ds M1 => ∀ x, (∀ m, (x, m) ∉ M1) → sd (.ptr x :: ds) ((x, .obj C []) :: M1) (fun d M2 => d = .non ∧ Q (.ptr x) M2) E) E
theorem run_makeD {k : Nat} {C fa : Addr} {sp : Sp} {Ex : XK} {Q : VK} {us : List Value} {vs : List V} {pins : List (Addr × Obj)} {σ : L2.St} {H : Hp} {s : Shared} (Mk_ : Mk X.K C fa) (F : FnR X.prog X.w X.K X.mg X.base (L2.CX X.prog X.w) k fa sp) (hr : Room (k + 1) X.A) (tk : Takes X W)
    (hW : ∀ cls d H', Ex cls d H' → W cls d σ H') (I : Inv X pins σ H s) (r : Vals vs us)
    (h : ∀ x dx, H x = Option.none → H dx = Option.none → dx ≠ x → sp (V.ref x :: vs) (upd (upd H dx (.own x)) x (.ins C dx [])) (fun v H2 => v = .non ∧ Q (.ref x) H2) Ex) :
    wpAny (model X.prog X.w) X.A (call (.ref C) us) (EP X pins σ Q) X.xe s := by
  have hq := h (s.heap.objs.size + 1) s.heap.objs.size (I.hok.fresh (Nat.le_succ _)) (I.hok.fresh (Nat.le_refl _)) (Nat.ne_of_lt (Nat.lt_succ_self _))
  have I2 := Inv.made (C := C) I
  have r2 : Vals (V.ref (s.heap.objs.size + 1) :: vs) (Value.ref (s.heap.objs.size + 1) :: us) := .cons rfl r
  refine wpAny_call (make_map (f := fa) I.kIn Mk_.makes Mk_.init (beq_iff_eq.mp Mk_.fn) (codeAny_mono (F _ X.stack _ _ (Value.ref (s.heap.objs.size + 1) :: us) _ _ Ex (hr.make C us []) (I2.env0.make C us []) r2 hq) fun r s' hq' => ?_))
  cases r with
  | error e => exact tk e s' (XE.of_call I2 hW hq')
  | ok fl =>
    cases fl with
    | ret u =>
      obtain ⟨v, H', I3, rv, ev, q3⟩ := I2.after hq'
      subst ev
      exact ⟨rv, ⟨V.ref (s.heap.objs.size + 1), H', I3, rfl, q3⟩⟩
    | next => exact False.elim hq'
    | brk => exact False.elim hq'
    | cont => exact False.elim hq'
theorem sta_made {U : Hp} {F : Hp} {M : Mem} {H : Hp} {K : PySem.W.Frag} {y dx C : Addr} (S : Sta ⟨K, U⟩ F M H) (h1 : H y = none) (h2 : H dx = none) (h3 : dx ≠ y) : Sta ⟨K, U⟩ F ((y, .obj C []) :: M) (upd (upd H dx (.own y)) y (.ins C dx [])) :=
  (S.grow (o := .own y) h2).newM (by rw [upd_ne (Ne.symm h3)]; exact h1) ⟨dx, [], rfl, rfl, .nil⟩
theorem de_make {k : Nat} {C fa : Addr} {sd : SpD} (Mk_ : Mk X.K C fa) (F : FnD X.prog X.w X.K X.mg X.base k fa sd) (hr : Room (k + 1) X.A) (hg : Gl X x) (hm : X.mg x = some (.ref C)) (hK : g.K = X.K) (tk : Takes X W) (ha : PA X (e :: es) (liftA g W dA))
    (hdb : (x == ("__debug__" : Str)) = false := by decide) (he : starEach (e :: es) X.env = (false, eval e X.env) :: starEach es X.env := by rfl) (hpl : (backTo pos (starEach es X.env)).any (·.1) = false := by rfl) :
    PE X (.Call (.Name x p) (e :: es) [] pos) (liftE g W (dMake C sd dA)) := by
  refine ⟨fun pins s σ H k I ⟨ρ, M, F1, Q, E, S, En, q, kQ, kE⟩ => ?_⟩
  obtain ⟨K0, U⟩ := g
  simp only at hK
  subst hK
  refine wpAny_Call_Name_kw (ld_glob I hg hm ?_ hdb)
  refine PySem.W.callWith_K (h₀ := X.base) I.ok.mod.kin Mk_.kp (thn (ha.run pos pins s σ H (fun vs H1 => ∃ M1 F2 ds, Same F1 F2 ∧ Sta ⟨X.K, U⟩ F2 M1 H1 ∧ Reps X.K F2 vs ds ∧ ∀ x, (∀ m, (x, m) ∉ M1) → sd (.ptr x :: ds) ((x, .obj C []) :: M1) (fun d M2 => d = .non ∧ Q (.ptr x) M2) E) I
    ⟨ρ, M, F1, _, E, S, En, q, fun ds M1 F2 vs H1 z s S' r => ⟨M1, F2, ds, s, S', r, z⟩, kE⟩) fun us s1 ⟨vs, H1, I1, r, M1, F2, ds, s12, S1, r1, q1⟩ => ⟨I1.kIn, ?_⟩) he hpl
  refine run_makeD (Ex := fun cls d H' => W cls d σ H') Mk_ F hr tk (fun _ _ _ h => h) I1 r fun y dx h1 h2 h3 => ?_
  exact ⟨U, _, F2, _, _, E, sta_made S1 h1 h2 h3, .cons (.ptr y) r1, q1 y (S1.fresh h1), fun d M' F' v H' ⟨ed, z⟩ s S' r => by
    subst ed
    cases r
    exact ⟨rfl, kQ _ M' F' _ H' z (s12.t s) S' (.ptr y)⟩, fun C dd M' F' H' z s S' => kE C dd M' F' H' z (s12.t s) S'⟩
end
end DL
namespace DL
variable [Wd]
open PySem L2
section
variable {X : Cx} {g : G} {W : WX} {pos : Pos} {a b c e o : Expr} {es : List Expr} {da db dc de do_ : DE} {dA : DA} {x f m : Str} {p apos cpos : Pos}
/-! ### exceptions of own classes -/
theorem Del.keys {a : Addr} {m : MO} : ∀ {M M' : Mem}, Del a m M M' → ∀ {b : Addr} {x : MO}, (b, x) ∈ M → b ≠ a → (b, x) ∈ M'
  | _, _, .head, b, x, h, hb => by
    rcases List.mem_cons.mp h with z | z
    · cases z; exact absurd rfl hb
    · exact z
  | _, _, .tail u, b, x, h, hb => by
    rcases List.mem_cons.mp h with z | z
    · rw [z]; exact List.mem_cons_self
    · exact List.mem_cons_of_mem _ (Del.keys u z hb)
theorem Sta.drop {F : Hp} {M M' : Mem} {H : Hp} {q : Addr} {m : MO} (S : Sta g F M H) (u : Del q m M M') : Sta g F M' (del H q) := by
  obtain ⟨hF, _⟩ := S.mem q m u.old
  refine ⟨fun b w e => ?_, fun b w e => ?_, fun b x hx => ?_, S.nd.sublist u.sub⟩
  · rw [del_ne (ne_of_none e hF)]; exact S.sub b w e
  · obtain ⟨h1, h2, h3⟩ := S.out b w e
    have hb : b ≠ q := fun z => by subst z; exact h3 m u.old
    exact ⟨by rw [del_ne hb]; exact h1, h2, fun x hx => h3 x (u.mem hx)⟩
  · obtain ⟨h1, w, h2, h3⟩ := S.mem b x (u.mem hx)
    have hb : b ≠ q := fun z => by subst z; exact u.gone S.nd x hx
    exact ⟨h1, w, by rw [del_ne hb]; exact h2, h3⟩
/-- self.f = e in the __init__ of an own error -/
def sOst (K : PySem.W.Frag) (f : Str) (do_ de : DE) : DS := fun nx _ _ _ ex ρ M => de ρ M (fun d M1 => do_ ρ M1 (fun x M2 => ∃ q C, x = .ptr q ∧ OexC K C ∧ PySem.W.findIn K (.ref C) f = some none ∧
  (((q, MO.raw (exo q C none)) ∈ M2 ∧ ∀ dx, (∀ m, (dx, m) ∉ M2) → ∃ M3, Upd q (.raw (exo q C none)) (.raw (exo q C (some dx))) M2 M3 ∧ nx ρ ((dx, .exd dx [(f, d)]) :: M3)) ∨
    ∃ dx fs M3, (q, MO.raw (exo q C (some dx))) ∈ M2 ∧ fs.length ≤ 900 ∧ Upd dx (.exd dx fs) (.exd dx ((f, d) :: fs)) M2 M3 ∧ nx ρ M3)) (fun C dd M' => ex C dd ρ M')) (fun C dd M' => ex C dd ρ M')
theorem upd_comm {H : Hp} {a b : Addr} {o u : HO} (h : a ≠ b) : upd (upd H a o) b u = upd (upd H b u) a o := by
  funext c
  unfold upd
  by_cases h1 : c = a
  · subst h1
    rw [if_neg h, if_pos rfl]
    simp
  · by_cases h2 : c = b
    · subst h2; simp [h1]
    · simp [h1, h2]
theorem ds_ost {p' : Pos} (hK : g.K = X.K) (ho : PE X o (liftE g W do_)) (he : PE X e (liftE g W de)) (hs : swapsWith e (some (.Attribute o f p')) pos.line X.env = pure false := by rfl) : PS X (.Assign [.Attribute o f p'] e pos) (liftS g W (sOst X.K f do_ de)) :=
  PS.imp (ps_ost ho he hs) fun D σ H ⟨ρ, M, F, nx, rt, bk, ct, ex, S, En, q, k1, k2, k3, k4, k5⟩ =>
    ⟨ρ, M, F, _, _, S, En, q, fun d M1 F1 v H1 q1 s1 S1 r1 => ⟨ρ, M1, F1, _, _, S1, En.mono s1, q1, fun y M2 F2 u H2 ⟨qa, C, ey, T, no, z⟩ s2 S2 r2 => by
      subst ey
      cases r2
      refine ⟨qa, C, rfl, T, no, ?_⟩
      have rd := r1.mono s2
      rcases z with ⟨hu, z⟩ | ⟨dx, fs, M3, hm, hl, hu, z⟩
      · obtain ⟨_, o, ho, rfl⟩ := S2.mem _ _ hu
        refine .inl ⟨ho, fun dx h1 h2 => ?_⟩
        obtain ⟨M3, hu3, z⟩ := z dx (S2.fresh h1)
        have S3 := S2.upd hu3 (o := exo qa C (some dx)) rfl
        have S4 := S3.newM (a := dx) (o := exd dx [(f, v)]) (m := .exd dx [(f, d)]) (by rw [upd_ne h2]; exact h1) ⟨_, rfl, rfl, .cons rd .nil⟩
        rw [upd_comm (Ne.symm h2)] at S4
        exact k1 ρ _ F2 σ _ z (s1.t s2) S4 (En.mono (s1.t s2))
      · obtain ⟨_, o, ho, rfl⟩ := S2.mem _ _ hm
        obtain ⟨_, o', ho', kvs, rfl, l, rr⟩ := S2.mem _ _ hu.old
        have el : kvs.length = fs.length := by
          have := congrArg List.length l
          rwa [List.length_map, List.length_map] at this
        exact .inr ⟨dx, kvs, ho, ho', by rw [el]; exact hl, k1 ρ _ F2 σ _ z (s1.t s2) (S2.upd hu ⟨_, rfl, by rw [List.map_cons, List.map_cons, l], .cons rd rr⟩) (En.mono (s1.t s2))⟩,
      fun C dd M' F' H' z s S' => k5 C dd ρ M' F' σ H' z (s1.t s) S' (En.mono (s1.t s))⟩, fun C dd M' F' H' z s S' => k5 C dd ρ M' F' σ H' z s S' (En.mono s)⟩
/-- raise C(..) -/
def sRaise (C : Addr) (sd : SpD) (dA : DA) : DS := fun _ _ _ _ ex ρ M => dA ρ M (fun ds M1 => ds.length ≤ 1000 ∧ ∀ q, (∀ m, (q, m) ∉ M1) → sd (.ptr q :: ds) ((q, .raw (exo q C none)) :: M1) (fun d M2 => d = .non ∧ ∃ dx es M3 M4,
  Del q (.raw (exo q C (some dx))) M2 M3 ∧ Upd dx (.exd dx es) (.xd es) M3 M4 ∧ (∀ m, (dx, m) ∉ M1) ∧ ex C dx ρ M4) (fun _ _ _ => False)) (fun C dd M' => ex C dd ρ M')
open Classical in
theorem ds_raise {C fI : Addr} {k : Nat} {sd : SpD} {pos2 : Pos} (hc : X.calm = true) (hK : g.K = X.K) (tk : Takes X W) (T : OexC X.K C) (iC : PySem.W.findIn X.K (.ref C) "__init__" = some (some (.ref fI))) (tI : PySem.W.typeIn X.K (.ref fI) = some (.type "function"))
    {fd : FuncData} {ps : List Str} (F1 : FnOk X.prog X.w X.K X.mg X.base (L2.CX X.prog X.w) k fI fd ps (spOf X.K sd)) (hb : Binds X.K fd ps []) (hr : Room (k + 1) X.A) (hg : Gl X x) (hm : X.mg x = some (.ref C)) (ha : PA X (e :: es) (liftA g W dA))
    (hdb : (x == ("__debug__" : Str)) = false := by decide) (he : starEach (e :: es) X.env = (false, eval e X.env) :: starEach es X.env := by rfl) (hpl : (backTo pos (starEach es X.env)).any (·.1) = false := by rfl) :
    PS X (.Raise (some (.Call (.Name x p) (e :: es) [] pos)) none pos2) (liftS g W (sRaise C sd dA)) :=
  PS.imp (ps_raise hc tk (pmk_oex T iC tI F1 hr hb .nil passL hg hm ha hdb he hpl)) fun D σ H ⟨ρ, M, F, nx, rt, bk, ct, ex, S, En, q, k1, k2, k3, k4, k5⟩ => by
    refine ⟨ρ, M, F, _, _, S, En, q, fun ds M1 F1 vs H1 ⟨hz, q1⟩ s1 S1 r1 => ⟨by rw [r1.length]; exact hz, fun a hn => ?_⟩, fun C dd M' F' H' z s S' => k5 C dd ρ M' F' σ H' z s S' (En.mono s)⟩
    rw [List.append_nil]
    have q2 := q1 a (S1.fresh hn)
    obtain ⟨K0, U⟩ := g
    simp only at hK
    subst hK
    -- all that is known of H1, in the place of what others hold
    have S2 : Sta ⟨X.K, fun b => if U b = none then (if F1 b = none ∧ (∀ m, (b, m) ∉ M1) then H1 b else none) else U b⟩ F1 M1 H1 := by
      refine ⟨S1.sub, fun b o hb => ?_, S1.mem, S1.nd⟩
      have hb' : (if U b = none then (if F1 b = none ∧ (∀ m, (b, m) ∉ M1) then H1 b else none) else U b) = some o := hb
      by_cases cu : U b = none
      · rw [if_pos cu] at hb'
        by_cases c : F1 b = none ∧ (∀ m, (b, m) ∉ M1)
        · rw [if_pos c] at hb'
          exact ⟨hb', .inl c.1, c.2⟩
        · rw [if_neg c] at hb'
          cases hb'
      · rw [if_neg cu] at hb'
        exact S1.out b o hb'
    have S3 := S2.newM (a := a) (o := exo a C none) (m := .raw (exo a C none)) hn rfl
    refine ⟨_, _, F1, _, _, _, S3, .cons (.ptr a) r1, q2, fun d M2 F2 v H2 ⟨ed, dx, fs, M3, M4, hd, hu, hf, z⟩ s2 S2' r2 => ?_, fun C dd M' F' H' z s S' => z.elim⟩
    subst ed
    cases r2
    have hb : dx ≠ a := fun z => by
      subst z
      exact hd.gone S2'.nd _ hu.old
    obtain ⟨_, o1, ho1, e1⟩ := S2'.mem _ _ hd.old
    subst e1
    have S5 := S2'.drop hd
    obtain ⟨hF2, o2, ho2, kvs, e2, l, rr⟩ := S5.mem _ _ hu.old
    subst e2
    rw [del_ne hb] at ho2
    have hU : H1 dx = none := by
      have c0 : F1 dx = none := by
        cases e : F1 dx with
        | none => rfl
        | some o =>
          rw [s2 _ _ e] at hF2
          exact nomatch hF2
      have c : F1 dx = none ∧ (∀ m, (dx, m) ∉ M1) := ⟨c0, hf⟩
      cases e : H1 dx with
      | none => rfl
      | some o =>
        cases eu : U dx with
        | some o' =>
          have := (S2'.out dx o' (by show (if U dx = none then (if F1 dx = none ∧ (∀ m, (dx, m) ∉ M1) then H1 dx else none) else U dx) = some o'; rw [if_neg (by rw [eu]; exact fun z => nomatch z)]; exact eu)).2.2
          exact absurd (hd.mem hu.old) (this _)
        | none =>
          have := (S2'.out dx o (by show (if U dx = none then (if F1 dx = none ∧ (∀ m, (dx, m) ∉ M1) then H1 dx else none) else U dx) = some o; rw [if_pos eu, if_pos c]; exact e)).2.2
          exact absurd (hd.mem hu.old) (this _)
    refine ⟨rfl, dx, kvs, ho1, ho2, hU, ?_⟩
    have S6 := S5.upd hu (o := .xd kvs) ⟨kvs, rfl, l, rr⟩
    have S7 : Sta ⟨X.K, U⟩ F2 M4 (upd (del H2 a) dx (.xd kvs)) := by
      refine ⟨S6.sub, fun b o hb' => ?_, S6.mem, S6.nd⟩
      exact S6.out b o (by show (if U b = none then (if F1 b = none ∧ (∀ m, (b, m) ∉ M1) then H1 b else none) else U b) = some o; rw [if_neg (by rw [show U b = some o from hb']; exact fun z => nomatch z)]; exact hb')
    exact k5 C dx ρ M4 F2 σ _ z (s1.t s2) S7 (En.mono (s1.t s2))
end
end DL
namespace DL
variable [Wd]
open PySem L2 PySem.Spec PyProof.Rows
/-! ### try .. except, several clauses, each with or without a name -/
abbrev HdT := Value × Option Nat × (Addr → Value → Option Addr → TS)
def unset (i : Nat) (D : Ends) : Ends := { nx := fun σ H => D.nx (σ.set i none) H, rt := D.rt, bk := fun σ H => D.bk (σ.set i none) H, ct := fun σ H => D.ct (σ.set i none) H }
def wH (K : PySem.W.Frag) (Wout : WX) (D : Ends) : List HdT → WX
  | [] => Wout
  | (c, none, ts) :: r => fun cls d σ H => ∃ b, PySem.W.exmOne K cls c = some b ∧ (b = true → ∀ a, H a = none → ts a cls d D σ H) ∧ (b = false → wH K Wout D r cls d σ H)
  | (c, some i, ts) :: r => fun cls d σ H => ∃ b, PySem.W.exmOne K cls c = some b ∧ (b = true → ∀ a, H a = none → ts a cls d (unset i D) (σ.set i (some (.ref a))) H) ∧ (b = false → wH K Wout D r cls d σ H)
inductive HdK (X : Cx) : List ExceptHandler → List HdT → Prop
  | nil : HdK X [] []
  | bare {x : Str} {c : Value} {ts : Addr → Value → Option Addr → TS} {b₀ : Stmt} {suite : List Stmt} {np pos' : Pos} {hds : List ExceptHandler} {l : List HdT} : Names X x c →
      (∀ (a : Addr) (oe : Obj) (cls : Value) (d : Option Addr) (pn : List (Addr × Obj)), Zc cls d oe → (∃ vs, oe.data = .fields vs) → PSs (X.suite a ((a, oe) :: pn)) (b₀ :: suite) (ts a cls d)) → HdK X hds l →
      HdK X (.ExceptHandler (some (.Name x np)) none (b₀ :: suite) pos' :: hds) ((c, none, ts) :: l)
  | named {x n : Str} {i : Nat} {c : Value} {ts : Addr → Value → Option Addr → TS} {b₀ : Stmt} {suite : List Stmt} {np pos' : Pos} {hds : List ExceptHandler} {l : List HdT} : X.N.Nodup → X.N[i]? = some n → X.env.kindOf n = some .local → Names X x c →
      (∀ (a : Addr) (oe : Obj) (cls : Value) (d : Option Addr) (pn : List (Addr × Obj)), Zc cls d oe → (∃ vs, oe.data = .fields vs) → PSs (X.suite a ((a, oe) :: pn)) (b₀ :: suite) (ts a cls d)) → HdK X hds l →
      HdK X (.ExceptHandler (some (.Name x np)) (some n) (b₀ :: suite) pos' :: hds) ((c, some i, ts) :: l)
section
variable {X : Cx} {pins : List (Addr × Obj)} {σ : L2.St} {H : Hp} {s' : Shared} {cls : Value} {d : Option Addr} {a : Addr} {Wout : WX} {D : Ends}
/-- what the clauses do, once the exception is looked at -/
theorem clauses (ok : X.Ok) (hs : X.stack = X.env :: X.outer) (hf : X.env.frame = some X.env.locals) (tk : Takes X Wout) {B : Heap} {sI : Shared} (J : Inv X pins σ H sI)
    (nb : ∀ b o, sI.heap.get? b = some o → b ∉ frs X.stack → B.get? b = some o) (up : sI.heap.UpToSlots s'.heap) (os : s'.os = sI.os) (ag : AllBare s'.gens) (na : H a = none) (nL : a ≠ X.env.locals) (nF : a ∉ X.fs) {h3 : Heap}
    (fl3 : HandSPX.FlyingZ B (X.env :: X.outer) a (Zc cls d) h3) (up3 : s'.heap.UpToSlots h3) {hds : List ExceptHandler} {l : List HdT} (hk : HdK X hds l) (w : wH X.K Wout D l cls d σ H) :
    wpAny (model X.prog X.w) X.A (handleBy (.ref a) X.env hds) (SP X pins D) X.xe { s' with heap := h3 } := by
  have J3 : Inv X pins σ H { s' with heap := h3 } := J.landed nb fl3.1 (up.trans up3) os ag
  obtain ⟨oe3, vs3, he3, hz3, hd3⟩ := fl3.there
  have S3 := J3.suite he3 hd3 na nL nF
  -- the class that a clause names, and whether it is the exception's
  have named : ∀ {x : Str} {c : Value} {np : Pos} {Q E : Value → Shared → Prop}, Names X x c → Q c { s' with heap := h3 } → wpAny (model X.prog X.w) (X.A.mark (some (.ref a))) (eval (.Name x np) X.env) Q E { s' with heap := h3 } := by
    intro x c np Q E hc q
    obtain ⟨hg, hdbg, hm | ⟨hm, hv, hnn⟩⟩ := hc
    · exact ld_glob (X := X.suite a ((a, oe3) :: (X.pn ++ pins))) S3 hg hm q hdbg
    · exact ld_blt (X := X.suite a ((a, oe3) :: (X.pn ++ pins))) S3 hg hm hv q hnn hdbg
  have tells : ∀ {c : Value} {b : Bool}, PySem.W.exmOne X.K cls c = some b → PySem.W.Looks (model X.prog X.w) h3 _ b := fun {c b} hb =>
    PySem.W.exm_one (M := model X.prog X.w) J3.kIn (fun A Q E s k q => wpAny_typeOf_ref (k _ _ he3) (by rw [hz3.1]; exact q)) hb
  induction hk with
  | nil =>
    refine wpAny_handleBy_nil ?_
    obtain ⟨_, _, _, oe, vs, T, _, _, he, _, hd, h1, _⟩ := id fl3
    unfold PySem.passOn
    refine wpAny_bind (wpAny_field he hd h1 ?_)
    rw [if_neg (show ¬ ((Value.ref T == Value.none) = true) from by simp)]
    have out : wpAny (model X.prog X.w) X.A (setFlight (.ref a) X.env.frame) (fun _ s4 => wpAny (model X.prog X.w) X.A (throw (.ref a) : Sem Flow) (SP X pins D) X.xe s4) X.xe { s' with heap := h3 } := by
      rw [hf]
      exact HandSPX.setFlight_upZ fl3 fun h4 hh4 up4 => wpAny_throw (tk _ _ ⟨a, B, sI, pins, σ, H, cls, d, rfl, J, nb, (up.trans up3).trans up4, .inr (.inr (by rw [hs]; exact hh4)), na, os, ag, w⟩)
    first
      | exact wpAny_bind (wpAny_pure (wpAny_bind out))
      | exact wpAny_bind out
  | bare hc hsu _ ih =>
    obtain ⟨b, hb1, hyes, hno⟩ := w
    refine wpAny_handleBy_cons (codeAny_handlers_test (named hc ((tells hb1).here ?_))) (by intro q; cases q)
    cases b with
    | false => exact ih (hno rfl)
    | true =>
      refine codeAny_handlers_suite (HandSPX.lands_againZ fl3 fun h4 fl4 up4 => ?_)
      have J4 : Inv X pins σ H { s' with heap := h4 } := J.landed nb fl4.1 ((up.trans up3).trans up4) os ag
      obtain ⟨oe4, vs4, he4, hz4, hd4⟩ := fl4.there
      refine wpAny_mono ((hsu a oe4 cls d (X.pn ++ pins) hz4 ⟨_, hd4⟩).run [] _ _ H _ (J4.suite he4 hd4 na nL nF) (hyes rfl a na)) (fun f s6 hsp => ?_) (fun _ _ z => False.elim z)
      cases f with
      | ret u =>
        obtain ⟨v6, σ6, H6, S6, r6, q6⟩ := hsp
        exact ⟨_, _, _, S6.unsuite ok, r6, q6⟩
      | next => obtain ⟨σ6, H6, S6, q6⟩ := hsp; exact ⟨_, _, S6.unsuite ok, q6⟩
      | brk => obtain ⟨σ6, H6, S6, q6⟩ := hsp; exact ⟨_, _, S6.unsuite ok, q6⟩
      | cont => obtain ⟨σ6, H6, S6, q6⟩ := hsp; exact ⟨_, _, S6.unsuite ok, q6⟩
  | named hN hi hln hc hsu _ ih =>
    obtain ⟨b, hb1, hyes, hno⟩ := w
    refine wpAny_handleBy_cons (codeAny_handlers_test (named hc ((tells hb1).here ?_))) (by intro q; cases q)
    cases b with
    | false => exact ih (hno rfl)
    | true =>
      refine codeAny_handlers_suite_as (HandSPX.lands_againZ fl3 fun h4 fl4 up4 => ?_)
      have J4 : Inv X pins σ H { s' with heap := h4 } := J.landed nb fl4.1 ((up.trans up3).trans up4) os ag
      obtain ⟨oe4, vs4, he4, hz4, hd4⟩ := fl4.there
      refine store_ok (X := X.suite a ((a, oe4) :: (X.pn ++ pins))) (v := .ref a) (J4.suite he4 hd4 na nL nF) hN hi (.inl hln) rfl (fun s5 S5 => ?_) (.inr hln)
      refine wpAny_mono ((hsu a oe4 cls d (X.pn ++ pins) hz4 ⟨_, hd4⟩).run [] s5 _ H _ S5 (hyes rfl a na)) (fun f s6 hsp => ?_) (fun _ _ z => False.elim z)
      cases f with
      | ret u =>
        obtain ⟨v6, σ6, H6, S6, r6, q6⟩ := hsp
        exact gone_ok (S6.unsuite ok) hN hi hln fun s7 J7 => ⟨_, _, _, J7, r6, q6⟩
      | next => obtain ⟨σ6, H6, S6, q6⟩ := hsp; exact gone_ok (S6.unsuite ok) hN hi hln fun s7 J7 => ⟨_, _, J7, q6⟩
      | brk => obtain ⟨σ6, H6, S6, q6⟩ := hsp; exact gone_ok (S6.unsuite ok) hN hi hln fun s7 J7 => ⟨_, _, J7, q6⟩
      | cont => obtain ⟨σ6, H6, S6, q6⟩ := hsp; exact gone_ok (S6.unsuite ok) hN hi hln fun s7 J7 => ⟨_, _, J7, q6⟩
theorem ps_try_k {body : List Stmt} {h₀ : ExceptHandler} {hds : List ExceptHandler} {l : List HdT} {pos : Pos} {tb : WX → TS} (hs : X.stack = X.env :: X.outer) (hf : X.env.frame = some X.env.locals) (tk : Takes X Wout)
    (hb : ∀ (W : WX) (pn : List (Addr × Obj)) (xe : Value → Shared → Prop), Takes (X.tr pn xe) W → PassesOwn (model X.prog X.w) X.A X.env xe → PSs (X.tr pn xe) body (tb W))
    (hh : HdK X (h₀ :: hds) l) : PS X (.Try body (h₀ :: hds) [] [] pos) (fun D σ H => tb (wH X.K Wout D l) D σ H) := by
  refine ⟨fun pins s σ H D I h => ?_⟩
  have ok := I.ok
  refine wpAny_Try_except (wpAny_mono ((hb (wH X.K Wout D l) (X.pn ++ pins) (fun e s₁ => wpAny (model X.prog X.w) X.A (noteFrame e X.env) (fun _ s₂ => wpAny (model X.prog X.w) X.A (setFlight e none) (fun _ s₃ =>
    wpAny (model X.prog X.w) X.A (handleBy e X.env (h₀ :: hds)) (SP X pins D) X.xe s₃) X.xe s₂) X.xe s₁) (fun u s' xx => ?_) PassesOwn.looking).run [] s σ H D (I.toTry _) h) (fun f s1 hsp => ?_) (fun e s1 he => he))
  · obtain ⟨a, B, sI, pins', σ', H', cls, d, rfl, J', nb, up, sky, na, os, ag, w⟩ := xx
    have J : Inv X pins σ' H' sI := J'.ofTry ok
    refine Sky.land Zc.steady (by rw [ok.frames, hs]) hf (by rw [← hs]; exact sky) fun h3 fl3 up3 => ?_
    obtain ⟨oe3, vs3, he3, _, hd3⟩ := fl3.there
    have nfr : a ∉ frs (X.env :: X.outer) := fun hm => by
      obtain ⟨_, o', e', hnf⟩ := fl3.2.2.1.mem hm
      rw [he3] at e'; cases e'
      exact hnf _ hd3
    have nL : a ≠ X.env.locals := fun z => nfr (List.mem_filterMap.mpr ⟨X.env, List.mem_cons_self, by rw [hf, z]⟩)
    have nF : a ∉ X.fs := fun hm => by
      obtain ⟨e, he, q⟩ := List.mem_filterMap.mp hm
      exact nfr (List.mem_filterMap.mpr ⟨e, List.mem_cons_of_mem _ he, q⟩)
    exact clauses ok hs hf tk J nb up os ag na nL nF fl3 up3 hh w
  · cases f with
    | next => obtain ⟨σ', H', J', q⟩ := hsp; exact wpAny_execs_nil ⟨σ', H', J'.ofTry ok, q⟩
    | brk => obtain ⟨σ', H', J', q⟩ := hsp; exact ⟨σ', H', J'.ofTry ok, q⟩
    | cont => obtain ⟨σ', H', J', q⟩ := hsp; exact ⟨σ', H', J'.ofTry ok, q⟩
    | ret u => obtain ⟨v, σ', H', J', r, q⟩ := hsp; exact ⟨v, σ', H', J'.ofTry ok, r, q⟩
end

abbrev HdD := Value × Option Nat × (Addr → Addr → Addr → DS)
abbrev XR := Addr → Addr → Rho → Mem → Prop
def noX : XR := fun _ _ _ _ => False
abbrev W0 : WX := fun _ _ _ _ => False
def hGo (K : PySem.W.Frag) (nx : NX) (rt : D → Mem → Prop) (bk ct : NX) (ex : XR) : List HdD → XR
  | [] => ex
  | (c, none, h) :: r => fun C dd ρ M => ∃ b, PySem.W.exmOne K (.ref C) c = some b ∧ (b = true → ∀ a, h a C dd nx rt bk ct noX ρ M) ∧ (b = false → hGo K nx rt bk ct ex r C dd ρ M)
  | (c, some i, h) :: r => fun C dd ρ M => ∃ b, PySem.W.exmOne K (.ref C) c = some b ∧
      (b = true → ∀ a, h a C dd (fun ρ' M' => nx (put ρ' i none) M') rt (fun ρ' M' => bk (put ρ' i none) M') (fun ρ' M' => ct (put ρ' i none) M') noX (put ρ i (some (.ptr a))) M) ∧ (b = false → hGo K nx rt bk ct ex r C dd ρ M)
def sTry (K : PySem.W.Frag) (body : DS) (hds : List HdD) : DS := fun nx rt bk ct ex ρ M => body nx rt bk ct (hGo K nx rt bk ct ex hds) ρ M
def ofH (g : G) (p : HdD) : HdT := (p.1, p.2.1, fun a cls d D σ H => ∃ C dd, cls = .ref C ∧ d = some dd ∧ liftS g W0 (p.2.2 a C dd) D σ H)
section
variable {X : Cx} {g : G} {W : WX} {pos : Pos} {a b c e : Expr} {es : List Expr} {de : DE}
/-- the clauses' suites -/
inductive HdKD (X : Cx) (g : G) : List ExceptHandler → List HdD → Prop
  | nil : HdKD X g [] []
  | bare {x : Str} {c : Value} {h : Addr → Addr → Addr → DS} {b₀ : Stmt} {suite : List Stmt} {np pos' : Pos} {hds : List ExceptHandler} {l : List HdD} : Names X x c →
      (∀ (a : Addr) (oe : Obj) (C dd : Addr) (pn : List (Addr × Obj)), Zc (.ref C) (some dd) oe → (∃ vs, oe.data = .fields vs) → PSs (X.suite a ((a, oe) :: pn)) (b₀ :: suite) (liftS g W0 (h a C dd))) → HdKD X g hds l →
      HdKD X g (.ExceptHandler (some (.Name x np)) none (b₀ :: suite) pos' :: hds) ((c, none, h) :: l)
  | named {x n : Str} {i : Nat} {c : Value} {h : Addr → Addr → Addr → DS} {b₀ : Stmt} {suite : List Stmt} {np pos' : Pos} {hds : List ExceptHandler} {l : List HdD} : X.N.Nodup → X.N[i]? = some n → X.env.kindOf n = some .local → Names X x c →
      (∀ (a : Addr) (oe : Obj) (C dd : Addr) (pn : List (Addr × Obj)), Zc (.ref C) (some dd) oe → (∃ vs, oe.data = .fields vs) → PSs (X.suite a ((a, oe) :: pn)) (b₀ :: suite) (liftS g W0 (h a C dd))) → HdKD X g hds l →
      HdKD X g (.ExceptHandler (some (.Name x np)) (some n) (b₀ :: suite) pos' :: hds) ((c, some i, h) :: l)
theorem suite_of {st : List Stmt} {a : Addr} {oe : Obj} {cls : Value} {d : Option Addr} {pn : List (Addr × Obj)} {h : Addr → Addr → Addr → DS} (hz : Zc cls d oe) (hf : ∃ vs, oe.data = .fields vs)
    (hs : ∀ (a : Addr) (oe : Obj) (C dd : Addr) (pn : List (Addr × Obj)), Zc (.ref C) (some dd) oe → (∃ vs, oe.data = .fields vs) → PSs (X.suite a ((a, oe) :: pn)) st (liftS g W0 (h a C dd))) :
    PSs (X.suite a ((a, oe) :: pn)) st (fun D σ H => ∃ C dd, cls = .ref C ∧ d = some dd ∧ liftS g W0 (h a C dd) D σ H) :=
  ⟨fun pins s σ H D I ⟨C, dd, e1, e2, q⟩ => by
    subst e1 e2
    exact (hs a oe C dd pn hz hf).run pins s σ H D I q⟩
theorem HdKD.to {hds : List ExceptHandler} {l : List HdD} (h : HdKD X g hds l) : HdK X hds (l.map (ofH g)) := by
  induction h with
  | nil => exact .nil
  | bare hc hs _ ih => exact .bare hc (fun a oe cls d pn hz hf => suite_of hz hf hs) ih
  | named hN hi hl hc hs _ ih => exact .named hN hi hl hc (fun a oe cls d pn hz hf => suite_of hz hf hs) ih
theorem hGo_w {Wout : WX} {Dn : Ends} {F : Hp} {nx : NX} {rt : D → Mem → Prop} {bk ct : NX} {ex : XR}
    (k1 : ∀ ρ' M' F' σ' H', nx ρ' M' → Same F F' → Sta g F' M' H' → Enr g.K F' σ' ρ' → Dn.nx σ' H') (k2 : ∀ d M' F' v H', rt d M' → Same F F' → Sta g F' M' H' → Rep g.K F' v d → Dn.rt v H')
    (k3 : ∀ ρ' M' F' σ' H', bk ρ' M' → Same F F' → Sta g F' M' H' → Enr g.K F' σ' ρ' → Dn.bk σ' H') (k4 : ∀ ρ' M' F' σ' H', ct ρ' M' → Same F F' → Sta g F' M' H' → Enr g.K F' σ' ρ' → Dn.ct σ' H')
    (k5 : ∀ C dd ρ' M' F' σ' H', ex C dd ρ' M' → Same F F' → Sta g F' M' H' → Enr g.K F' σ' ρ' → Wout (.ref C) (some dd) σ' H') :
    ∀ (hds : List HdD) (C dd : Addr) (ρ' : Rho) (M' : Mem) (F' : Hp) (σ' : L2.St) (H' : Hp), hGo g.K nx rt bk ct ex hds C dd ρ' M' → Same F F' → Sta g F' M' H' → Enr g.K F' σ' ρ' → wH g.K Wout Dn (hds.map (ofH g)) (.ref C) (some dd) σ' H'
  | [], C, dd, ρ', M', F', σ', H', q, s, S, En => k5 C dd ρ' M' F' σ' H' q s S En
  | (c, none, h) :: r, C, dd, ρ', M', F', σ', H', ⟨b, hb, hy, hn⟩, s, S, En => by
    refine ⟨b, hb, fun e a ha => ⟨C, dd, rfl, rfl, ρ', M', F', nx, rt, bk, ct, noX, S, En, hy e a, fun a1 a2 a3 a4 a5 a6 a7 => k1 a1 a2 a3 a4 a5 a6 (s.t a7), fun a1 a2 a3 a4 a5 a6 a7 => k2 a1 a2 a3 a4 a5 a6 (s.t a7),
      fun a1 a2 a3 a4 a5 a6 a7 => k3 a1 a2 a3 a4 a5 a6 (s.t a7), fun a1 a2 a3 a4 a5 a6 a7 => k4 a1 a2 a3 a4 a5 a6 (s.t a7), fun _ _ _ _ _ _ _ z => z.elim⟩, fun e => hGo_w k1 k2 k3 k4 k5 r C dd ρ' M' F' σ' H' (hn e) s S En⟩
  | (c, some i, h) :: r, C, dd, ρ', M', F', σ', H', ⟨b, hb, hy, hn⟩, s, S, En => by
    refine ⟨b, hb, fun e a ha => ⟨C, dd, rfl, rfl, put ρ' i (some (.ptr a)), M', F', _, rt, _, _, noX, S, En.set i (.ptr a), hy e a, fun a1 a2 a3 a4 a5 a6 a7 a8 a9 => k1 _ a2 a3 _ a5 a6 (s.t a7) a8 (a9.unset i none), fun a1 a2 a3 a4 a5 a6 a7 => k2 a1 a2 a3 a4 a5 a6 (s.t a7),
      fun a1 a2 a3 a4 a5 a6 a7 a8 a9 => k3 _ a2 a3 _ a5 a6 (s.t a7) a8 (a9.unset i none), fun a1 a2 a3 a4 a5 a6 a7 a8 a9 => k4 _ a2 a3 _ a5 a6 (s.t a7) a8 (a9.unset i none), fun _ _ _ _ _ _ _ z => z.elim⟩, fun e => hGo_w k1 k2 k3 k4 k5 r C dd ρ' M' F' σ' H' (hn e) s S En⟩
theorem ds_try {body : List Stmt} {h₀ : ExceptHandler} {hds : List ExceptHandler} {l : List HdD} {db : DS} (hs : X.stack = X.env :: X.outer) (hf : X.env.frame = some X.env.locals) (hK : g.K = X.K) (tk : Takes X W)
    (hb : ∀ (W : WX) (pn : List (Addr × Obj)) (xe : Value → Shared → Prop), Takes (X.tr pn xe) W → PassesOwn (model X.prog X.w) X.A X.env xe → PSs (X.tr pn xe) body (liftS g W db))
    (hh : HdKD X g (h₀ :: hds) l) : PS X (.Try body (h₀ :: hds) [] [] pos) (liftS g W (sTry X.K db l)) :=
  PS.imp (ps_try_k (tb := fun W => liftS g W db) hs hf tk hb hh.to) fun D σ H ⟨ρ, M, F, nx, rt, bk, ct, ex, S, En, q, k1, k2, k3, k4, k5⟩ => by
    rw [← hK] at q ⊢
    exact ⟨ρ, M, F, nx, rt, bk, ct, _, S, En, q, k1, k2, k3, k4, fun C dd ρ' M' F' σ' H' z s S' En' => hGo_w k1 k2 k3 k4 k5 l C dd ρ' M' F' σ' H' z s S' En'⟩
/-- err.f in a suite -/
def dXf (K : PySem.W.Frag) (a C dd : Addr) (n : Str) (de : DE) : DE := fun ρ M Q E => de ρ M (fun d M' => ∃ es d', d = .ptr a ∧ XfC K C ∧ PySem.W.findIn K (.ref C) n = some none ∧ (dd, MO.xd es) ∈ M' ∧ Has es n d' ∧ Q d' M') E
theorem de_xf {a C dd : Addr} {oe : Obj} {pn : List (Addr × Obj)} {n : Str} (hK : g.K = X.K) (hz : Zc (.ref C) (some dd) oe) (hf : ∃ vs, oe.data = .fields vs) (he : PE (X.suite a ((a, oe) :: pn)) e (liftE g W de)) (hb : attributeBase e n X.env (eval e X.env) = eval e X.env := by rfl) :
    PE (X.suite a ((a, oe) :: pn)) (.Attribute e n pos) (liftE g W (dXf X.K a C dd n de)) := by
  refine ⟨fun pins s σ H k I ⟨ρ, M, F, Q, E, S, En, q, kQ, kE⟩ => ?_⟩
  by_cases hT : XfC X.K C ∧ PySem.W.findIn X.K (.ref C) n = some none
  · refine (pe_xf hT.1 hT.2 hz hf he hb).run pins s σ H k I ⟨ρ, M, F, _, E, S, En, q, fun d M' F' v H' ⟨es, d', ed, _, _, hm, hh, z⟩ s S' r => ?_, kE⟩
    subst ed
    cases r
    obtain ⟨_, o, ho, kvs, rfl, l, rr⟩ := S'.mem _ _ hm
    obtain ⟨u, h1, h2⟩ := hh.rep l rr
    exact ⟨rfl, rfl, dd, kvs, u, rfl, ho, h1, kQ _ M' F' _ H' z s S' h2⟩
  · refine wpAny_mono (attr_of hb (thn (he.run pins s σ H (fun _ _ => False) I ⟨ρ, M, F, _, E, S, En, q, fun d M' F' v H' ⟨es, d', ed, h1, h2, _⟩ s S' r => hT ⟨h1, h2⟩, kE⟩) fun u s1 hh => ?_)) (fun _ _ z => z) (fun _ _ z => z)
    obtain ⟨_, _, _, _, z⟩ := hh
    exact z.elim
end
end DL
namespace DL
variable [Wd]
open PySem L2
section
variable {X : Cx} {g : G} {W : WX} {pos : Pos} {a b c e : Expr} {es : List Expr} {de : DE} {dt : DT}
/-! ### list comprehensions -/
/-- a target: a name, or a tuple of names -/
inductive CT where
  | nm (i : Nat) | tp (is : List Nat)
def putAll : Rho → List Nat → List D → Rho
  | ρ, i :: is, d :: ds => putAll (put ρ i (some d)) is ds
  | ρ, _, _ => ρ
def CT.go : CT → D → Rho → (Rho → Prop) → Prop
  | .nm i, d, ρ, k => k (put ρ i (some d))
  | .tp is, d, ρ, k => ∃ ds, d = .tup ds ∧ ds.length = is.length ∧ k (putAll ρ is ds)
def gNs : List Nat → TGs
  | [] => gNil
  | i :: is => gCons (gName i) (gNs is)
def CT.tg (K : PySem.W.Frag) : CT → TG
  | .nm i => gName i
  | .tp is => gTup K is.length (gNs is)
def CT.slots : CT → List Nat
  | .nm i => [i]
  | .tp is => is
def setAll : L2.St → List Nat → List V → L2.St
  | σ, i :: is, v :: vs => setAll (σ.set i (some v)) is vs
  | σ, _, _ => σ
theorem gNs_set : ∀ {is : List Nat} {xs : List V} {σ : L2.St} {H : Hp} {k : L2.St → Hp → Prop}, xs.length = is.length → k (setAll σ is xs) H → gNs is xs σ H k
  | [], [], _, _, _, _, h => ⟨rfl, h⟩
  | [], _ :: _, _, _, _, e, _ => by cases e
  | _ :: _, [], _, _, _, e, _ => by cases e
  | i :: is, x :: xs, σ, H, k, e, h => ⟨x, xs, rfl, gNs_set (Nat.succ.inj e) h⟩
theorem enr_setAll {K : PySem.W.Frag} {F : Hp} : ∀ {is : List Nat} {xs : List V} {ds : List D} {σ : L2.St} {ρ : Rho}, Reps K F xs ds → Enr K F σ ρ → Enr K F (setAll σ is xs) (putAll ρ is ds)
  | [], _, _, _, _, _, En => by unfold setAll putAll; exact En
  | _ :: _, _, _, _, _, .nil, En => En
  | i :: is, _, _, σ, ρ, .cons r t, En => enr_setAll (is := is) t (En.set i r)
def wipeD : Rho → List Nat → Rho
  | ρ, [] => ρ
  | ρ, v :: vs => put (wipeD ρ vs) v none
theorem enr_wipe {K : PySem.W.Frag} {F : Hp} {σ : L2.St} {ρ : Rho} (En : Enr K F σ ρ) : ∀ vs : List Nat, Enr K F (wipe σ vs) (wipeD ρ vs)
  | [] => En
  | v :: vs => (enr_wipe En vs).unset v none
theorem get_wipe (σ : L2.St) (j : Nat) : ∀ vs : List Nat, (wipe σ vs)[j]? = if j ∈ vs then (if j < σ.length then some none else none) else σ[j]?
  | [] => by simp [wipe]
  | v :: vs => by
    unfold wipe
    by_cases h : j = v
    · subst h
      rw [if_pos List.mem_cons_self]
      by_cases hl : j < σ.length
      · rw [if_pos hl, List.getElem?_set_self (by rw [wipe_length]; exact hl)]
      · rw [if_neg hl, List.getElem?_eq_none]
        rw [List.length_set, wipe_length]
        omega
    · rw [List.getElem?_set_ne (fun e => h e.symm), get_wipe σ j vs]
      by_cases hm : j ∈ vs
      · rw [if_pos hm, if_pos (List.mem_cons_of_mem _ hm)]
      · rw [if_neg hm, if_neg (fun z => (List.mem_cons.mp z).elim h hm)]
theorem wipe_set {σ : L2.St} {vs : List Nat} {i : Nat} {x : Option V} (h : i ∈ vs) : wipe ((wipe σ vs).set i x) vs = wipe σ vs := by
  apply List.ext_getElem?
  intro j
  rw [get_wipe, get_wipe, List.length_set, wipe_length]
  by_cases hm : j ∈ vs
  · rw [if_pos hm, if_pos hm]
  · rw [if_neg hm, if_neg hm, List.getElem?_set_ne (fun e => hm (by rw [← e]; exact h)), get_wipe, if_neg hm]
theorem wipe_of {σ τ : L2.St} {vs : List Nat} {i : Nat} {x : Option V} (h : i ∈ vs) (e : wipe τ vs = wipe σ vs) : wipe (τ.set i x) vs = wipe σ vs := by
  rw [← e]
  apply List.ext_getElem?
  intro j
  rw [get_wipe, get_wipe, List.length_set]
  by_cases hm : j ∈ vs
  · rw [if_pos hm, if_pos hm]
  · rw [if_neg hm, if_neg hm, List.getElem?_set_ne (fun e => hm (by rw [← e]; exact h))]
theorem wipe_setAll {σ : L2.St} {vs : List Nat} : ∀ {is : List Nat} {xs : List V} {τ : L2.St}, (∀ i ∈ is, i ∈ vs) → wipe τ vs = wipe σ vs → wipe (setAll τ is xs) vs = wipe σ vs
  | [], _, _, _, e => by unfold setAll; exact e
  | _ :: _, [], _, _, e => e
  | i :: is, x :: xs, τ, h, e => wipe_setAll (is := is) (xs := xs) (fun j hj => h j (List.mem_cons_of_mem _ hj)) (wipe_of (h i List.mem_cons_self) e)
theorem wipe_wipe {σ : L2.St} (vs : List Nat) : wipe (wipe σ vs) vs = wipe σ vs := by
  apply List.ext_getElem?
  intro j
  rw [get_wipe, get_wipe, wipe_length]
  by_cases hm : j ∈ vs
  · rw [if_pos hm, if_pos hm]
  · rw [if_neg hm, if_neg hm]
def noE : XD := fun _ _ _ => False
/-- the turns: what is left, what stands so far -/
def goC (ct : CT) (dt : DT) (de : DE) (st : Mem → Prop) (ρ : Rho) (Q : List D → Mem → Prop) : List D → List D → Mem → Prop
  | [], acc, M => st M ∧ Q acc M
  | d :: ds, acc, M => st M ∧ ct.go d ρ (fun ρ' => dt ρ' M (fun b M2 => if b = true then de ρ' M2 (fun e M3 => goC ct dt de st ρ Q ds (acc ++ [e]) M3) noE else goC ct dt de st ρ Q ds acc M2) noE)
def dLc (di : DI) (ct : CT) (dt : DT) (de : DE) (vs : List Nat) : DE := fun ρ M Q E => di ρ M (fun ds st M1 => ds.length < sizeLine ∧ goC ct dt de st (wipeD ρ vs) (fun acc M2 => NewL acc M2 Q) ds [] M1) E
def dYes : DT := fun _ M Q _ => Q true M
theorem dts_nil : PTs X [] (liftT g W dYes) := ⟨fun pins s σ H k I ⟨ρ, M, F, Q, E, S, En, q, kQ, _⟩ => pts_nil.run pins s σ H k I (kQ true M F H q (Same.r F) S)⟩
theorem dts_one (h : PT X c (liftT g W dt)) : PTs X [c] (liftT g W dt) := pts_one h
theorem lift_lc {di : DI} {ct : CT} {vs : List Nat} {K : PySem.W.Frag} {U : Hp} {tt : TT} {te : TE} (hv : ∀ i ∈ ct.slots, i ∈ vs) (ht : ∀ U σ H k, liftT ⟨K, U⟩ W0 dt σ H k → tt σ H k) (he : ∀ U σ H k, liftE ⟨K, U⟩ W0 de σ H k → te σ H k) {σ : L2.St} {H : Hp} {k : VK}
    (h : liftE ⟨K, U⟩ W (dLc di ct dt de vs) σ H k) : tLc (liftI ⟨K, U⟩ W di) (ct.tg K) tt te vs σ H k := by
  obtain ⟨ρ, M, F, Q, E, S, En, q, kQ, kE⟩ := h
  refine ⟨ρ, M, F, _, _, S, En, q, fun its st M1 U1 V F1 J H1 ⟨hz, q1⟩ su sv s1 S1 Y => fun p hp => ?_, kE⟩
  -- the state of a turn: p's list apart from all else
  refine ⟨fun i m H => m = its.length - i ∧ i ≤ its.length ∧ ∃ acc xs M F', acc.length ≤ i ∧ Same F1 F' ∧ Sta ⟨K, U1⟩ F' M H ∧ H p = some (.lst xs) ∧ F' p = none ∧ (∀ m, (p, m) ∉ M) ∧ U1 p = none ∧ Reps K F' xs acc ∧
    goC ct dt de st (wipeD ρ vs) (fun acc M2 => NewL acc M2 Q) (its.drop i) acc M, ⟨_, rfl, Nat.zero_le _, [], [], M1, F1, Nat.le_refl _, Same.r F1, S1.grow hp, upd_same, S1.sub.none hp, S1.fresh hp, ?_, .nil, q1⟩, ?_⟩
  · cases e : U1 p with
    | none => rfl
    | some o =>
      have := (S1.out p o e).1
      rw [hp] at this
      cases this
  rintro i m H2 ⟨rfl, hi, acc, xs, M2, F2, ha, s2, S2, hpH, hpF, hpM, hpU, ra, q2⟩
  by_cases hlt : i < its.length
  · rw [List.drop_eq_getElem_cons hlt] at q2
    obtain ⟨hst, q3⟩ := q2
    -- p among what others hold
    have S2' : Sta ⟨K, upd U1 p (.lst xs)⟩ F2 M2 H2 := ⟨S2.sub, fun b o hb => by
      by_cases hbp : b = p
      · subst hbp
        have hb' : (upd U1 b (.lst xs)) b = some o := hb
        rw [upd_same] at hb'
        cases hb'
        exact ⟨hpH, .inl hpF, hpM⟩
      · have hb' : (upd U1 p (.lst xs)) b = some o := hb
        rw [upd_ne hbp] at hb'
        exact S2.out b o hb', S2.mem, S2.nd⟩
    have sup : Same U1 (upd U1 p (.lst xs)) := fun b o hb => by rw [upd_ne (ne_of_none hb hpU)]; exact hb
    obtain ⟨g1, g2⟩ := Y.go i its[i] _ F2 M2 H2 (sv.t sup) s2 S2' hst (by simp [hlt])
    -- back
    have back : ∀ {F : Hp} {M : Mem} {H : Hp}, Sta ⟨K, upd U1 p (.lst xs)⟩ F M H → Sta ⟨K, U1⟩ F M H ∧ H p = some (.lst xs) ∧ F p = none ∧ (∀ m, (p, m) ∉ M) := fun {F M H} S => by
      obtain ⟨u1, u2', u3⟩ := S.out p (.lst xs) upd_same
      have u2 : F p = none := by
        rcases u2' with h | ⟨_, _, h, _⟩
        · exact h
        · cases h
      refine ⟨⟨S.sub, fun b o hb => S.out b o ?_, S.mem, S.nd⟩, u1, u2, u3⟩
      have hbp : b ≠ p := fun z => by
        subst z
        have hb' : U1 b = some o := hb
        rw [hpU] at hb'
        cases hb'
      show (upd U1 p (.lst xs)) b = some o
      rw [upd_ne hbp]
      exact hb
    refine .inr ⟨g1, fun H' => i + 1 ≤ its.length ∧ ∃ acc xs M F', acc.length ≤ i + 1 ∧ Same F1 F' ∧ Sta ⟨K, U1⟩ F' M H' ∧ H' p = some (.lst xs) ∧ F' p = none ∧ (∀ m, (p, m) ∉ M) ∧ U1 p = none ∧ Reps K F' xs acc ∧
      goC ct dt de st (wipeD ρ vs) (fun acc M2 => NewL acc M2 Q) (its.drop (i + 1)) acc M, fun H' pr => ⟨_, by omega, rfl, pr⟩, fun x H' y => ?_⟩
    obtain ⟨F3, s3, S3, r3⟩ := g2 x H' y
    have s13 := s2.t s3
    -- behind the target
    have inner : ∀ σ2 ρ2, wipe σ2 vs = wipe σ vs → Enr K F3 σ2 ρ2 → dt ρ2 M2 (fun b M3 => if b = true then de ρ2 M3 (fun e M4 => goC ct dt de st (wipeD ρ vs) (fun acc M2 => NewL acc M2 Q) (its.drop (i + 1)) (acc ++ [e]) M4) noE
        else goC ct dt de st (wipeD ρ vs) (fun acc M2 => NewL acc M2 Q) (its.drop (i + 1)) acc M3) noE →
        wipe σ2 vs = wipe σ vs ∧ tt σ2 H' fun b H3 => if b = true then te σ2 H3 fun y H4 => ∃ acc, H4 p = some (.lst acc) ∧ acc.length < sizeLine ∧ (i + 1 ≤ its.length ∧ ∃ acc' xs M F', acc'.length ≤ i + 1 ∧ Same F1 F' ∧ Sta ⟨K, U1⟩ F' M (upd H4 p (.lst (acc ++ [y]))) ∧ (upd H4 p (.lst (acc ++ [y]))) p = some (.lst xs) ∧ F' p = none ∧ (∀ m, (p, m) ∉ M) ∧ U1 p = none ∧ Reps K F' xs acc' ∧
          goC ct dt de st (wipeD ρ vs) (fun acc M2 => NewL acc M2 Q) (its.drop (i + 1)) acc' M) else (i + 1 ≤ its.length ∧ ∃ acc xs M F', acc.length ≤ i + 1 ∧ Same F1 F' ∧ Sta ⟨K, U1⟩ F' M H3 ∧ H3 p = some (.lst xs) ∧ F' p = none ∧ (∀ m, (p, m) ∉ M) ∧ U1 p = none ∧ Reps K F' xs acc ∧
          goC ct dt de st (wipeD ρ vs) (fun acc M2 => NewL acc M2 Q) (its.drop (i + 1)) acc M) := by
      intro σ2 ρ2 hw En2 q4
      refine ⟨hw, ht (upd U1 p (.lst xs)) _ _ _ ⟨ρ2, M2, F3, _, _, S3, En2, q4, fun b M4 F4 H4 q5 s4 S4 => ?_, fun _ _ _ _ _ z => z.elim⟩⟩
      cases b with
      | false =>
        rw [if_neg Bool.false_ne_true] at q5 ⊢
        obtain ⟨S4', u1, u2, u3⟩ := back S4
        exact ⟨hlt, acc, xs, M4, F4, by omega, s13.t s4, S4', u1, u2, u3, hpU, (ra.mono s3).mono s4, q5⟩
      | true =>
        rw [if_pos rfl] at q5 ⊢
        refine he (upd U1 p (.lst xs)) _ _ _ ⟨ρ2, M4, F4, _, _, S4, En2.mono s4, q5, fun d M5 F5 v H5 q6 s5 S5 r5 => ?_, fun _ _ _ _ _ z => z.elim⟩
        obtain ⟨S5', u1, u2, u3⟩ := back S5
        have hl : xs.length < sizeLine := by rw [ra.length]; omega
        refine ⟨xs, u1, hl, hlt, acc ++ [d], xs ++ [v], M5, F5, by rw [List.length_append]; simp; omega, (s13.t s4).t s5, ?_, upd_same, u2, u3, hpU, (((ra.mono s3).mono s4).mono s5).append (.cons r5 .nil), q6⟩
        refine ⟨fun b o hb => ?_, fun b o hb => ?_, fun b m hm => ?_, S5'.nd⟩
        · rw [upd_ne (ne_of_none hb u2)]
          exact S5'.sub b o hb
        · have hbp : b ≠ p := fun z => by
            subst z
            have hb' : U1 b = some o := hb
            rw [hpU] at hb'
            cases hb'
          rw [upd_ne hbp]
          exact S5'.out b o hb
        · have hbp : b ≠ p := fun z => by
            subst z
            exact u3 m hm
          rw [upd_ne hbp]
          exact S5'.mem b m hm
    have En3 : Enr K F3 (wipe σ vs) (wipeD ρ vs) := enr_wipe (En.mono (s1.t s13)) vs
    cases ct with
    | nm j => exact inner _ _ (wipe_set (hv j List.mem_cons_self)) (En3.set j r3) q3
    | tp is =>
      obtain ⟨ds, ed, hl, q4⟩ := q3
      rw [ed] at r3
      cases r3 with
      | tup hs rr =>
        exact ⟨_, _, rfl, S3.sub.sqT hs, by rw [rr.length]; exact hl, gNs_set (by rw [rr.length]; exact hl) (inner _ _ (wipe_setAll (fun j hj => hv j hj) (wipe_wipe vs)) (enr_setAll rr En3) q4)⟩
  · have e : its.drop i = [] := List.drop_eq_nil_of_le (by omega)
    rw [e] at q2
    refine .inl ⟨Y.stop i U1 F2 M2 H2 sv s2 S2 q2.1 (by omega), ?_⟩
    obtain ⟨_, q4⟩ := q2
    rcases q4 with q4 | q4
    · -- the list is frozen
      have s : Same F2 (upd F2 p (.lst xs)) := fun b w hb => by rw [upd_ne (ne_of_none hb hpF)]; exact hb
      refine kQ _ M2 (upd F2 p (.lst xs)) _ H2 q4 ((s1.t s2).t s) (Sta.less (U' := U1) ⟨fun b o hb => ?_, fun b o hb => ?_, fun b m hm => ?_, S2.nd⟩ su) (.lst upd_same (ra.mono s))
      · by_cases hbp : b = p
        · subst hbp
          rw [upd_same] at hb
          cases hb
          exact .inl hpH
        · rw [upd_ne hbp] at hb
          exact S2.sub b o hb
      · have hbp : b ≠ p := fun z => by
          subst z
          have hb' : U1 b = some o := hb
          rw [hpU] at hb'
          cases hb'
        obtain ⟨o1, o2, o3⟩ := S2.out b o hb
        exact ⟨o1, o2.ext (upd_ne hbp), o3⟩
      · have hbp : b ≠ p := fun z => by
          subst z
          exact hpM m hm
        rw [upd_ne hbp]
        obtain ⟨h1, w, h2, h3⟩ := S2.mem b m hm
        exact ⟨h1, w, h2, h3.mono s⟩
    · refine kQ _ _ F2 _ H2 (q4 p hpM) (s1.t s2) (Sta.less (U' := U1) ⟨S2.sub, fun b o hb => ?_, fun b m hm => ?_, ?_⟩ su) (.ptr p)
      · obtain ⟨u1, u2, u3⟩ := S2.out b o hb
        refine ⟨u1, u2, fun m hm => ?_⟩
        rcases List.mem_cons.mp hm with z | z
        · have e : b = p := congrArg Prod.fst z
          subst e
          have hb' : U1 b = some o := hb
          rw [hpU] at hb'
          cases hb'
        · exact u3 m z
      · rcases List.mem_cons.mp hm with z | z
        · cases z
          exact ⟨hpF, _, hpH, xs, rfl, ra⟩
        · exact S2.mem b m z
      · refine List.nodup_cons.mpr ⟨fun z => ?_, S2.nd⟩
        obtain ⟨q, hq, e⟩ := List.mem_map.mp z
        obtain ⟨b, n⟩ := q
        cases e
        exact hpM n hq
theorem de_lc {elt tg iter : Expr} {ifs : List Expr} {scope : Scope} {own : List (Str × Nat)} {di : DI} {ct : CT} (hc : X.calm = true) (hK : g.K = X.K) (hN : X.N.Nodup) (hi : PI X tg iter (liftI g W di)) (ok : BlkOk X.N X.env.scope scope own)
    (hv : ∀ i ∈ ct.slots, i ∈ own.map (·.2))
    (hg : ∀ (s : Shared) (H : Hp) (C : Addr) (cl : List (Str × Addr)) (fp : List Addr), PG (X.blk s H scope (PySem.compEnvC scope cl C X.env) fp) tg (ct.tg X.K))
    (ht : ∀ (U : Hp) (s : Shared) (H : Hp) (C : Addr) (cl : List (Str × Addr)) (fp : List Addr), PTs (X.blk s H scope (PySem.compEnvC scope cl C X.env) fp) ifs (liftT ⟨X.K, U⟩ W0 dt))
    (he : ∀ (U : Hp) (s : Shared) (H : Hp) (C : Addr) (cl : List (Str × Addr)) (fp : List Addr), PE (X.blk s H scope (PySem.compEnvC scope cl C X.env) fp) elt (liftE ⟨X.K, U⟩ W0 de)) (hs : ∀ x, foldedSetIterable iter X.env x = pure x := by intro _; rfl) :
    PE X (.ListComp elt [⟨tg, iter, ifs, 0⟩] scope pos) (liftE g W (dLc di ct dt de (own.map (·.2)))) := by
  obtain ⟨K0, U⟩ := g
  simp only at hK
  subst hK
  exact PE.imp (pe_lc (tt := fun σ H k => ∃ U, liftT ⟨X.K, U⟩ W0 dt σ H k) (te := fun σ H k => ∃ U, liftE ⟨X.K, U⟩ W0 de σ H k) hc hN hi ok hg (fun s H C cl fp => ⟨fun pins s1 σ H1 Q I ⟨U, q⟩ => (ht U s H C cl fp).run pins s1 σ H1 Q I q⟩)
    (fun s H C cl fp => ⟨fun pins s1 σ H1 Q I ⟨U, q⟩ => (he U s H C cl fp).run pins s1 σ H1 Q I q⟩) hs) fun σ H k h => lift_lc hv (fun U σ H k q => ⟨U, q⟩) (fun U σ H k q => ⟨U, q⟩) h
/-- y = [..] -/
theorem ds_setLc {i : Nat} {y : Str} {py spos : Pos} {elt tg iter : Expr} {ifs : List Expr} {scope : Scope} {own : List (Str × Nat)} {di : DI} {ct : CT} (hc : X.calm = true) (hK : g.K = X.K) (hN : X.N.Nodup) (hy : X.N[i]? = some y) (hyl : X.env.scope.names.lookup y = some .local)
    (hsw : swapsWith (.ListComp elt [⟨tg, iter, ifs, 0⟩] scope pos) (some (.Name y py)) spos.line X.env = pure true) (hi : PI X tg iter (liftI g W di)) (ok : BlkOk X.N X.env.scope scope own)
    (hv : ∀ i ∈ ct.slots, i ∈ own.map (·.2))
    (hg : ∀ (s : Shared) (H : Hp) (C : Addr) (cl : List (Str × Addr)) (fp : List Addr), PG (X.blk s H scope (PySem.compEnvC scope cl C X.env) fp) tg (ct.tg X.K))
    (ht : ∀ (U : Hp) (s : Shared) (H : Hp) (C : Addr) (cl : List (Str × Addr)) (fp : List Addr), PTs (X.blk s H scope (PySem.compEnvC scope cl C X.env) fp) ifs (liftT ⟨X.K, U⟩ W0 dt))
    (he : ∀ (U : Hp) (s : Shared) (H : Hp) (C : Addr) (cl : List (Str × Addr)) (fp : List Addr), PE (X.blk s H scope (PySem.compEnvC scope cl C X.env) fp) elt (liftE ⟨X.K, U⟩ W0 de)) (hs : ∀ x, foldedSetIterable iter X.env x = pure x := by intro _; rfl) :
    PS X (.Assign [.Name y py] (.ListComp elt [⟨tg, iter, ifs, 0⟩] scope pos) spos) (liftS g W (sAsg (dLc di ct dt de (own.map (·.2))) (gNm i))) := by
  obtain ⟨K0, U⟩ := g
  simp only at hK
  subst hK
  refine PS.imp (ps_setLc (tt := fun σ H k => ∃ U, liftT ⟨X.K, U⟩ W0 dt σ H k) (te := fun σ H k => ∃ U, liftE ⟨X.K, U⟩ W0 de σ H k) hc hN hy hyl hsw hi ok hg (fun s H C cl fp => ⟨fun pins s1 σ H1 Q I ⟨U, q⟩ => (ht U s H C cl fp).run pins s1 σ H1 Q I q⟩)
    (fun s H C cl fp => ⟨fun pins s1 σ H1 Q I ⟨U, q⟩ => (he U s H C cl fp).run pins s1 σ H1 Q I q⟩) hs) fun D σ H ⟨ρ, M, F, nx, rt, bk, ct', ex, S, En, q, k1, k2, k3, k4, k5⟩ => ?_
  refine lift_lc (W := W) hv (fun U σ H k q => ⟨U, q⟩) (fun U σ H k q => ⟨U, q⟩) ⟨ρ, M, F, _, _, S, En, q, fun d M' F' v H' z s S' r => ?_, fun C dd M' F' H' z s S' => k5 C dd ρ M' F' σ H' z s S' (En.mono s)⟩
  exact k1 _ M' F' _ H' z s S' ((En.mono s).set i r)
/-- by an invariant: what is made so far, and the memory -/
theorem goC_inv {ct : CT} {st : Mem → Prop} {ρ : Rho} {Q : List D → Mem → Prop} {its : List D} (P : Nat → List D → Mem → Prop) (hst : ∀ i acc M, P i acc M → st M)
    (hs : ∀ i d acc M, its[i]? = some d → P i acc M → ct.go d ρ (fun ρ' => dt ρ' M (fun b M2 => if b = true then de ρ' M2 (fun e M3 => P (i + 1) (acc ++ [e]) M3) noE else P (i + 1) acc M2) noE))
    (mono : ∀ d ρ M (P1 P1' : D → Mem → Prop) (P0 P0' : Mem → Prop), (∀ e M, P1 e M → P1' e M) → (∀ M, P0 M → P0' M) → ct.go d ρ (fun ρ' => dt ρ' M (fun b M2 => if b = true then de ρ' M2 P1 noE else P0 M2) noE) →
      ct.go d ρ (fun ρ' => dt ρ' M (fun b M2 => if b = true then de ρ' M2 P1' noE else P0' M2) noE))
    (hd : ∀ acc M, P its.length acc M → Q acc M) {acc : List D} {M : Mem} (h0 : P 0 acc M) : goC ct dt de st ρ Q its acc M := by
  have key : ∀ (n i : Nat) (acc : List D) (M : Mem), i + n = its.length → P i acc M → goC ct dt de st ρ Q (its.drop i) acc M := by
    intro n
    induction n with
    | zero =>
      intro i acc M hi p
      have e : its.drop i = [] := List.drop_eq_nil_of_le (by omega)
      rw [e]
      have : i = its.length := by omega
      subst this
      exact ⟨hst _ _ _ p, hd _ _ p⟩
    | succ n ih =>
      intro i acc M hi p
      have hlt : i < its.length := by omega
      rw [List.drop_eq_getElem_cons hlt]
      exact ⟨hst _ _ _ p, mono _ _ _ _ _ _ _ (fun e M3 p' => ih (i + 1) _ M3 (by omega) p') (fun M2 p' => ih (i + 1) _ M2 (by omega) p') (hs i its[i] acc M (by simp [hlt]) p)⟩
  have := key its.length 0 acc M (by omega) h0
  rwa [List.drop_zero] at this
/-- each item gives one value, or none; nothing changes -/
theorem goC_pure {ct : CT} {st : Mem → Prop} {ρ : Rho} {Q : List D → Mem → Prop} {M : Mem} (p : D → Bool) (f : D → D) (hst : st M) :
    ∀ {its acc : List D}, (∀ d, d ∈ its → ∀ (P1 : D → Mem → Prop) (P0 : Mem → Prop), (p d = true → P1 (f d) M) → (p d = false → P0 M) → ct.go d ρ (fun ρ' => dt ρ' M (fun b M2 => if b = true then de ρ' M2 P1 noE else P0 M2) noE)) →
      Q (acc ++ (its.filter p).map f) M → goC ct dt de st ρ Q its acc M
  | [], acc, _, hQ => ⟨hst, by simpa using hQ⟩
  | d :: ds, acc, h, hQ => by
    refine ⟨hst, h d List.mem_cons_self _ _ (fun hp => ?_) fun hp => ?_⟩
    · refine goC_pure p f hst (fun e he => h e (List.mem_cons_of_mem _ he)) ?_
      rw [List.filter_cons, if_pos hp] at hQ
      simpa using hQ
    · refine goC_pure p f hst (fun e he => h e (List.mem_cons_of_mem _ he)) ?_
      rw [List.filter_cons, if_neg (by rw [hp]; exact Bool.false_ne_true)] at hQ
      exact hQ
end
end DL
namespace DL
variable [Wd]
open PySem L2
section
variable {X : Cx} {g : G} {W : WX} {pos : Pos} {a b c e o i : Expr} {es : List Expr} {da db dc de do_ di_ : DE} {dA : DA} {x f m : Str} {p apos cpos : Pos}
/-! ### a frozen dict is held while it is walked -/
def tLk (td : TE) : TE := fun σ H Q => td σ H fun x H1 => ∃ d u, x = .ref d ∧ ((∃ z, H1 d = some (.frz z u) ∧ Q x H1) ∨ (H1 d = some u ∧ Mut (some u) ∧ ∀ z, Q x (upd H1 d (.frz z u))))
theorem pe_lk {td : TE} (h : PE X e td) : PE X e (tLk td) := by
  refine ⟨fun pins s σ H Q I q => thn (h.run pins s σ H _ I q) fun v s1 ⟨x, H1, I1, rx, d, u, ex, q1⟩ => ?_⟩
  subst ex
  rcases q1 with ⟨z, _, q1⟩ | ⟨hd, mu, q1⟩
  · exact ⟨_, H1, I1, rx, q1⟩
  · obtain ⟨z, I2⟩ := I1.lock hd mu
    exact ⟨_, _, I2, rx, q1 z⟩
theorem sta_hold {K : PySem.W.Frag} {U F : Hp} {M : Mem} {H : Hp} {a : Addr} {u : HO} {z : Obj} (S : Sta ⟨K, U⟩ F M H) (hF : F a = some u) (hd : isDct u = true) (hH : H a = some (.frz z u)) : Sta ⟨K, upd U a (.frz z u)⟩ F M H ∧ Same U (upd U a (.frz z u)) := by
  refine ⟨⟨S.sub, fun b w hb => ?_, S.mem, S.nd⟩, fun b w hb => ?_⟩
  · by_cases e : b = a
    · subst e
      have hb' : upd U b (.frz z u) b = some w := hb
      rw [upd_same] at hb'
      cases hb'
      exact ⟨hH, .inr ⟨z, u, rfl, hF, hd⟩, fun m hm => by rw [(S.mem b m hm).1] at hF; cases hF⟩
    · have hb' : upd U a (.frz z u) b = some w := hb
      rw [upd_ne e] at hb'
      exact S.out b w hb'
  · by_cases e : b = a
    · subst e
      obtain ⟨h1, _⟩ := S.out b w hb
      rw [hH] at h1
      cases h1
      exact upd_same
    · rw [upd_ne e]; exact hb
/-- what a walk over a locked dict needs -/
theorem lock_dic {F : Hp} {M : Mem} {H : Hp} {v : V} {xs : List (Key × D)} {R : V → Hp → Prop} (S : Sta g F M H) (r : Rep g.K F v (.dic xs))
    (h : ∀ d z kvs U' H', v = .ref d → F d = some (.dK kvs) → H' d = some (.frz z (.dK kvs)) → (∃ V, V d = some (.frz z (.dK kvs)) ∧ Same V U' ∧ ∀ b o, V b = some o → ∃ z u, o = HO.frz z u) → Same g.U U' → Sta ⟨g.K, U'⟩ F M H' → kvs.map (·.1) = xs.map (·.1) → Reps g.K F (kvs.map (·.2)) (xs.map (·.2)) → R v H') :
    ∃ d u, v = .ref d ∧ ((∃ z, H d = some (.frz z u) ∧ R v H) ∨ (H d = some u ∧ Mut (some u) ∧ ∀ z, R v (upd H d (.frz z u)))) := by
  obtain ⟨K, U⟩ := g
  cases r with
  | dic e l r =>
    rename_i kvs
    refine ⟨_, .dK kvs, rfl, ?_⟩
    have lone : ∀ (d : Addr) (z : Obj) (U' : Hp) (u : HO), U' d = some (.frz z u) → ∃ V : Hp, V d = some (.frz z u) ∧ Same V U' ∧ ∀ b o, V b = some o → ∃ z u, o = HO.frz z u := fun d z U' u hU => by
      refine ⟨upd noH d (.frz z u), upd_same, fun b w hb => ?_, fun b w hb => ?_⟩
      · by_cases e : b = d
        · subst e
          rw [upd_same] at hb
          cases hb
          exact hU
        · rw [upd_ne e] at hb
          cases hb
      · by_cases e : b = d
        · subst e
          rw [upd_same] at hb
          cases hb
          exact ⟨_, _, rfl⟩
        · rw [upd_ne e] at hb
          cases hb
    rcases S.sub.dK e with q | ⟨z, q⟩
    · refine .inr ⟨q, trivial, fun z => ?_⟩
      obtain ⟨S', hU⟩ := S.lock (z := z) e rfl q
      exact h _ z _ _ _ rfl e upd_same (lone _ z _ _ upd_same) (fun b w hb => by rw [upd_ne (ne_of_none hb hU)]; exact hb) S' l r
    · obtain ⟨S', su⟩ := sta_hold S e rfl q
      exact .inl ⟨z, q, h _ z _ _ _ rfl e q (lone _ z _ _ upd_same) su S' l r⟩
theorem kv_get {K : PySem.W.Frag} {F : Hp} {kvs : List (Key × V)} {xs : List (Key × D)} (l : kvs.map (·.1) = xs.map (·.1)) (r : Reps K F (kvs.map (·.2)) (xs.map (·.2))) {i : Nat} {k : Key} {v : V} (h : kvs[i]? = some (k, v)) :
    ∃ d, xs[i]? = some (k, d) ∧ Rep K F v d := by
  have h2 : (kvs.map (·.2))[i]? = some v := by rw [List.getElem?_map, h]; rfl
  obtain ⟨d, e, rd⟩ := r.get' h2
  have h1 : (kvs.map (·.1))[i]? = some k := by rw [List.getElem?_map, h]; rfl
  rw [l, List.getElem?_map] at h1
  rw [List.getElem?_map] at e
  cases q : xs[i]? with
  | none => rw [q] at h1; cases h1
  | some y =>
    obtain ⟨k', d'⟩ := y
    rw [q] at h1 e
    cases h1
    cases e
    exact ⟨_, rfl, rd⟩
theorem rep_key {K : PySem.W.Frag} {F : Hp} (k : Key) : Rep K F (kV k) (keyD k) := by
  cases k <;> first | exact .int _ | exact .str _
theorem kvs_len {kvs : List (Key × V)} {xs : List (Key × D)} (l : kvs.map (·.1) = xs.map (·.1)) : kvs.length = xs.length := by
  have e := congrArg List.length l
  rwa [List.length_map, List.length_map] at e
theorem held {K : PySem.W.Frag} {U1 U F : Hp} {M : Mem} {H : Hp} {d : Addr} {o : HO} (hU : U1 d = some o) (su : Same U1 U) (S : Sta ⟨K, U⟩ F M H) : H d = some o := (S.out d o (su _ _ hU)).1
def itemsD (xs : List (Key × D)) : List D := xs.map fun kv => .tup [keyD kv.1, kv.2]
def iItm (de : DE) : DI := fun ρ M Q E => de ρ M (fun d M' => ∃ xs, d = .dic xs ∧ Q (itemsD xs) (fun _ => True) M') E
def iKey (de : DE) : DI := fun ρ M Q E => de ρ M (fun d M' => ∃ xs, d = .dic xs ∧ Q (xs.map fun kv => keyD kv.1) (fun _ => True) M') E
def iVal (de : DE) : DI := fun ρ M Q E => de ρ M (fun d M' => ∃ xs, d = .dic xs ∧ Q (xs.map fun kv => kv.2) (fun _ => True) M') E
theorem di_items {elts : List Expr} {kk : Nat} {tpos : Pos} (he : PE X e (liftE g W de)) (hbase : attributeBase e "items" X.env (eval e X.env) = eval e X.env := by rfl) (hline : (apos.endLine == cpos.line) = true := by rfl) :
    PI X (.Tuple elts kk tpos) (.Call (.Attribute e "items" apos) [] [] cpos) (liftI g W (iItm de)) :=
  (pi_items (pe_lk he) hbase hline).imp fun σ H R ⟨ρ, M, F, Q, E, S, En, q, kQ, kE⟩ => ⟨ρ, M, F, _, E, S, En, q, fun d M' F' v H' ⟨xs, ed, z⟩ s S' r => by
    subst ed
    refine lock_dic (R := fun x H1 => ∃ d o kvs, x = V.ref d ∧ H1 d = some (.frz o (.dK kvs)) ∧ R (Iti d o kvs) H1) S' r fun d zo kvs U' H2 ev hF hH ⟨V, hU, sV, plV⟩ su S2 l rr => ⟨d, zo, kvs, ev, hH, kQ _ _ M' U' V F' _ H2 z su sV s S2 ⟨plV, fun i y U F2 M2 H3 su2 s2 S3 _ ey => ?_, fun i U F2 M2 H3 su2 s2 S3 _ ey => ?_⟩⟩
    · have hlt : i < kvs.length := by
        rw [kvs_len l]
        have := (List.getElem?_eq_some_iff.mp ey).1
        unfold itemsD at this
        rwa [List.length_map] at this
      refine ⟨⟨held hU su2 S3, hlt⟩, fun w H4 ⟨T, k, u, e1, e2, e3, e4⟩ => ?_⟩
      obtain ⟨dv, e5, r5⟩ := kv_get l rr e1
      unfold itemsD at ey
      rw [List.getElem?_map, e5] at ey
      cases ey
      subst e2 e4
      obtain ⟨s4, S4⟩ := S3.newF (o := .tup [kV k, u]) e3
      exact ⟨_, s4, S4, .tup upd_same (.cons (rep_key k) (.cons (r5.mono (s2.t s4)) .nil))⟩
    · refine ⟨held hU su2 S3, ?_⟩
      unfold itemsD at ey
      rw [List.length_map] at ey
      rw [kvs_len l]
      exact ey, kE⟩
theorem di_keys {tg : Expr} (he : PE X e (liftE g W de)) : PI X tg e (liftI g W (iKey de)) :=
  (pi_keys (pe_lk he)).imp fun σ H R ⟨ρ, M, F, Q, E, S, En, q, kQ, kE⟩ => ⟨ρ, M, F, _, E, S, En, q, fun d M' F' v H' ⟨xs, ed, z⟩ s S' r => by
    subst ed
    refine lock_dic (R := fun x H1 => ∃ d o, x = V.ref d ∧ ((∃ kvs, H1 d = some (.frz o (.dK kvs)) ∧ R (Itk d o kvs) H1) ∨ ∃ kvs, H1 d = some (.frz o (.dT kvs)) ∧ R (Itkt d o kvs) H1)) S' r fun d zo kvs U' H2 ev hF hH ⟨V, hU, sV, plV⟩ su S2 l rr => ⟨d, zo, ev, .inl ⟨kvs, hH, kQ _ _ M' U' V F' _ H2 z su sV s S2 ⟨plV, fun i y U F2 M2 H3 su2 s2 S3 _ ey => ?_, fun i U F2 M2 H3 su2 s2 S3 _ ey => ?_⟩⟩⟩
    · have hlt : i < kvs.length := by
        rw [kvs_len l]
        have := (List.getElem?_eq_some_iff.mp ey).1
        rwa [List.length_map] at this
      refine ⟨⟨held hU su2 S3, hlt⟩, fun w H4 ⟨e4, k, u, e1, e2⟩ => ?_⟩
      obtain ⟨dv, e5, r5⟩ := kv_get l rr e1
      rw [List.getElem?_map, e5] at ey
      cases ey
      subst e2 e4
      exact ⟨_, Same.r _, S3, rep_key k⟩
    · refine ⟨held hU su2 S3, ?_⟩
      rw [List.length_map] at ey
      rw [kvs_len l]
      exact ey, kE⟩
theorem di_values {tg : Expr} (he : PE X e (liftE g W de)) (hbase : attributeBase e "values" X.env (eval e X.env) = eval e X.env := by rfl) (hline : (apos.endLine == cpos.line) = true := by rfl) :
    PI X tg (.Call (.Attribute e "values" apos) [] [] cpos) (liftI g W (iVal de)) :=
  (pi_values (pe_lk he) hbase hline).imp fun σ H R ⟨ρ, M, F, Q, E, S, En, q, kQ, kE⟩ => ⟨ρ, M, F, _, E, S, En, q, fun d M' F' v H' ⟨xs, ed, z⟩ s S' r => by
    subst ed
    refine lock_dic (R := fun x H1 => ∃ d o kvs, x = V.ref d ∧ H1 d = some (.frz o (.dK kvs)) ∧ R (Itd d o kvs) H1) S' r fun d zo kvs U' H2 ev hF hH ⟨V, hU, sV, plV⟩ su S2 l rr => ⟨d, zo, kvs, ev, hH, kQ _ _ M' U' V F' _ H2 z su sV s S2 ⟨plV, fun i y U F2 M2 H3 su2 s2 S3 _ ey => ?_, fun i U F2 M2 H3 su2 s2 S3 _ ey => ?_⟩⟩
    · have hlt : i < kvs.length := by
        rw [kvs_len l]
        have := (List.getElem?_eq_some_iff.mp ey).1
        rwa [List.length_map] at this
      refine ⟨⟨held hU su2 S3, hlt⟩, fun w H4 ⟨e4, k, e1⟩ => ?_⟩
      obtain ⟨dv, e5, r5⟩ := kv_get l rr e1
      rw [List.getElem?_map, e5] at ey
      cases ey
      subst e4
      exact ⟨_, Same.r _, S3, r5.mono s2⟩
    · refine ⟨held hU su2 S3, ?_⟩
      rw [List.length_map] at ey
      rw [kvs_len l]
      exact ey, kE⟩
/-! ### {} -/
def NewM (o : MO) (d : D) (M : Mem) (Q : D → Mem → Prop) : Prop := Q d M ∨ ∀ p, (∀ m, (p, m) ∉ M) → Q (.ptr p) ((p, o) :: M)
def dDic : DE := fun _ M Q _ => NewM (.dic []) (.dic []) M Q ∨ NewM (.dit []) (.dit []) M Q
theorem _root_.L2.PE.either {X : Cx} {e : Expr} {t u : TE} (h : PE X e t) (h' : PE X e u) : PE X e (fun σ H k => t σ H k ∨ u σ H k) := ⟨fun pins s σ H k I q => q.elim (fun q => h.run pins s σ H k I q) fun q => h'.run pins s σ H k I q⟩
theorem nk_empty {P : Program} {w : World} {H : Hp} (h : Heap) (hb : sysModules < h.objs.size) : ObjOk P w H (h.push { cls := .type "dict", data := .dict #[] }) h.objs.size (hoN h.objs.size []) :=
  ⟨⟨Nat.zero_le _, beq_eq_false_iff_ne.mpr (Nat.ne_of_gt hb), List.nodup_nil, _, #[], 0, Heap.get?_push_size _ rfl, ⟨rfl, rfl, rfl⟩, rfl, rfl⟩, ⟨_, Heap.get?_push_size _ rfl⟩, fun h1 h2 ⟨a1, a2, a3, o, es, ep, b1, b2⟩ kp => ⟨a1, a2, a3, o, es, ep, kp o b1, b2⟩⟩
theorem pe_dnewN : PE X (.Dict [] [] pos) (fun _ H Q => ∀ p, H p = none → Q (.ref p) (upd H p (hoN p []))) := ⟨fun pins s σ H Q I h =>
  wpAny_Dict_empty ⟨.ref s.heap.objs.size, _, I.laid (a := s.heap.objs.size) (o := hoN s.heap.objs.size []) (t' := s.toks) (fun _ _ q => Heap.get?_push_of_some _ q) (Nat.le_refl _) (nk_empty s.heap I.big), rfl, h _ (I.hok.fresh (Nat.le_refl _))⟩⟩
theorem de_dic : PE X (.Dict [] [] pos) (liftE g W dDic) :=
  (PE.either pe_dnewK pe_dnewN).imp fun σ H k ⟨ρ, M, F, Q, E, S, En, q, kQ, kE⟩ => by
    rcases q with q | q
    · refine .inl fun p hp => ?_
      rcases q with q | q
      · obtain ⟨s, S'⟩ := S.newF (o := .dK []) hp
        exact kQ _ M _ _ _ q s S' (.dic upd_same rfl .nil)
      · exact kQ _ _ F _ _ (q p (S.fresh hp)) (Same.r F) (S.newM (m := .dic []) hp ⟨[], rfl, rfl, .nil⟩) (.ptr p)
    · refine .inr fun p hp => ?_
      rcases q with q | q
      · obtain ⟨s, S'⟩ := S.newF (o := hoN p []) hp
        exact kQ _ M _ _ _ q s S' (.dit upd_same rfl .nil .nil .nil)
      · exact kQ _ _ F _ _ (q p (S.fresh hp)) (Same.r F) (S.newM (m := .dit []) hp ⟨[], rfl, EntI.nil.of⟩) (.ptr p)
/-! ### o[i] = v -/
inductive SetQ (M : Mem) (d : D) (Q : Mem → Prop) : D → D → Prop
  | dic {q : Addr} {k : Key} {xs : List (Key × D)} {M' : Mem} : Upd q (.dic xs) (.dic (putD xs k d)) M M' → xs.length < sizeLine → Q M' → SetQ M d Q (.ptr q) (keyD k)
  | dit {q : Addr} {ds : List D} {k : NestedKey} {xs : List (D × D)} {M' : Mem} : toNK 8 (.tup ds) = some k → Upd q (.dit xs) (.dit (putT xs (.tup ds) k d)) M M' → xs.length < sizeLine → Q M' → SetQ M d Q (.ptr q) (.tup ds)
  | lst {q : Addr} {n : Int} {j : Nat} {ds : List D} {M' : Mem} : Upd q (.lst ds) (.lst (ds.set j d)) M M' → ixN ds.length n = some j → Q M' → SetQ M d Q (.ptr q) (.int n)
def gSub (do_ di_ : DE) : DG := fun d ρ M Q => do_ ρ M (fun o M1 => di_ ρ M1 (fun i M2 => SetQ M2 d (fun M3 => Q ρ M3) o i) fun _ _ _ => False) fun _ _ _ => False
theorem storedH_len {K : Type} [DecidableEq K] {xs : List (K × Addr × Value)} {k : K} {b : Addr} {u : Value} : (storedH xs k b u).length ≤ xs.length + 1 := by
  unfold storedH
  split
  · rw [List.length_map]; exact Nat.le_succ _
  · rw [List.length_append]; exact Nat.le_refl _
theorem set_any (hw : X.w = Wd.w) (hu : X.A.units + 64 < cLine) : PSet X (fun o i v H Q => ∃ F M d oD iD Qd, Sta g F M H ∧ Rep g.K F o oD ∧ Rep g.K F i iD ∧ Rep g.K F v d ∧ SetQ M d Qd oD iD ∧ ∀ M' H', Qd M' → Sta g F M' H' → Q H') := by
  intro pins s σ H o i v ov iv u Q I ro ri rv h
  obtain ⟨F, M, d, oD, iD, Qd, S, r1, r2, r3, q, kQ⟩ := h
  cases q with
  | dic hu2 hl z =>
    cases r1
    obtain rfl := key_rep r2
    obtain ⟨_, w, hw, kvs, rfl, l, rr⟩ := S.mem _ _ hu2.old
    have hl' : kvs.length < sizeLine := by rw [kvs_len l]; exact hl
    obtain ⟨p1, p2⟩ := put_rep _ l rr r3
    exact set_dict (by omega) pins s σ H _ _ v ov iv u Q I ro ri rv ⟨_, _, rfl, DPut.k hw hl', kQ _ _ z (S.upd hu2 ⟨_, rfl, p1, p2⟩)⟩
  | dit hk hu2 hl z =>
    cases r1
    obtain ⟨_, w, hw', xs, rfl, en⟩ := S.mem _ _ hu2.old
    obtain ⟨dd, hz, hy⟩ := nk_dict hw I S (.inl hw') en.to
    obtain rfl : ov = Value.ref _ := ro
    cases r2 with
    | tup hb rb =>
      obtain rfl : iv = Value.ref _ := ri
      obtain ⟨b1, b2⟩ := rep_nk I S 8 _ _ _ _ hk (.tup hb rb) rfl
      refine wpAny_setItem_heap (knd := nestedKind X.prog X.w) (hsz := hz) (room_in1 hu) ⟨b1, b2⟩ dd fun h' dd' hs => ?_
      have en' := (en.to.put hk (.tup hb rb) rv r3)
      have he : ∃ q, h'.get? _ = some q := let ⟨q, _, _, hq, _⟩ := dd'; ⟨q, hq⟩
      exact ⟨_, d_write I (by rw [hw']; exact True.intro) hs he (nk_new hw dd' (Nat.le_trans storedH_len (show xs.length + 1 ≤ sizeLine by rw [en.to.length]; exact hl)) hy), kQ _ _ z (S.upd hu2 ⟨_, rfl, en'.of⟩)⟩
  | lst hu2 hj z =>
    cases r1
    cases r2
    obtain ⟨_, w, hw, xs, rfl, rr⟩ := S.mem _ _ hu2.old
    exact set_list pins s σ H _ _ v ov iv u Q I ro ri rv ⟨_, xs, _, _, rfl, rfl, hw, by rw [rr.length]; exact hj, kQ _ _ z (S.upd hu2 ⟨_, rfl, rr.set r3 _⟩)⟩
theorem dg_sub (hw : X.w = Wd.w) (hu : X.A.units + 64 < cLine) (ho : PE X o (liftE g W0 do_)) (hi : PE X i (liftE g W0 di_))
    (ha : ∀ v, assign (.Subscript o i pos) X.env v = (do
      let ov ← holding [v] (eval o X.env)
      let iv ← holding [v, ov] (eval i X.env)
      standAt pos
      holding [v, ov, iv] (setItem ov iv v)
      release [v, ov, iv] []) := by intro _; rfl) : PG X (.Subscript o i pos) (liftG g (gSub do_ di_)) :=
  (pg_sub ho hi (set_any (g := g) hw hu) ha).imp fun v σ H k ⟨ρ, M, F, d, Q, S, En, r, q, kQ⟩ => by
    refine ⟨ρ, M, F, _, _, S, En, q, fun oD M1 F1 ov H1 q1 s1 S1 r1 => ⟨ρ, M1, F1, _, _, S1, En.mono s1, q1, fun iD M2 F2 iv H2 q2 s2 S2 r2 => ?_, fun _ _ _ _ _ z => z.elim⟩, fun _ _ _ _ _ z => z.elim⟩
    exact ⟨F2, M2, d, oD, iD, _, S2, r1.mono s2, r2, r.mono (s1.t s2), q2, fun M3 H3 z S3 => kQ ρ M3 F2 σ H3 z (s1.t s2) S3 (En.mono (s1.t s2))⟩
/-! ### d.get(k) -/
inductive IsDct (M : Mem) (d : D) : Prop
  | dic {xs : List (Key × D)} : IsDic M d xs → IsDct M d
  | dit {xs : List (D × D)} : IsDit M d xs → IsDct M d
inductive GetQ (M : Mem) (d : D) (Q : Option D → Mem → Prop) : D → Prop
  | dic {xs : List (Key × D)} {k : Key} : IsDic M d xs → Q (lookD xs k) M → GetQ M d Q (keyD k)
  | dit {xs : List (D × D)} {ds : List D} {k : NestedKey} : IsDit M d xs → toNK 8 (.tup ds) = some k → Q (lookT xs k) M → GetQ M d Q (.tup ds)
def dGet1 (do_ di_ : DE) : DE := fun ρ M Q E => do_ ρ M (fun d M1 => IsDct M1 d ∧ di_ ρ M1 (fun dk M2 => GetQ M2 d (fun r M3 => Q (r.getD .non) M3) dk) E) E
def dGet2 (do_ di_ dx : DE) : DE := fun ρ M Q E => do_ ρ M (fun d M1 => IsDct M1 d ∧ di_ ρ M1 (fun dk M2 => dx ρ M2 (fun x M3 => GetQ M3 d (fun r M4 => Q (r.getD x) M4) dk) E) E) E
section
variable {F : Hp} {M : Mem} {H : Hp} {pins : List (Addr × Obj)} {σ : L2.St} {s : Shared}
theorem isDct_at (hw : X.w = Wd.w) (I : Inv X pins σ H s) (S : Sta g F M H) {v : V} {d : D} (r : Rep g.K F v d) (h : IsDct M d) : ∃ a, v = .ref a ∧ s.TypeIs (.ref a) "dict" ∧ ∀ b, Value.ref a = .ref b → ∃ ob, s.heap.get? b = some ob ∧ ob.dict = none := by
  cases h with
  | dic h =>
    obtain ⟨a, kvs, rfl, ha, _⟩ := h.to S r
    obtain ⟨t1, t2, _⟩ := isD_at I (.inl ⟨kvs, ha⟩)
    exact ⟨a, rfl, t1, t2⟩
  | dit h =>
    obtain ⟨a, xs, rfl, ha, en⟩ := h.to S r
    obtain ⟨dd, _, _⟩ := nk_dict hw I S ha en
    refine ⟨a, rfl, dd.typeIs, fun b q => ?_⟩
    cases q
    obtain ⟨ob, _, _, h1, h2, _⟩ := dd
    exact ⟨ob, h1, h2.2.1⟩
theorem run_get1 (hw : X.w = Wd.w) (hu : X.A.units + 64 < cLine) (I : Inv X pins σ H s) (S : Sta g F M H) {v y : V} {d dk : D} {u iv : Value} {Q : D → Mem → Prop} {k : VK} (r : Rep g.K F v d) (ry : Rep g.K F y dk) (rv : RelV v u) (ri : RelV y iv) (q : GetQ M d (fun r M3 => Q (r.getD .non) M3) dk)
    (kQ : ∀ d' M' F' v H', Q d' M' → Same F F' → Sta g F' M' H' → Rep g.K F' v d' → k v H') : wpAny (model X.prog X.w) X.A (call (.builtin "dict.get") [u, iv]) (EP X pins σ k) X.xe s := by
  cases q with
  | dic h1 q =>
    obtain ⟨a, kvs, rfl, ha, l, rr⟩ := h1.to S r
    obtain rfl := key_rep ry
    obtain ⟨l1, l2⟩ := look_rep _ l rr
    obtain rfl : u = Value.ref a := rv
    refine d_get1 (by omega) I (.inl ⟨kvs, _, ha, rfl, rfl⟩) ri fun w' s' I' rw' => ⟨_, H, I', rw', ?_⟩
    rename_i xs k2
    cases e : lookD xs k2 with
    | none => rw [e] at q; rw [l1 e]; exact kQ _ M F _ H q (Same.r F) S .non
    | some z =>
      obtain ⟨w, ew, r2⟩ := l2 z e
      rw [e] at q; rw [ew]
      exact kQ _ M F _ H q (Same.r F) S r2
  | @dit es ds k2 h1 hk q =>
    obtain ⟨a, xs, rfl, ha, en⟩ := h1.to S r
    obtain ⟨dd, _, hy⟩ := nk_dict hw I S ha en
    obtain ⟨l1, l2⟩ := en.look _
    obtain rfl : u = Value.ref a := rv
    cases ry with
    | @tup b _ _ hb rb =>
      obtain rfl : iv = Value.ref b := ri
      obtain ⟨b1, b2⟩ := rep_nk I S 8 _ _ _ _ hk (.tup hb rb) rfl
      cases e : lookT es k2 with
      | none =>
        rw [e] at q
        refine call_meetsIn PySem.F.slot_dict_get dd.typeIs PySem.F.entry_dict_get (PySem.F.args_dict_get_2 _ _) (meetsH_dict_get (nestedKind X.prog X.w) a b hy) ⟨room_in1 hu, k2, xs, ⟨b1, b2⟩, dd, ⟨.non, H, I.tok _, ?_, kQ _ M F _ H q (Same.r F) S .non⟩⟩
        rw [l1 e]
        rfl
      | some z =>
        obtain ⟨b', u', v', e1, e2, e3⟩ := l2 z e
        rw [e] at q
        refine call_meetsIn PySem.F.slot_dict_get dd.typeIs PySem.F.entry_dict_get (PySem.F.args_dict_get_2 _ _) (meetsH_dict_get (nestedKind X.prog X.w) a b hy) ⟨room_in1 hu, k2, xs, ⟨b1, b2⟩, dd, ⟨v', H, I.tok _, ?_, kQ _ M F _ H q (Same.r F) S e3⟩⟩
        rw [e1]
        exact e2
theorem run_get2 (hw : X.w = Wd.w) (hu : X.A.units + 64 < cLine) (I : Inv X pins σ H s) (S : Sta g F M H) {v y x : V} {d dk dx : D} {u iv xv : Value} {Q : D → Mem → Prop} {k : VK} (r : Rep g.K F v d) (ry : Rep g.K F y dk) (rx : Rep g.K F x dx) (rv : RelV v u) (ri : RelV y iv) (rxv : RelV x xv) (q : GetQ M d (fun r M3 => Q (r.getD dx) M3) dk)
    (kQ : ∀ d' M' F' v H', Q d' M' → Same F F' → Sta g F' M' H' → Rep g.K F' v d' → k v H') : wpAny (model X.prog X.w) X.A (call (.builtin "dict.get") [u, iv, xv]) (EP X pins σ k) X.xe s := by
  cases q with
  | dic h1 q =>
    obtain ⟨a, kvs, rfl, ha, l, rr⟩ := h1.to S r
    obtain rfl := key_rep ry
    obtain ⟨l1, l2⟩ := look_rep _ l rr
    obtain rfl : u = Value.ref a := rv
    refine d_get2 (by omega) I (.inl ⟨kvs, _, ha, rfl, rfl⟩) ri rxv fun w' s' I' rw' => ⟨_, H, I', rw', ?_⟩
    rename_i xs k2
    cases e : lookD xs k2 with
    | none => rw [e] at q; rw [l1 e]; exact kQ _ M F _ H q (Same.r F) S rx
    | some z =>
      obtain ⟨w, ew, r2⟩ := l2 z e
      rw [e] at q; rw [ew]
      exact kQ _ M F _ H q (Same.r F) S r2
  | @dit es ds k2 h1 hk q =>
    obtain ⟨a, xs, rfl, ha, en⟩ := h1.to S r
    obtain ⟨dd, _, hy⟩ := nk_dict hw I S ha en
    obtain ⟨l1, l2⟩ := en.look _
    obtain rfl : u = Value.ref a := rv
    cases ry with
    | @tup b _ _ hb rb =>
      obtain rfl : iv = Value.ref b := ri
      obtain ⟨b1, b2⟩ := rep_nk I S 8 _ _ _ _ hk (.tup hb rb) rfl
      cases e : lookT es k2 with
      | none =>
        rw [e] at q
        refine call_meetsIn PySem.F.slot_dict_get dd.typeIs PySem.F.entry_dict_get (PySem.F.args_dict_get_3 _ _ _) (meetsH_dict_get_default (nestedKind X.prog X.w) a b hy xv) ⟨room_in1 hu, k2, xs, ⟨b1, b2⟩, dd, ⟨x, H, I.tok _, ?_, kQ _ M F _ H q (Same.r F) S rx⟩⟩
        rw [l1 e]
        exact rxv
      | some z =>
        obtain ⟨b', u', v', e1, e2, e3⟩ := l2 z e
        rw [e] at q
        refine call_meetsIn PySem.F.slot_dict_get dd.typeIs PySem.F.entry_dict_get (PySem.F.args_dict_get_3 _ _ _) (meetsH_dict_get_default (nestedKind X.prog X.w) a b hy xv) ⟨room_in1 hu, k2, xs, ⟨b1, b2⟩, dd, ⟨v', H, I.tok _, ?_, kQ _ M F _ H q (Same.r F) S e3⟩⟩
        rw [e1]
        exact e2
end
theorem de_get1 (hw : X.w = Wd.w) (hu : X.A.units + 64 < cLine) (ho : PE X o (liftE g W do_)) (he : PE X e (liftE g W de)) (m : M1 X o "get" apos e cpos) : PE X (.Call (.Attribute o "get" apos) [e] [] cpos) (liftE g W (dGet1 do_ de)) := by
  refine ⟨fun pins s σ H k I ⟨ρ, M, F, Q, E, S, En, q, kQ, kE⟩ => ?_⟩
  refine wpAny_Call_method m.base m.few m.line PySem.F.plainAttrs_dict PySem.F.slot_dict_get PySem.F.type_dict_get (thn (ho.run pins s σ H (fun v H1 => ∃ M1 F1 d, Same F F1 ∧ Sta g F1 M1 H1 ∧ Rep g.K F1 v d ∧ IsDct M1 d ∧ de ρ M1 (fun dk M2 => GetQ M2 d (fun r M3 => Q (r.getD .non) M3) dk) E) I
    ⟨ρ, M, F, _, E, S, En, q, fun d M1 F1 v H1 ⟨h1, z⟩ s1 S1 r1 => ⟨M1, F1, d, s1, S1, r1, h1, z⟩, kE⟩) fun u s1 ⟨v, H1, I1, rv, M1, F1, d, s01, S1, r1, hd, q1⟩ => ?_)
  obtain ⟨a, rfl, t1, t2⟩ := isDct_at hw I1 S1 r1 hd
  obtain rfl : u = Value.ref a := rv
  refine ⟨t1, t2, ?_⟩
  rw [m.trees]
  refine Calls.callWith_builtin rfl (Calls.evalArgs_plain (Calls.spliced_cons (thn (he.run pins s1 σ H1 (fun y H2 => ∃ M2 F2 dk, Same F1 F2 ∧ Sta g F2 M2 H2 ∧ Rep g.K F2 y dk ∧ GetQ M2 d (fun r M3 => Q (r.getD .non) M3) dk) I1
    ⟨ρ, M1, F1, _, E, S1, En.mono s01, q1, fun dk M2 F2 y H2 z s2 S2 r2 => ⟨M2, F2, dk, s2, S2, r2, z⟩, fun C dd M' F' H' z s S' => kE C dd M' F' H' z (s01.t s) S'⟩) fun iv s2 ⟨y, H2, I2, ri, M2, F2, dk, s12, S2, r2, q2⟩ => Calls.spliced_nil ?_)))
  exact run_get1 hw hu I2 S2 (r1.mono s12) r2 rfl ri q2 fun d' M' F' v H' z s S' r => kQ d' M' F' v H' z ((s01.t s12).t s) S' r
theorem de_get2 {dx : DE} (hw : X.w = Wd.w) (hu : X.A.units + 64 < cLine) (ho : PE X o (liftE g W do_)) (he : PE X e (liftE g W de)) (hx : PE X b (liftE g W dx)) (m : M2 X o "get" apos e b cpos) : PE X (.Call (.Attribute o "get" apos) [e, b] [] cpos) (liftE g W (dGet2 do_ de dx)) := by
  refine ⟨fun pins s σ H k I ⟨ρ, M, F, Q, E, S, En, q, kQ, kE⟩ => ?_⟩
  refine wpAny_Call_method m.base m.few m.line PySem.F.plainAttrs_dict PySem.F.slot_dict_get PySem.F.type_dict_get (thn (ho.run pins s σ H (fun v H1 => ∃ M1 F1 d, Same F F1 ∧ Sta g F1 M1 H1 ∧ Rep g.K F1 v d ∧ IsDct M1 d ∧ de ρ M1 (fun dk M2 => dx ρ M2 (fun x M3 => GetQ M3 d (fun r M4 => Q (r.getD x) M4) dk) E) E) I
    ⟨ρ, M, F, _, E, S, En, q, fun d M1 F1 v H1 ⟨h1, z⟩ s1 S1 r1 => ⟨M1, F1, d, s1, S1, r1, h1, z⟩, kE⟩) fun u s1 ⟨v, H1, I1, rv, M1, F1, d, s01, S1, r1, hd, q1⟩ => ?_)
  obtain ⟨a, rfl, t1, t2⟩ := isDct_at hw I1 S1 r1 hd
  obtain rfl : u = Value.ref a := rv
  refine ⟨t1, t2, ?_⟩
  rw [m.trees]
  refine Calls.callWith_builtin rfl (Calls.evalArgs_plain (Calls.spliced_cons (thn (he.run pins s1 σ H1 (fun y H2 => ∃ M2 F2 dk, Same F1 F2 ∧ Sta g F2 M2 H2 ∧ Rep g.K F2 y dk ∧ dx ρ M2 (fun x M3 => GetQ M3 d (fun r M4 => Q (r.getD x) M4) dk) E) I1
    ⟨ρ, M1, F1, _, E, S1, En.mono s01, q1, fun dk M2 F2 y H2 z s2 S2 r2 => ⟨M2, F2, dk, s2, S2, r2, z⟩, fun C dd M' F' H' z s S' => kE C dd M' F' H' z (s01.t s) S'⟩) fun iv s2 ⟨y, H2, I2, ri, M2, F2, dk, s12, S2, r2, q2⟩ => Calls.spliced_cons (thn (hx.run pins s2 σ H2
      (fun x H3 => ∃ M3 F3 xd, Same F2 F3 ∧ Sta g F3 M3 H3 ∧ Rep g.K F3 x xd ∧ GetQ M3 d (fun r M4 => Q (r.getD xd) M4) dk) I2
    ⟨ρ, M2, F2, _, E, S2, En.mono (s01.t s12), q2, fun xd M3 F3 x H3 z s3 S3 r3 => ⟨M3, F3, xd, s3, S3, r3, z⟩, fun C dd M' F' H' z s S' => kE C dd M' F' H' z ((s01.t s12).t s) S'⟩) fun xv s3 ⟨x, H3, I3, rx, M3, F3, xd, s23, S3, r3, q3⟩ => Calls.spliced_nil ?_))))
  exact run_get2 hw hu I3 S3 (r1.mono (s12.t s23)) (r2.mono s23) r3 rfl ri rx q3 fun d' M' F' v H' z s S' r => kQ d' M' F' v H' z (((s01.t s12).t s23).t s) S' r
/-! ### constants of a class -/
def dCon (K : PySem.W.Frag) (de : DE) (f : Str) : DE := fun ρ M Q E => de ρ M (fun d M' => ∃ C mc i u, d = .ptr C ∧ ClX.CRead K C mc ∧ ClX.CVal K C mc f (.int i) u ∧ Q (.int i) M') E
theorem de_con (he : PE X e (liftE g W de)) (hb : attributeBase e f X.env (eval e X.env) = eval e X.env := by rfl) : PE X (.Attribute e f pos) (liftE g W (dCon X.K de f)) :=
  (ClX.pe_cval he hb).imp fun σ H k ⟨ρ, M, F, Q, E, S, En, q, kQ, kE⟩ => ⟨ρ, M, F, _, E, S, En, q, fun d M' F' v H' ⟨C, mc, i, u, ed, h1, h2, z⟩ s S' r => by
    subst ed
    cases r
    exact ⟨C, mc, _, u, rfl, h1, h2, kQ _ M' F' _ H' z s S' (.int i)⟩, kE⟩
theorem de_globC {C : Addr} (hg : Gl X x) (hm : X.mg x = some (.ref C)) (hd : (x == ("__debug__" : Str)) = false := by decide) : PE X (.Name x pos) (liftE g W (dC (.ptr C))) := de_c (v := .ref C) (pe_glob hg hm rfl hd) fun _ => .ptr C
end
end DL
namespace DL
variable [Wd]
open PySem L2
section
variable {X : Cx} {g : G} {W : WX} {pos : Pos} {a b c e : Expr} {es : List Expr} {de dk dv : DE} {dt : DT}
/-! ### an object under construction, apart from all else -/
structure Acc (K : PySem.W.Frag) (U : Hp) (p : Addr) (o : HO) (F : Hp) (M : Mem) (H : Hp) : Prop where
  st : Sta ⟨K, U⟩ F M H
  at_ : H p = some o
  nF : F p = none
  nM : ∀ m, (p, m) ∉ M
  nU : U p = none
def Plain (o : HO) : Prop := ∀ z u, o ≠ .frz z u
section
variable {K : PySem.W.Frag} {U F : Hp} {M : Mem} {H : Hp} {p : Addr} {o o' : HO}
theorem acc_new (S : Sta ⟨K, U⟩ F M H) (hp : H p = none) : Acc K U p o F M (upd H p o) :=
  ⟨S.grow hp, upd_same, S.sub.none hp, S.fresh hp, by
    cases e : U p with
    | none => rfl
    | some w => have z := (S.out p w e).1; rw [hp] at z; cases z⟩
theorem Acc.into (A : Acc K U p o F M H) : Sta ⟨K, L2.upd U p o⟩ F M H := ⟨A.st.sub, fun b w hb => by
  by_cases e : b = p
  · subst e
    have hb' : (L2.upd U b o) b = some w := hb
    rw [upd_same] at hb'
    cases hb'
    exact ⟨A.at_, .inl A.nF, A.nM⟩
  · have hb' : (L2.upd U p o) b = some w := hb
    rw [upd_ne e] at hb'
    exact A.st.out b w hb', A.st.mem, A.st.nd⟩
theorem acc_back (hU : U p = none) (ho : Plain o) (S : Sta ⟨K, L2.upd U p o⟩ F M H) : Acc K U p o F M H := by
  obtain ⟨u1, u2, u3⟩ := S.out p o upd_same
  refine ⟨⟨S.sub, fun b w hb => S.out b w ?_, S.mem, S.nd⟩, u1, ?_, u3, hU⟩
  · have hbp : b ≠ p := fun z => by
      subst z
      have hb' : U b = some w := hb
      rw [hU] at hb'
      cases hb'
    show (L2.upd U p o) b = some w
    rw [upd_ne hbp]
    exact hb
  · rcases u2 with h | ⟨z, u, h, _⟩
    · exact h
    · exact absurd h (ho z u)
theorem Acc.put (A : Acc K U p o F M H) : Acc K U p o' F M (L2.upd H p o') := by
  refine ⟨⟨fun b w hb => ?_, fun b w hb => ?_, fun b m hm => ?_, A.st.nd⟩, upd_same, A.nF, A.nM, A.nU⟩
  · rw [upd_ne (ne_of_none hb A.nF)]
    exact A.st.sub b w hb
  · have hbp : b ≠ p := fun z => by
      subst z
      have hb' : U b = some w := hb
      rw [A.nU] at hb'
      cases hb'
    rw [upd_ne hbp]
    exact A.st.out b w hb
  · have hbp : b ≠ p := fun z => by
      subst z
      exact A.nM m hm
    rw [upd_ne hbp]
    exact A.st.mem b m hm
/-- it is done: frozen -/
theorem Acc.froz (A : Acc K U p o F M H) (ho : isDct o = true ∨ True) : Same F (L2.upd F p o) ∧ Sta ⟨K, U⟩ (L2.upd F p o) M H := by
  have s : Same F (L2.upd F p o) := fun b w hb => by rw [upd_ne (ne_of_none hb A.nF)]; exact hb
  refine ⟨s, ⟨fun b w hb => ?_, fun b w hb => ?_, fun b m hm => ?_, A.st.nd⟩⟩
  · by_cases hbp : b = p
    · subst hbp
      rw [upd_same] at hb
      cases hb
      exact .inl A.at_
    · rw [upd_ne hbp] at hb
      exact A.st.sub b w hb
  · have hbp : b ≠ p := fun z => by
      subst z
      have hb' : U b = some w := hb
      rw [A.nU] at hb'
      cases hb'
    obtain ⟨o1, o2, o3⟩ := A.st.out b w hb
    exact ⟨o1, o2.ext (upd_ne hbp), o3⟩
  · have hbp : b ≠ p := fun z => by
      subst z
      exact A.nM m hm
    rw [upd_ne hbp]
    obtain ⟨h1, w, h2, h3⟩ := A.st.mem b m hm
    exact ⟨h1, w, h2, h3.mono s⟩
/-- it is done: it may change -/
theorem Acc.free (A : Acc K U p o F M H) {m : MO} (r : RepM K F p o m) : Sta ⟨K, U⟩ F ((p, m) :: M) H := by
  refine ⟨A.st.sub, fun b w hb => ?_, fun b n hm => ?_, ?_⟩
  · obtain ⟨u1, u2, u3⟩ := A.st.out b w hb
    refine ⟨u1, u2, fun n hn => ?_⟩
    rcases List.mem_cons.mp hn with z | z
    · have e : b = p := congrArg Prod.fst z
      subst e
      have hb' : U b = some w := hb
      rw [A.nU] at hb'
      cases hb'
    · exact u3 n z
  · rcases List.mem_cons.mp hm with z | z
    · cases z
      exact ⟨A.nF, _, A.at_, r⟩
    · exact A.st.mem b n z
  · refine List.nodup_cons.mpr ⟨fun z => ?_, A.st.nd⟩
    obtain ⟨q, hq, e⟩ := List.mem_map.mp z
    obtain ⟨b, n⟩ := q
    cases e
    exact A.nM n hq
end
/-- a target of a comprehension -/
theorem ct_go {K : PySem.W.Frag} {U F : Hp} {M : Mem} {H : Hp} {ct : CT} {d : D} {x : V} {σ : L2.St} {ρ : Rho} {vs ws : List Nat} {k : Rho → Prop} {R : L2.St → Hp → Prop} (hv : ∀ i ∈ ct.slots, i ∈ vs) (S : Sta ⟨K, U⟩ F M H) (r : Rep K F x d) (En : Enr K F (wipe σ ws) (wipeD ρ ws))
    (hw : ∀ τ, wipe τ vs = wipe (wipe σ ws) vs → ∀ ρ2, Enr K F τ ρ2 → k ρ2 → R τ H) (q : ct.go d (wipeD ρ ws) k) : ct.tg K x (wipe σ ws) H R := by
  cases ct with
  | nm j =>
    refine hw _ ?_ _ (En.set j r) q
    exact wipe_of (hv j List.mem_cons_self) rfl
  | tp is =>
    obtain ⟨ds, ed, hl, q4⟩ := q
    rw [ed] at r
    cases r with
    | tup hs rr =>
      exact ⟨_, _, rfl, S.sub.sqT hs, by rw [rr.length]; exact hl, gNs_set (by rw [rr.length]; exact hl) (hw _ (wipe_setAll (fun j hj => hv j hj) rfl) _ (enr_setAll rr En) q4)⟩
/-! ### dict comprehensions -/
def goD (ct : CT) (dt : DT) (dk dv : DE) (st : Mem → Prop) (ρ : Rho) (Q : List (Key × D) → Mem → Prop) : List D → List (Key × D) → Mem → Prop
  | [], acc, M => st M ∧ Q acc M
  | d :: ds, acc, M => st M ∧ ct.go d ρ (fun ρ' => dt ρ' M (fun b M2 => if b = true then dk ρ' M2 (fun y M3 => ∃ k, y = keyD k ∧ dv ρ' M3 (fun e M4 => goD ct dt dk dv st ρ Q ds (putD acc k e) M4) noE) noE else goD ct dt dk dv st ρ Q ds acc M2) noE)
def dDc (di : DI) (ct : CT) (dt : DT) (dk dv : DE) (vs : List Nat) : DE := fun ρ M Q E => di ρ M (fun ds st M1 => ds.length < sizeLine ∧ goD ct dt dk dv st (wipeD ρ vs) (fun acc M2 => NewM (.dic acc) (.dic acc) M2 Q) ds [] M1) E
theorem putD_len {κ : Type} [DecidableEq κ] (xs : List (κ × D)) (k : κ) (d : D) : (putD xs k d).length ≤ xs.length + 1 := by
  unfold putD
  by_cases h : (xs.any fun kv => decide (kv.1 = k)) = true
  · rw [if_pos h, List.length_map]; omega
  · rw [if_neg h, List.length_append]; simp
theorem lift_dc {di : DI} {ct : CT} {vs : List Nat} {K : PySem.W.Frag} {U : Hp} {tt : TT} {tk tv : TE} (hv : ∀ i ∈ ct.slots, i ∈ vs) (ht : ∀ U σ H k, liftT ⟨K, U⟩ W0 dt σ H k → tt σ H k) (hk : ∀ U σ H k, liftE ⟨K, U⟩ W0 dk σ H k → tk σ H k) (he : ∀ U σ H k, liftE ⟨K, U⟩ W0 dv σ H k → tv σ H k) {σ : L2.St} {H : Hp} {k : VK}
    (h : liftE ⟨K, U⟩ W (dDc di ct dt dk dv vs) σ H k) : tDc (liftI ⟨K, U⟩ W di) (ct.tg K) tt tk tv vs σ H k := by
  obtain ⟨ρ, M, F, Q, E, S, En, q, kQ, kE⟩ := h
  refine ⟨ρ, M, F, _, _, S, En, q, fun its st M1 U1 V F1 J H1 ⟨hz, q1⟩ su sv s1 S1 Y => fun p hp => ?_, kE⟩
  let Qn : List (Key × D) → Mem → Prop := fun acc M2 => NewM (.dic acc) (.dic acc) M2 Q
  let P : Nat → Hp → Prop := fun i H => i ≤ its.length ∧ ∃ acc xs M F', acc.length ≤ i ∧ Same F1 F' ∧ Acc K U1 p (.dK xs) F' M H ∧ xs.map (·.1) = acc.map (·.1) ∧ Reps K F' (xs.map (·.2)) (acc.map (·.2)) ∧ goD ct dt dk dv st (wipeD ρ vs) Qn (its.drop i) acc M
  refine ⟨fun i m H => m = its.length - i ∧ P i H, ⟨_, rfl, Nat.zero_le _, [], [], M1, F1, Nat.le_refl _, Same.r F1, acc_new S1 hp, rfl, .nil, q1⟩, ?_⟩
  rintro i m H2 ⟨rfl, hi, acc, xs, M2, F2, ha, s2, A2, lk, ra, q2⟩
  have pl : Plain (.dK xs) := fun _ _ z => nomatch z
  by_cases hlt : i < its.length
  · rw [List.drop_eq_getElem_cons hlt] at q2
    obtain ⟨hst, q3⟩ := q2
    have sup : Same U1 (upd U1 p (.dK xs)) := fun b o hb => by rw [upd_ne (ne_of_none hb A2.nU)]; exact hb
    obtain ⟨g1, g2⟩ := Y.go i its[i] _ F2 M2 H2 (sv.t sup) s2 A2.into hst (by simp [hlt])
    refine .inr ⟨g1, P (i + 1), fun H' pr => ⟨_, by omega, rfl, pr⟩, fun x H' y => ?_⟩
    obtain ⟨F3, s3, S3, r3⟩ := g2 x H' y
    have s13 := s2.t s3
    refine ct_go hv S3 r3 (enr_wipe (En.mono (s1.t s13)) vs) (fun σ2 hw ρ2 En2 q4 => ⟨by rw [hw, wipe_wipe], ?_⟩) q3
    refine ht (upd U1 p (.dK xs)) _ _ _ ⟨ρ2, M2, F3, _, _, S3, En2, q4, fun b M4 F4 H4 q5 s4 S4 => ?_, fun _ _ _ _ _ z => z.elim⟩
    cases b with
    | false =>
      rw [if_neg Bool.false_ne_true] at q5 ⊢
      exact ⟨hlt, acc, xs, M4, F4, by omega, s13.t s4, acc_back A2.nU pl S4, lk, (ra.mono s3).mono s4, q5⟩
    | true =>
      rw [if_pos rfl] at q5 ⊢
      refine hk (upd U1 p (.dK xs)) _ _ _ ⟨ρ2, M4, F4, _, _, S4, En2.mono s4, q5, fun kd M5 F5 kv H5 ⟨kk, ek, q6⟩ s5 S5 r5 => ?_, fun _ _ _ _ _ z => z.elim⟩
      subst ek
      refine he (upd U1 p (.dK xs)) _ _ _ ⟨ρ2, M5, F5, _, _, S5, (En2.mono s4).mono s5, q6, fun d M6 F6 v H6 q7 s6 S6 r6 => ?_, fun _ _ _ _ _ z => z.elim⟩
      have A6 := acc_back A2.nU pl S6
      have ra6 := ((ra.mono s3).mono s4).mono (s5.t s6)
      obtain ⟨p1, p2⟩ := put_rep kk lk ra6 r6
      refine ⟨xs, kk, key_rep r5, A6.at_, by rw [kvs_len lk]; omega, hlt, putD acc kk d, putK xs kk v, M6, F6, ?_, (s13.t s4).t (s5.t s6), A6.put, p1, p2, q7⟩
      have := putD_len acc kk d
      omega
  · have e : its.drop i = [] := List.drop_eq_nil_of_le (by omega)
    rw [e] at q2
    refine .inl ⟨Y.stop i U1 F2 M2 H2 sv s2 A2.st q2.1 (by omega), ?_⟩
    rcases q2.2 with q4 | q4
    · obtain ⟨s, S'⟩ := A2.froz (.inr trivial)
      exact kQ _ M2 _ _ H2 q4 ((s1.t s2).t s) (Sta.less S' su) (.dic upd_same lk (ra.mono s))
    · exact kQ _ _ F2 _ H2 (q4 p A2.nM) (s1.t s2) (Sta.less (A2.free (m := .dic acc) ⟨xs, rfl, lk, ra⟩) su) (.ptr p)
theorem de_dc {kx vx tg iter : Expr} {ifs : List Expr} {scope : Scope} {own : List (Str × Nat)} {di : DI} {ct : CT} (hc : X.calm = true) (hK : g.K = X.K) (hN : X.N.Nodup) (hi : PI X tg iter (liftI g W di)) (ok : BlkOk X.N X.env.scope scope own)
    (hv : ∀ i ∈ ct.slots, i ∈ own.map (·.2))
    (hg : ∀ (s : Shared) (H : Hp) (C : Addr) (cl : List (Str × Addr)) (fp : List Addr), PG (X.blk s H scope (PySem.compEnvC scope cl C X.env) fp) tg (ct.tg X.K))
    (ht : ∀ (U : Hp) (s : Shared) (H : Hp) (C : Addr) (cl : List (Str × Addr)) (fp : List Addr), PTs (X.blk s H scope (PySem.compEnvC scope cl C X.env) fp) ifs (liftT ⟨X.K, U⟩ W0 dt))
    (hk : ∀ (U : Hp) (s : Shared) (H : Hp) (C : Addr) (cl : List (Str × Addr)) (fp : List Addr), PE (X.blk s H scope (PySem.compEnvC scope cl C X.env) fp) kx (liftE ⟨X.K, U⟩ W0 dk))
    (he : ∀ (U : Hp) (s : Shared) (H : Hp) (C : Addr) (cl : List (Str × Addr)) (fp : List Addr), PE (X.blk s H scope (PySem.compEnvC scope cl C X.env) fp) vx (liftE ⟨X.K, U⟩ W0 dv)) (hs : ∀ x, foldedSetIterable iter X.env x = pure x := by intro _; rfl) :
    PE X (.DictComp kx vx [⟨tg, iter, ifs, 0⟩] scope pos) (liftE g W (dDc di ct dt dk dv (own.map (·.2)))) := by
  obtain ⟨K0, U⟩ := g
  simp only at hK
  subst hK
  exact PE.imp (pe_dc (tt := fun σ H k => ∃ U, liftT ⟨X.K, U⟩ W0 dt σ H k) (tk := fun σ H k => ∃ U, liftE ⟨X.K, U⟩ W0 dk σ H k) (tv := fun σ H k => ∃ U, liftE ⟨X.K, U⟩ W0 dv σ H k) hc hN hi ok hg (fun s H C cl fp => ⟨fun pins s1 σ H1 Q I ⟨U, q⟩ => (ht U s H C cl fp).run pins s1 σ H1 Q I q⟩)
    (fun s H C cl fp => ⟨fun pins s1 σ H1 Q I ⟨U, q⟩ => (hk U s H C cl fp).run pins s1 σ H1 Q I q⟩) (fun s H C cl fp => ⟨fun pins s1 σ H1 Q I ⟨U, q⟩ => (he U s H C cl fp).run pins s1 σ H1 Q I q⟩) hs) fun σ H k h => lift_dc hv (fun U σ H k q => ⟨U, q⟩) (fun U σ H k q => ⟨U, q⟩) (fun U σ H k q => ⟨U, q⟩) h
/-! ### list comprehensions with two for -/
def goC2i (ct1 : CT) (dt1 : DT) (de : DE) (st1 : Mem → Prop) (ρ1 : Rho) (Q : List D → Mem → Prop) : List D → List D → Mem → Prop
  | [], acc, M => st1 M ∧ Q acc M
  | d :: ds, acc, M => st1 M ∧ acc.length < sizeLine ∧ ct1.go d ρ1 (fun ρ' => dt1 ρ' M (fun b M2 => if b = true then de ρ' M2 (fun e M3 => goC2i ct1 dt1 de st1 ρ1 Q ds (acc ++ [e]) M3) noE else goC2i ct1 dt1 de st1 ρ1 Q ds acc M2) noE)
def goC2 (ct : CT) (dt : DT) (di1 : DI) (ct1 : CT) (dt1 : DT) (de : DE) (vs1 : List Nat) (st : Mem → Prop) (ρ : Rho) (Q : List D → Mem → Prop) : List D → List D → Mem → Prop
  | [], acc, M => st M ∧ Q acc M
  | d :: ds, acc, M => st M ∧ ct.go d ρ (fun ρ' => dt ρ' M (fun b M2 => if b = true then di1 ρ' M2 (fun its1 st1 M3 => goC2i ct1 dt1 de st1 (wipeD ρ' vs1) (fun acc' M4 => goC2 ct dt di1 ct1 dt1 de vs1 st ρ Q ds acc' M4) its1 acc M3) noE else goC2 ct dt di1 ct1 dt1 de vs1 st ρ Q ds acc M2) noE)
def dLc2 (di : DI) (ct : CT) (dt : DT) (di1 : DI) (ct1 : CT) (dt1 : DT) (de : DE) (vs vs1 : List Nat) : DE := fun ρ M Q E => di ρ M (fun ds st M1 => goC2 ct dt di1 ct1 dt1 de vs1 st (wipeD ρ vs) (fun acc M2 => NewL acc M2 Q) ds [] M1) E
/-- what others hold, but p -/
def butU (U : Hp) (p : Addr) : Hp := fun b => if b = p then none else U b
theorem acc_but {K : PySem.W.Frag} {U1 U' V F : Hp} {M : Mem} {H : Hp} {p : Addr} {o : HO} (ho : Plain o) (hU : U1 p = none) (su : Same (upd U1 p o) U') (sv : Same V U') (pv : ∀ b w, V b = some w → ∃ z u, w = HO.frz z u) (S : Sta ⟨K, U'⟩ F M H) :
    Acc K (butU U' p) p o F M H ∧ Same U1 (butU U' p) ∧ Same V (butU U' p) := by
  have hp : U' p = some o := su _ _ upd_same
  have hb : butU U' p p = none := if_pos rfl
  have up : Same (upd (butU U' p) p o) U' := fun b w e => by
    by_cases q : b = p
    · subst q
      rw [upd_same] at e
      cases e
      exact hp
    · rw [upd_ne q] at e
      have e' : (if b = p then none else U' b) = some w := e
      rwa [if_neg q] at e'
  refine ⟨acc_back hb ho (S.less up), fun b w e => ?_, fun b w e => ?_⟩
  · have q : b ≠ p := ne_of_none e hU
    show (if b = p then none else U' b) = some w
    rw [if_neg q]
    exact su _ _ (by rw [upd_ne q]; exact e)
  · have q : b ≠ p := fun z => by
      subst z
      obtain ⟨z, u, ez⟩ := pv _ _ e
      have e2 := sv _ _ e
      rw [hp] at e2
      cases e2
      exact ho z u ez
    show (if b = p then none else U' b) = some w
    rw [if_neg q]
    exact sv _ _ e
theorem lift_lc2 {di di1 : DI} {ct ct1 : CT} {dt1 : DT} {vs vs1 : List Nat} {K : PySem.W.Frag} {U : Hp} {tt tt1 : TT} {ti1 : TI} {te : TE} (hv : ∀ i ∈ ct.slots, i ∈ vs) (hv1 : ∀ i ∈ ct1.slots, i ∈ vs1) (ht : ∀ U σ H k, liftT ⟨K, U⟩ W0 dt σ H k → tt σ H k) (hi1 : ∀ U σ H k, liftI ⟨K, U⟩ W0 di1 σ H k → ti1 σ H k)
    (ht1 : ∀ U σ H k, liftT ⟨K, U⟩ W0 dt1 σ H k → tt1 σ H k) (he : ∀ U σ H k, liftE ⟨K, U⟩ W0 de σ H k → te σ H k) {σ : L2.St} {H : Hp} {k : VK}
    (h : liftE ⟨K, U⟩ W (dLc2 di ct dt di1 ct1 dt1 de vs vs1) σ H k) : tLc2 (liftI ⟨K, U⟩ W di) (ct.tg K) tt ti1 (ct1.tg K) tt1 te vs vs1 σ H k := by
  obtain ⟨ρ, M, F, Q, E, S, En, q, kQ, kE⟩ := h
  refine ⟨ρ, M, F, _, _, S, En, q, fun its st M1 U1 V F1 J H1 q1 su sv s1 S1 Y => fun p hp => ?_, kE⟩
  let Qn : List D → Mem → Prop := fun acc M2 => NewL acc M2 Q
  let P : Nat → Hp → Prop := fun i H => i ≤ its.length ∧ ∃ acc xs M F', Same F1 F' ∧ Acc K U1 p (.lst xs) F' M H ∧ Reps K F' xs acc ∧ goC2 ct dt di1 ct1 dt1 de vs1 st (wipeD ρ vs) Qn (its.drop i) acc M
  refine ⟨fun i m H => m = its.length - i ∧ P i H, ⟨_, rfl, Nat.zero_le _, [], [], M1, F1, Same.r F1, acc_new S1 hp, .nil, q1⟩, ?_⟩
  rintro i m H2 ⟨rfl, hi, acc, xs, M2, F2, s2, A2, ra, q2⟩
  have pl : ∀ xs, Plain (.lst xs) := fun _ _ _ z => nomatch z
  by_cases hlt : i < its.length
  · rw [List.drop_eq_getElem_cons hlt] at q2
    obtain ⟨hst, q3⟩ := q2
    have sup : Same U1 (upd U1 p (.lst xs)) := fun b o hb => by rw [upd_ne (ne_of_none hb A2.nU)]; exact hb
    obtain ⟨g1, g2⟩ := Y.go i its[i] _ F2 M2 H2 (sv.t sup) s2 A2.into hst (by simp [hlt])
    refine .inr ⟨g1, P (i + 1), fun H' pr => ⟨_, by omega, rfl, pr⟩, fun x H' y => ?_⟩
    obtain ⟨F3, s3, S3, r3⟩ := g2 x H' y
    have s13 := s2.t s3
    refine ct_go hv S3 r3 (enr_wipe (En.mono (s1.t s13)) vs) (fun σ2 hw ρ2 En2 q4 => ⟨by rw [hw, wipe_wipe], ?_⟩) q3
    refine ht (upd U1 p (.lst xs)) _ _ _ ⟨ρ2, M2, F3, _, _, S3, En2, q4, fun b M4 F4 H4 q5 s4 S4 => ?_, fun _ _ _ _ _ z => z.elim⟩
    cases b with
    | false =>
      rw [if_neg Bool.false_ne_true] at q5 ⊢
      exact ⟨hlt, acc, xs, M4, F4, s13.t s4, acc_back A2.nU (pl _) S4, (ra.mono s3).mono s4, q5⟩
    | true =>
      rw [if_pos rfl] at q5 ⊢
      refine hi1 (upd U1 p (.lst xs)) _ _ _ ⟨ρ2, M4, F4, _, _, S4, En2.mono s4, q5, fun its1 st1 M5 U5 V5 F5 J5 H5 q6 su5 sv5 s5 S5 Y5 => ?_, fun _ _ _ _ _ z => z.elim⟩
      obtain ⟨A5, sU, sV⟩ := acc_but (pl xs) A2.nU su5 sv5 Y5.pl S5
      have s15 := (s13.t s4).t s5
      let P1 : Nat → Hp → Prop := fun j H => j ≤ its1.length ∧ ∃ acc xs M F', Same F5 F' ∧ Acc K (butU U5 p) p (.lst xs) F' M H ∧ Reps K F' xs acc ∧
        goC2i ct1 dt1 de st1 (wipeD ρ2 vs1) (fun acc' M4 => goC2 ct dt di1 ct1 dt1 de vs1 st (wipeD ρ vs) Qn (its.drop (i + 1)) acc' M4) (its1.drop j) acc M
      refine ⟨fun j m H => m = its1.length - j ∧ P1 j H, ⟨_, rfl, Nat.zero_le _, acc, xs, M5, F5, Same.r F5, A5, ((ra.mono s3).mono s4).mono s5, q6⟩, ?_⟩
      rintro j m H6 ⟨rfl, hj, acc6, xs6, M6, F6, s6, A6, ra6, q7⟩
      by_cases hlt1 : j < its1.length
      · rw [List.drop_eq_getElem_cons hlt1] at q7
        obtain ⟨hst1, hz, q8⟩ := q7
        have sup6 : Same (butU U5 p) (upd (butU U5 p) p (.lst xs6)) := fun b o hb => by rw [upd_ne (ne_of_none hb A6.nU)]; exact hb
        obtain ⟨g3, g4⟩ := Y5.go j its1[j] _ F6 M6 H6 (sV.t sup6) s6 A6.into hst1 (by simp [hlt1])
        refine .inr ⟨g3, P1 (j + 1), fun H' pr => ⟨_, by omega, rfl, pr⟩, fun x1 H7 y1 => ?_⟩
        obtain ⟨F7, s7, S7, r7⟩ := g4 x1 H7 y1
        have s47 := s5.t (s6.t s7)
        refine ct_go hv1 S7 r7 (enr_wipe (En2.mono (s4.t s47)) vs1) (fun σ3 hw3 ρ3 En3 q9 => ⟨by rw [hw3, wipe_wipe], ?_⟩) q8
        refine ht1 (upd (butU U5 p) p (.lst xs6)) _ _ _ ⟨ρ3, M6, F7, _, _, S7, En3, q9, fun b M8 F8 H8 q10 s8 S8 => ?_, fun _ _ _ _ _ z => z.elim⟩
        cases b with
        | false =>
          rw [if_neg Bool.false_ne_true] at q10 ⊢
          exact ⟨hlt1, acc6, xs6, M8, F8, (s6.t s7).t s8, acc_back A6.nU (pl _) S8, (ra6.mono s7).mono s8, q10⟩
        | true =>
          rw [if_pos rfl] at q10 ⊢
          refine he (upd (butU U5 p) p (.lst xs6)) _ _ _ ⟨ρ3, M8, F8, _, _, S8, En3.mono s8, q10, fun d M9 F9 v H9 q11 s9 S9 r9 => ?_, fun _ _ _ _ _ z => z.elim⟩
          have A9 := acc_back A6.nU (pl _) S9
          exact ⟨xs6, A9.at_, by rw [ra6.length]; exact hz, hlt1, acc6 ++ [d], xs6 ++ [v], M9, F9, (s6.t s7).t (s8.t s9), A9.put, ((ra6.mono s7).mono (s8.t s9)).append (.cons r9 .nil), q11⟩
      · have e : its1.drop j = [] := List.drop_eq_nil_of_le (by omega)
        rw [e] at q7
        refine .inl ⟨Y5.stop j (butU U5 p) F6 M6 H6 sV s6 A6.st q7.1 (by omega), hlt, acc6, xs6, M6, F6, s15.t s6, ⟨A6.st.less sU, A6.at_, A6.nF, A6.nM, A2.nU⟩, ra6, q7.2⟩
  · have e : its.drop i = [] := List.drop_eq_nil_of_le (by omega)
    rw [e] at q2
    refine .inl ⟨Y.stop i U1 F2 M2 H2 sv s2 A2.st q2.1 (by omega), ?_⟩
    rcases q2.2 with q4 | q4
    · obtain ⟨s, S'⟩ := A2.froz (.inr trivial)
      exact kQ _ M2 _ _ H2 q4 ((s1.t s2).t s) (Sta.less S' su) (.lst upd_same (ra.mono s))
    · exact kQ _ _ F2 _ H2 (q4 p A2.nM) (s1.t s2) (Sta.less (A2.free (m := .lst acc) ⟨xs, rfl, ra⟩) su) (.ptr p)
theorem de_lc2 {elt tg iter tg1 iter1 : Expr} {ifs ifs1 : List Expr} {scope : Scope} {own : List (Str × Nat)} {di di1 : DI} {ct ct1 : CT} {dt1 : DT} {vs1 : List Nat} (hc : X.calm = true) (hK : g.K = X.K) (hN : X.N.Nodup) (hi : PI X tg iter (liftI g W di)) (ok : BlkOk X.N X.env.scope scope own)
    (hv : ∀ i ∈ ct.slots, i ∈ own.map (·.2)) (hv1 : ∀ i ∈ ct1.slots, i ∈ vs1) (hvs : ∀ i ∈ vs1, i ∈ own.map (·.2))
    (hg : ∀ (s : Shared) (H : Hp) (C : Addr) (cl : List (Str × Addr)) (fp : List Addr), PG (X.blk s H scope (PySem.compEnvC scope cl C X.env) fp) tg (ct.tg X.K))
    (ht : ∀ (U : Hp) (s : Shared) (H : Hp) (C : Addr) (cl : List (Str × Addr)) (fp : List Addr), PTs (X.blk s H scope (PySem.compEnvC scope cl C X.env) fp) ifs (liftT ⟨X.K, U⟩ W0 dt))
    (hi1 : ∀ (U : Hp) (s : Shared) (H : Hp) (C : Addr) (cl : List (Str × Addr)) (fp : List Addr), PI (X.blk s H scope (PySem.compEnvC scope cl C X.env) fp) tg1 iter1 (liftI ⟨X.K, U⟩ W0 di1))
    (hg1 : ∀ (s : Shared) (H : Hp) (C : Addr) (cl : List (Str × Addr)) (fp : List Addr), PG (X.blk s H scope (PySem.compEnvC scope cl C X.env) fp) tg1 (ct1.tg X.K))
    (ht1 : ∀ (U : Hp) (s : Shared) (H : Hp) (C : Addr) (cl : List (Str × Addr)) (fp : List Addr), PTs (X.blk s H scope (PySem.compEnvC scope cl C X.env) fp) ifs1 (liftT ⟨X.K, U⟩ W0 dt1))
    (he : ∀ (U : Hp) (s : Shared) (H : Hp) (C : Addr) (cl : List (Str × Addr)) (fp : List Addr), PE (X.blk s H scope (PySem.compEnvC scope cl C X.env) fp) elt (liftE ⟨X.K, U⟩ W0 de)) (hs : ∀ x, foldedSetIterable iter X.env x = pure x := by intro _; rfl) (hs1 : ∀ env x, foldedSetIterable iter1 env x = pure x := by intro _ _; rfl) :
    PE X (.ListComp elt [⟨tg, iter, ifs, 0⟩, ⟨tg1, iter1, ifs1, 0⟩] scope pos) (liftE g W (dLc2 di ct dt di1 ct1 dt1 de (own.map (·.2)) vs1)) := by
  obtain ⟨K0, U⟩ := g
  simp only at hK
  subst hK
  exact PE.imp (pe_lc2 (tt := fun σ H k => ∃ U, liftT ⟨X.K, U⟩ W0 dt σ H k) (wi1 := fun σ H k => ∃ U, liftI ⟨X.K, U⟩ W0 di1 σ H k) (tt1 := fun σ H k => ∃ U, liftT ⟨X.K, U⟩ W0 dt1 σ H k) (te := fun σ H k => ∃ U, liftE ⟨X.K, U⟩ W0 de σ H k) hc hN hi ok hvs hg (fun s H C cl fp => ⟨fun pins s1 σ H1 Q I ⟨U, q⟩ => (ht U s H C cl fp).run pins s1 σ H1 Q I q⟩)
    (fun s H C cl fp => ⟨fun pins s1 σ H1 Q I ⟨U, q⟩ => (hi1 U s H C cl fp).run pins s1 σ H1 Q I q⟩) hg1 (fun s H C cl fp => ⟨fun pins s1 σ H1 Q I ⟨U, q⟩ => (ht1 U s H C cl fp).run pins s1 σ H1 Q I q⟩)
    (fun s H C cl fp => ⟨fun pins s1 σ H1 Q I ⟨U, q⟩ => (he U s H C cl fp).run pins s1 σ H1 Q I q⟩) hs hs1) fun σ H k h => lift_lc2 hv hv1 (fun U σ H k q => ⟨U, q⟩) (fun U σ H k q => ⟨U, q⟩) (fun U σ H k q => ⟨U, q⟩) (fun U σ H k q => ⟨U, q⟩) h
end
end DL
namespace DL
variable [Wd]
open PySem L2 PySem.Spec PyProof.Rows
/-! ### dict comprehensions whose keys are tuples -/
/-- the pair is put into the dict at p, and then N -/
def PutN (K : PySem.W.Frag) (p : Addr) (y z : V) (H : Hp) (N : Hp → Prop) : Prop := ∃ U F M kd k d xs es b, y = .ref b ∧ Sta ⟨K, U⟩ F M H ∧ toNK 8 kd = some k ∧ Rep K F y kd ∧ Rep K F z d ∧ H p = some (hoN p xs) ∧ EntI K F xs es ∧ xs.length < sizeLine ∧
  ∀ u, RelV z u → N (upd H p (hoN p (storedH xs k b u)))
theorem putN_run {X : Cx} (hw : X.w = Wd.w) (hu : X.A.units + 64 < cLine) {pins : List (Addr × Obj)} {σ : L2.St} {H : Hp} {s : Shared} {p : Addr} {y z : V} {u r : Value} {N : Hp → Prop} {Q : Unit → Shared → Prop} {E : Value → Shared → Prop} (I : Inv X pins σ H s) (ry : RelV y u) (rz : RelV z r) (h : PutN X.K p y z H N)
    (k : ∀ H' s', Inv X pins σ H' s' → N H' → Q () s') : wpAny (model X.prog X.w) X.A (dictSet p u r) Q E s := by
  obtain ⟨U, F, M, kd, kk, d, xs, es, b, rfl, S, hk, r1, r2, hp, en, hl, hN⟩ := h
  obtain ⟨dd, hz, hy⟩ := nk_dict (g := ⟨X.K, U⟩) hw I S (.inl hp) en
  obtain rfl : u = Value.ref b := ry
  obtain ⟨b1, b2⟩ := rep_nk (g := ⟨X.K, U⟩) I S 8 _ _ _ _ hk r1 rfl
  refine wpAny_dictSet_heap (knd := nestedKind X.prog X.w) (hsz := hz) (show X.A.units + 8 < cLine by omega) ⟨b1, b2⟩ dd fun h' dd' hs => k _ _ (d_write I (by rw [hp]; exact True.intro) hs (let ⟨q, _, _, hq, _⟩ := dd'; ⟨q, hq⟩) (nk_new hw dd' (Nat.le_trans storedH_len hl) hy)) (hN r rz)
section
variable {X : Cx}
def tDn (K : PySem.W.Frag) (wi : TI) (g : TG) (tt : TT) (tk tv : TE) (vs : List Nat) : TE := fun σ H Q => wi σ H fun J H1 => ∀ p, H1 p = none → ∃ W : Nat → Nat → Hp → Prop, (∃ m, W 0 m (upd H1 p (hoN p []))) ∧ ∀ i m H, W i m H →
  (J.stop i H ∧ Q (.ref p) H) ∨ (J.go i H ∧ ∃ N : Hp → Prop, (∀ H', N H' → ∃ m', m' < m ∧ W (i + 1) m' H') ∧ ∀ x H', J.yld i H x H' → g x (wipe σ vs) H' fun σ2 H2 => wipe σ2 vs = wipe σ vs ∧ tt σ2 H2 fun b H3 =>
    if b = true then tk σ2 H3 fun y H4 => tv σ2 H4 fun z H5 => PutN K p y z H5 N else N H3)
theorem pe_dn {kx vx tg iter : Expr} {ifs : List Expr} {scope : Scope} {ow : List (Str × Nat)} {pos : Pos} {wi : TI} {g : TG} {tt : TT} {tk tv : TE} (hw : X.w = Wd.w) (hu : X.A.units + 64 < cLine) (hc : X.calm = true) (hN : X.N.Nodup) (hi : PI X tg iter wi) (ok : BlkOk X.N X.env.scope scope ow)
    (hg : ∀ (s : Shared) (H : Hp) (C : Addr) (cl : List (Str × Addr)) (fp : List Addr), PG (X.blk s H scope (compEnvC scope cl C X.env) fp) tg g) (ht : ∀ (s : Shared) (H : Hp) (C : Addr) (cl : List (Str × Addr)) (fp : List Addr), PTs (X.blk s H scope (compEnvC scope cl C X.env) fp) ifs tt)
    (hk : ∀ (s : Shared) (H : Hp) (C : Addr) (cl : List (Str × Addr)) (fp : List Addr), PE (X.blk s H scope (compEnvC scope cl C X.env) fp) kx tk)
    (he : ∀ (s : Shared) (H : Hp) (C : Addr) (cl : List (Str × Addr)) (fp : List Addr), PE (X.blk s H scope (compEnvC scope cl C X.env) fp) vx tv) (hs : ∀ x, foldedSetIterable iter X.env x = pure x := by intro _; rfl) :
    PE X (.DictComp kx vx [⟨tg, iter, ifs, 0⟩] scope pos) (tDn X.K wi g tt tk tv (ow.map (·.2))) := by
  refine ⟨fun pins s σ H Q I h => ?_⟩
  rw [arm_eval_DictComp]
  have free : ∀ y ∈ scope.names, y.2 = .free → ∃ c, X.env.cells.lookup y.1 = some c := fun y hy e =>
    (ok.free y hy e).elim (fun q => I.ok.has _ (.inl q)) fun q => I.ok.has _ (.inr q)
  refine wpAny_comprehension_free (use := none) rfl hs (closure_ok free) ok.kind (fun y hy e => by rw [ok.uniq y hy, e]) (thn (hi.run pins s σ H _ I h) fun xv s1 hx => thn hx fun itv s2 h2 => ?_)
  obtain ⟨it, fp, tn, J, H2, rfl, I2, T, st2, f2, q⟩ := h2
  refine wpAny_newObj_type (newEnv_comp ?_)
  have np : H2 s2.heap.objs.size = none := I2.hok.fresh (Nat.le_refl _)
  obtain ⟨W, ⟨m0, w0⟩, turn⟩ := q _ np
  -- the dict is laid
  have I3 : Inv X pins σ (upd H2 s2.heap.objs.size (hoN s2.heap.objs.size [])) { s2 with heap := s2.heap.push { cls := .type "dict", data := .dict #[] } } :=
    I2.laid (t' := s2.toks) (fun b o e => Heap.get?_push_of_some _ e) (Nat.le_refl _) (nk_empty s2.heap I2.big)
  have size3 : (s2.heap.push { cls := .type "dict", data := .dict #[] }).objs.size = s2.heap.objs.size + 1 := Heap.size_push _ _
  have stand : ∀ b ∈ fp, b < s2.heap.objs.size := fun b hb => let ⟨_, e, _⟩ := T.obj _ _ st2 b hb; Heap.lt_size e
  have f3 : ∀ b ∈ fp, FpOk X pins (upd H2 s2.heap.objs.size (hoN s2.heap.objs.size [])) b ∧ b < (s2.heap.push { cls := .type "dict", data := .dict #[] }).objs.size := fun b hb =>
    ⟨⟨by rw [upd_ne (Nat.ne_of_lt (stand b hb))]; exact (f2 b hb).1, (f2 b hb).2⟩, by rw [size3]; exact Nat.lt_succ_of_lt (stand b hb)⟩
  have st3 : tn 0 (s2.heap.push { cls := .type "dict", data := .dict #[] }) := T.keep _ _ _ st2 fun b _ o e => Heap.get?_push_of_some _ e
  generalize hp : s2.heap.objs.size = p at np turn w0 I3 f3
  generalize hs3 : ({ s2 with heap := s2.heap.push { cls := .type "dict", data := .dict #[] } } : Shared) = s3 at I3
  have h3 : s3.heap = s2.heap.push { cls := .type "dict", data := .dict #[] } := by rw [← hs3]
  rw [← h3] at f3 st3
  have I4 := block_start I3 ok hN f3
  have pg := hg s3 (upd H2 p (hoN p [])) s3.heap.objs.size (cellsFrom (s3.heap.objs.size + 1) scope.names (cloFrom X.env.cells scope.names [])) fp
  have pt := ht s3 (upd H2 p (hoN p [])) s3.heap.objs.size (cellsFrom (s3.heap.objs.size + 1) scope.names (cloFrom X.env.cells scope.names [])) fp
  have pk := hk s3 (upd H2 p (hoN p [])) s3.heap.objs.size (cellsFrom (s3.heap.objs.size + 1) scope.names (cloFrom X.env.cells scope.names [])) fp
  have pe := he s3 (upd H2 p (hoN p [])) s3.heap.objs.size (cellsFrom (s3.heap.objs.size + 1) scope.names (cloFrom X.env.cells scope.names [])) fp
  show codeAny _ _ (.compStart (.DictComp kx vx [⟨tg, iter, ifs, 0⟩] scope pos) 0 (.ref it) (.ref p) (compEnvC scope (cellsFrom (s3.heap.objs.size + 1) scope.names (cloFrom X.env.cells scope.names [])) s3.heap.objs.size X.env)) (compPost (model X.prog X.w) X.A X.xe none _ (.ref p) s3.heap.objs.size) { s3 with heap := pushCells (s3.heap.push { cls := .type "dict", data := .dict #[] }) scope.names }
  have nfp : ∀ b ∈ fp, (upd H2 p (hoN p [])) b = none := fun b hb => (f3 b hb).1.1
  generalize hce : compEnvC scope (cellsFrom (s3.heap.objs.size + 1) scope.names (cloFrom X.env.cells scope.names [])) s3.heap.objs.size X.env = ce at I4 pg pt pk pe ⊢
  have here : ce.locals = s3.heap.objs.size := by subst hce; rfl
  generalize hH3 : upd H2 p (hoN p []) = H3 at I3 I4 pg pt pk pe w0 nfp f3
  generalize hs4 : ({ s3 with heap := pushCells (s3.heap.push { cls := .type "dict", data := .dict #[] }) scope.names } : Shared) = s4 at I4 ⊢
  have st4 : tn 0 s4.heap := T.keep _ _ _ st3 fun b _ o e => by rw [← hs4]; exact pushCells_keeps _ _ _ _ (Heap.get?_push_of_some _ e)
  -- the iterator's own cells, whatever the turn
  have own : ∀ {σ' : L2.St} {H' : Hp} {s' : Shared}, Inv (X.blk s3 H3 scope ce fp) [] σ' H' s' → (∀ b ∈ fp, H' b = none) → ∀ b ∈ fp, FpOk (X.blk s3 H3 scope ce fp) [] H' b := fun {σ' H' s'} J' hn b hb =>
    ⟨hn b hb, (J'.ok.exf b hb).1, J'.ok.exfs b hb, .inl hb, fun x c e => (J'.ok.exf b hb).2 x c e, fun r hr => absurd (show r ∈ ([] : List (Addr × Obj)) ++ [] from hr) (by simp)⟩
  have loop : codeAny (model X.prog X.w) X.A (.compLoop (.DictComp kx vx [⟨tg, iter, ifs, 0⟩] scope pos) 0 (.ref it) (.ref p) ce) (compPost (model X.prog X.w) X.A X.xe none (EP X pins σ Q) (.ref p) s3.heap.objs.size) s4 := by
    refine compLoop_anyD (fun n s' => ∃ i H', Inv (X.blk s3 H3 scope ce fp) [] (wipe σ (ow.map (·.2))) H' s' ∧ tn i s'.heap ∧ (∀ b ∈ fp, H' b = none) ∧ W i n H') ?_ m0 ⟨0, H3, I4, st4, nfp, w0⟩
    rintro n s5 ⟨i, H5, I5, st5, n5, w5⟩
    rcases turn i n H5 w5 with ⟨stop, fin⟩ | ⟨go, N, toW, step⟩
    · refine thnF (T.done (X.blk s3 H3 scope ce fp) rfl rfl rfl hc i [] s5 _ H5 (fun _ _ => False) I5 (own I5 n5) st5 stop) fun r s6 ⟨er, I6⟩ => ?_
      subst er
      have I7 : Inv X pins σ H5 s6 := I3.call' (ch := fp) I6.os I6.base I6.hok I6.bare fun b hb => ⟨(f3 b hb).1.2.2.2.1, (f3 b hb).1.2.1, (f3 b hb).1.2.2.2.2.1, (f3 b hb).1.2.2.2.2.2⟩
      have nl : H5 s3.heap.objs.size = none := by
        have z : H5 ce.locals = none := I6.free
        rwa [here] at z
      obtain ⟨m, hn, _⟩ := I6.loc
      have hn' : s6.heap.Ns ce.locals m := hn
      rw [here] at hn'
      obtain ⟨g0, g1, g2, g3, g4, g5⟩ := I3.fpOk (Nat.le_refl _) nl
      exact ⟨m, hn', fun h'' sb => ⟨.ref p, H5, I7.turned (t' := s6.toks) (fun b o hb e => (sb.2 b hb).trans e) g0 g1 g3 g4 g5, rfl, fin⟩⟩
    · refine thnF (T.item (X.blk s3 H3 scope ce fp) rfl rfl rfl hc i [] s5 _ H5 (fun _ _ => False) I5 (own I5 n5) st5 go) fun r s6 ⟨u, er, h6⟩ => ?_
      subst er
      refine thnF h6 fun _ s7 ⟨x, H7, I7, r7, y7, st7, n7⟩ => ?_
      have I7' := I7.pinned (own I7 n7) (T.obj _ _ st7)
      refine thnF (pg.run _ s7 _ H7 x u _ I7' r7 (step x H7 y7)) fun _ s8 ⟨σ8, H8, I8, w8, q8⟩ => ?_
      refine thnF (pt.run _ s8 σ8 H8 _ I8 q8) fun b s9 ⟨H9, I9, q9⟩ => ?_
      have next : ∀ {s' : Shared} {H' : Hp}, Inv (X.blk s3 H3 scope ce fp) ([] ++ pinsAt fp s7.heap) σ8 H' s' → N H' → ∃ m, m < n ∧ ∃ i H', Inv (X.blk s3 H3 scope ce fp) [] (wipe σ (ow.map (·.2))) H' s' ∧ tn i s'.heap ∧ (∀ b ∈ fp, H' b = none) ∧ W i m H' := fun {s' H'} J' nx => by
        obtain ⟨m', hm, w'⟩ := toW H' nx
        have still : ∀ b ∈ fp, ∀ o, s7.heap.get? b = some o → s'.heap.get? b = some o ∧ H' b = none := fun b hb o e =>
          ⟨(J'.pin (b, o) (List.mem_append_right _ (List.mem_append_right _ (mem_pinsAt hb e)))).1, (J'.pin (b, o) (List.mem_append_right _ (List.mem_append_right _ (mem_pinsAt hb e)))).2.1⟩
        refine ⟨m', hm, i + 1, H', (J'.unpinned (pins := [])).weak (by rw [← w8, wipe_length]) (fun j v e => ?_), T.keep _ _ _ st7 fun b hb o e => (still b hb o e).1, fun b hb => ?_, w'⟩
        · rw [← w8] at e
          exact (wipe_some e).1
        · obtain ⟨o, e, _⟩ := T.obj _ _ st7 b hb
          exact (still b hb o e).2
      cases b with
      | false =>
        simp only [Bool.false_eq_true, if_false] at q9 ⊢
        exact next I9 q9
      | true =>
        simp only [if_true] at q9 ⊢
        refine thnF (pk.run _ s9 σ8 H9 _ I9 q9) fun z s10 ⟨yk, H10, I10, r10, q10⟩ => thnF (pe.run _ s10 σ8 H10 _ I10 q10) fun z2 s11 ⟨yv, H11, I11, r11, pu⟩ => ?_
        exact putN_run (X := X.blk s3 H3 scope ce fp) hw hu I11 r10 r11 pu fun H12 s12 I12 nx => next I12 nx
  exact codeAny_compStart_dict loop (T.self X.A 0 _ _ _ st4 loop)
end
section
variable {X : Cx} {g : G} {W : WX} {pos : Pos} {dt : DT} {dk dv : DE}
def goN (ct : CT) (dt : DT) (dk dv : DE) (st : Mem → Prop) (ρ : Rho) (Q : List (D × D) → Mem → Prop) : List D → List (D × D) → Mem → Prop
  | [], acc, M => st M ∧ Q acc M
  | d :: ds, acc, M => st M ∧ ct.go d ρ (fun ρ' => dt ρ' M (fun b M2 => if b = true then dk ρ' M2 (fun y M3 => ∃ ys k, y = .tup ys ∧ toNK 8 (.tup ys) = some k ∧ dv ρ' M3 (fun e M4 => goN ct dt dk dv st ρ Q ds (putT acc (.tup ys) k e) M4) noE) noE else goN ct dt dk dv st ρ Q ds acc M2) noE)
def dDn (di : DI) (ct : CT) (dt : DT) (dk dv : DE) (vs : List Nat) : DE := fun ρ M Q E => di ρ M (fun ds st M1 => ds.length < sizeLine ∧ goN ct dt dk dv st (wipeD ρ vs) (fun acc M2 => NewM (.dit acc) (.dit acc) M2 Q) ds [] M1) E
theorem putT_len (xs : List (D × D)) (kd : D) (k : NestedKey) (d : D) : (putT xs kd k d).length ≤ xs.length + 1 := by
  unfold putT
  split
  · rw [List.length_map]; omega
  · rw [List.length_append]; simp
theorem lift_dn {di : DI} {ct : CT} {vs : List Nat} {K : PySem.W.Frag} {U : Hp} {tt : TT} {tk tv : TE} (hv : ∀ i ∈ ct.slots, i ∈ vs) (ht : ∀ U σ H k, liftT ⟨K, U⟩ W0 dt σ H k → tt σ H k) (hk : ∀ U σ H k, liftE ⟨K, U⟩ W0 dk σ H k → tk σ H k) (he : ∀ U σ H k, liftE ⟨K, U⟩ W0 dv σ H k → tv σ H k) {σ : L2.St} {H : Hp} {k : VK}
    (h : liftE ⟨K, U⟩ W (dDn di ct dt dk dv vs) σ H k) : tDn K (liftI ⟨K, U⟩ W di) (ct.tg K) tt tk tv vs σ H k := by
  obtain ⟨ρ, M, F, Q, E, S, En, q, kQ, kE⟩ := h
  refine ⟨ρ, M, F, _, _, S, En, q, fun its st M1 U1 V F1 J H1 ⟨hz, q1⟩ su sv s1 S1 Y => fun p hp => ?_, kE⟩
  let P : Nat → Hp → Prop := fun i H => i ≤ its.length ∧ ∃ acc xs M F', acc.length ≤ i ∧ Same F1 F' ∧ Acc K U1 p (hoN p xs) F' M H ∧ EntI K F' xs acc ∧ goN ct dt dk dv st (wipeD ρ vs) (fun acc M2 => NewM (.dit acc) (.dit acc) M2 Q) (its.drop i) acc M
  refine ⟨fun i m H => m = its.length - i ∧ P i H, ⟨_, rfl, Nat.zero_le _, [], [], M1, F1, Nat.le_refl _, Same.r F1, acc_new S1 hp, .nil, q1⟩, ?_⟩
  rintro i m H2 ⟨rfl, hi, acc, xs, M2, F2, ha, s2, A2, en, q2⟩
  have pl : Plain (hoN p xs) := fun _ _ z => nomatch z
  have up : ∀ {F F' : Hp} {xs : List (NestedKey × Addr × Value)} {es : List (D × D)}, Same F F' → EntI K F xs es → EntI K F' xs es := fun s h => (h.of.mono s).to
  by_cases hlt : i < its.length
  · rw [List.drop_eq_getElem_cons hlt] at q2
    obtain ⟨hst, q3⟩ := q2
    have sup : Same U1 (upd U1 p (hoN p xs)) := fun b o hb => by rw [upd_ne (ne_of_none hb A2.nU)]; exact hb
    obtain ⟨g1, g2⟩ := Y.go i its[i] _ F2 M2 H2 (sv.t sup) s2 A2.into hst (by simp [hlt])
    refine .inr ⟨g1, P (i + 1), fun H' pr => ⟨_, by omega, rfl, pr⟩, fun x H' y => ?_⟩
    obtain ⟨F3, s3, S3, r3⟩ := g2 x H' y
    have s13 := s2.t s3
    refine ct_go hv S3 r3 (enr_wipe (En.mono (s1.t s13)) vs) (fun σ2 hw ρ2 En2 q4 => ⟨by rw [hw, wipe_wipe], ?_⟩) q3
    refine ht (upd U1 p (hoN p xs)) _ _ _ ⟨ρ2, M2, F3, _, _, S3, En2, q4, fun b M4 F4 H4 q5 s4 S4 => ?_, fun _ _ _ _ _ z => z.elim⟩
    cases b with
    | false =>
      rw [if_neg Bool.false_ne_true] at q5 ⊢
      exact ⟨hlt, acc, xs, M4, F4, by omega, s13.t s4, acc_back A2.nU pl S4, up (s3.t s4) en, q5⟩
    | true =>
      rw [if_pos rfl] at q5 ⊢
      refine hk (upd U1 p (hoN p xs)) _ _ _ ⟨ρ2, M4, F4, _, _, S4, En2.mono s4, q5, fun kd M5 F5 kv H5 ⟨ys, kk, ek, hkk, q6⟩ s5 S5 r5 => ?_, fun _ _ _ _ _ z => z.elim⟩
      subst ek
      refine he (upd U1 p (hoN p xs)) _ _ _ ⟨ρ2, M5, F5, _, _, S5, (En2.mono s4).mono s5, q6, fun d M6 F6 v H6 q7 s6 S6 r6 => ?_, fun _ _ _ _ _ z => z.elim⟩
      have A6 := acc_back A2.nU pl S6
      have en6 := up (s3.t (s4.t (s5.t s6))) en
      have r56 := r5.mono s6
      cases r5 with
      | tup hb rb =>
        rename_i b its'
        refine ⟨_, F6, M6, _, kk, d, xs, acc, b, rfl, S6, hkk, r56, r6, A6.at_, en6, by rw [en6.length]; omega, fun u ru => ⟨hlt, putT acc (.tup ys) kk d, storedH xs kk b u, M6, F6, ?_, (s13.t s4).t (s5.t s6), A6.put, en6.put hkk r56 ru r6, q7⟩⟩
        have := putT_len acc (.tup ys) kk d
        omega
  · have e : its.drop i = [] := List.drop_eq_nil_of_le (by omega)
    rw [e] at q2
    refine .inl ⟨Y.stop i U1 F2 M2 H2 sv s2 A2.st q2.1 (by omega), ?_⟩
    rcases q2.2 with q4 | q4
    · obtain ⟨s, S'⟩ := A2.froz (.inr trivial)
      obtain ⟨vs', l, ra, rv, rb⟩ := (up s en).of
      exact kQ _ M2 _ _ H2 q4 ((s1.t s2).t s) (Sta.less S' su) (.dit upd_same l ra rv rb)
    · exact kQ _ _ F2 _ H2 (q4 p A2.nM) (s1.t s2) (Sta.less (A2.free (m := .dit acc) ⟨xs, rfl, en.of⟩) su) (.ptr p)
def dDe (di : DI) (ct : CT) (dt : DT) (dk dv : DE) (vs : List Nat) : DE := fun ρ M Q E => dDc di ct dt dk dv vs ρ M Q E ∨ dDn di ct dt dk dv vs ρ M Q E
theorem de_de {kx vx tg iter : Expr} {ifs : List Expr} {scope : Scope} {own : List (Str × Nat)} {di : DI} {ct : CT} (hw : X.w = Wd.w) (hu : X.A.units + 64 < cLine) (hc : X.calm = true) (hK : g.K = X.K) (hN : X.N.Nodup) (hi : PI X tg iter (liftI g W di)) (ok : BlkOk X.N X.env.scope scope own)
    (hv : ∀ i ∈ ct.slots, i ∈ own.map (·.2))
    (hg : ∀ (s : Shared) (H : Hp) (C : Addr) (cl : List (Str × Addr)) (fp : List Addr), PG (X.blk s H scope (PySem.compEnvC scope cl C X.env) fp) tg (ct.tg X.K))
    (ht : ∀ (U : Hp) (s : Shared) (H : Hp) (C : Addr) (cl : List (Str × Addr)) (fp : List Addr), PTs (X.blk s H scope (PySem.compEnvC scope cl C X.env) fp) ifs (liftT ⟨X.K, U⟩ W0 dt))
    (hk : ∀ (U : Hp) (s : Shared) (H : Hp) (C : Addr) (cl : List (Str × Addr)) (fp : List Addr), PE (X.blk s H scope (PySem.compEnvC scope cl C X.env) fp) kx (liftE ⟨X.K, U⟩ W0 dk))
    (he : ∀ (U : Hp) (s : Shared) (H : Hp) (C : Addr) (cl : List (Str × Addr)) (fp : List Addr), PE (X.blk s H scope (PySem.compEnvC scope cl C X.env) fp) vx (liftE ⟨X.K, U⟩ W0 dv)) (hs : ∀ x, foldedSetIterable iter X.env x = pure x := by intro _; rfl) :
    PE X (.DictComp kx vx [⟨tg, iter, ifs, 0⟩] scope pos) (liftE g W (dDe di ct dt dk dv (own.map (·.2)))) := by
  have a := de_dc (W := W) (dt := dt) (dk := dk) (dv := dv) (di := di) hc hK hN hi ok hv hg ht hk he hs (pos := pos)
  have b : PE X (.DictComp kx vx [⟨tg, iter, ifs, 0⟩] scope pos) (liftE g W (dDn di ct dt dk dv (own.map (·.2)))) := by
    obtain ⟨K0, U⟩ := g
    simp only at hK
    subst hK
    exact PE.imp (pe_dn (tt := fun σ H k => ∃ U, liftT ⟨X.K, U⟩ W0 dt σ H k) (tk := fun σ H k => ∃ U, liftE ⟨X.K, U⟩ W0 dk σ H k) (tv := fun σ H k => ∃ U, liftE ⟨X.K, U⟩ W0 dv σ H k) hw hu hc hN hi ok hg (fun s H C cl fp => ⟨fun pins s1 σ H1 Q I ⟨U, q⟩ => (ht U s H C cl fp).run pins s1 σ H1 Q I q⟩)
      (fun s H C cl fp => ⟨fun pins s1 σ H1 Q I ⟨U, q⟩ => (hk U s H C cl fp).run pins s1 σ H1 Q I q⟩) (fun s H C cl fp => ⟨fun pins s1 σ H1 Q I ⟨U, q⟩ => (he U s H C cl fp).run pins s1 σ H1 Q I q⟩) hs) fun σ H k h => lift_dn hv (fun U σ H k q => ⟨U, q⟩) (fun U σ H k q => ⟨U, q⟩) (fun U σ H k q => ⟨U, q⟩) h
  refine (PE.either a b).imp fun σ H k ⟨ρ, M, F, Q, E, S, En, q, kQ, kE⟩ => ?_
  rcases q with q | q
  · exact .inl ⟨ρ, M, F, Q, E, S, En, q, kQ, kE⟩
  · exact .inr ⟨ρ, M, F, Q, E, S, En, q, kQ, kE⟩
end
end DL
namespace DL
variable [Wd]
open PySem L2
section
variable {X : Cx} {g : G} {W : WX} {pos : Pos} {a b c e : Expr} {es : List Expr} {de : DE} {dt : DT} {x : Str}
/-! ### isinstance of the error that a suite holds -/
inductive ClD : D → Value → Prop
  | own (C : Addr) : ClD (.ptr C) (.ref C)
  | ty (n : String) : ClD (.ty n) (.type n)
theorem ClD.to {K : PySem.W.Frag} {F : Hp} {v : V} {d : D} {cv u : Value} (h : ClD d cv) (r : Rep K F v d) (ru : RelV v u) : u = cv := by
  cases h with
  | own => cases r; exact ru
  | ty => cases r; exact ru
inductive IsE (K : PySem.W.Frag) (a C dd : Addr) (M : Mem) (Q : D → Mem → Prop) : List D → Prop
  | mk {d : D} {cv : Value} {b : Bool} {fs : List (Str × D)} : ExcC K C → (dd, MO.xd fs) ∈ M → ClD d cv → PySem.W.kitOne K (.ref C) cv = some b → Q (.bl b) M → IsE K a C dd M Q [.ptr a, d]
theorem cd_isE {a C dd : Addr} {oe : Obj} {pn : List (Addr × Obj)} (hz : Zc (.ref C) (some dd) oe) (hf : ∃ vs, oe.data = .fields vs) : CallD (X.suite a ((a, oe) :: pn)) g (.builtin "isinstance") (fun ds M Q => IsE X.K a C dd M Q ds) := by
  intro pins s σ H vs us k I r h
  obtain ⟨F, M, ds, Q, S, r1, q, kQ⟩ := h
  cases q with
  | mk T hm hc hk q =>
    cases r1 with
    | cons r1 rn =>
      cases rn with
      | cons r2 rn =>
        cases rn
        cases r1
        cases r with
        | cons rx rr =>
          cases rr with
          | cons rt rr =>
            cases rr
            have ec := hc.to r2 rt
            subst ec
            obtain rfl : _ = Value.ref a := rx
            obtain ⟨hget, _⟩ := I.pin (a, oe) (List.mem_append_left _ List.mem_cons_self)
            obtain ⟨ws, hv⟩ := hf
            obtain ⟨_, o, ho, kvs, e1, l, rr⟩ := S.mem _ _ hm
            subst e1
            obtain ⟨mA, hns, hr⟩ := (show ObjOk X.prog X.w H s.heap dd (.xd kvs) from I.hok dd _ ho)
            obtain ⟨od, hod, hl⟩ := lookIn_ns hns
            have J : PySem.W.InstAt s.heap a oe C (some od) := ⟨hget, hz.1, by unfold PySem.W.notCls; rw [hv] <;> rfl, by rw [hz.2]; exact hod⟩
            have hcl : (PySem.W.clsIn X.K C).isSome = true := by
              obtain ⟨cd, hcd, _⟩ := PySem.W.any_some T.hd
              rw [hcd]; rfl
            exact PySem.W.kia_one (PySem.W.kitx_exc hcl T.hg T.hk T.hs T.ha T.hn T.ht T.hm) I.kIn J hk (fun z => nomatch z) fun tk => ⟨.bl _, H, I.kept (t' := tk) fun _ _ z => z, rfl, kQ _ M F _ H q (Same.r F) S (.bl _)⟩
theorem de_type {T : String} (hg : Gl X x) (hm : X.mg x = none) (hv : bootBuiltins x = some (.type T)) (hn : x ≠ "__name__" := by decide) (hd : (x == ("__debug__" : Str)) = false := by decide) : PE X (.Name x pos) (liftE g W (dC (.ty T))) := de_c (v := .ty T) (pe_bltn hg hm hv rfl hn hd) fun _ => .ty T
/-! ### a def with defaults: its promise, the defaults behind -/
def SpD.dflt (sd : SpD) (dd : List D) : SpD := fun ds M Q E => sd (ds ++ dd) M Q E
theorem FnOk.fnDd {P : Program} {w : World} {K : PySem.W.Frag} {mg : Str → Option Value} {base : Heap} {k : Nat} {f : Addr} {fd : FuncData} {ps : List Str} {sd : SpD} {ds : List Value} {dvs : List V} {dd : List D} (ok : FnOk P w K mg base (L2.CX P w) k f fd ps (spOf K sd)) (bi : Binds K fd ps ds) (hd : Vals dvs ds) (rd : ∀ F, Reps K F dvs dd) : FnD P w K mg base k f (SpD.dflt sd dd) :=
  FnR.imp (ok.raw bi hd) fun vs H Q E ⟨U, M, F, ws, Qd, Ed, S, r, h, kQ, kE⟩ => ⟨U, M, F, ws ++ dd, Qd, Ed, S, r.append (rd F), h, kQ, kE⟩
end
/-! ### steps -/
section
variable {ρ : Rho} {M : Mem} {E : XD}
theorem g_var {i : Nat} {d : D} {Q : D → Mem → Prop} (h : at_ ρ i = some d) (q : Q d M) : dVar i ρ M Q E := ⟨d, h, q⟩
theorem g_c {d : D} {Q : D → Mem → Prop} (q : Q d M) : dC d ρ M Q E := q
theorem g_op {r : DR2} {da db : DE} {Q : D → Mem → Prop} (q : da ρ M (fun d M1 => db ρ M1 (fun e M2 => r d e M2 Q) E) E) : dOp r da db ρ M Q E := q
theorem g_nil {Q : List D → Mem → Prop} (q : Q [] M) : dNil ρ M Q E := q
theorem g_cons {de : DE} {dA : DA} {Q : List D → Mem → Prop} (q : de ρ M (fun d M1 => dA ρ M1 (fun ds M2 => Q (d :: ds) M2) E) E) : dCons de dA ρ M Q E := q
theorem g_cb {r : DC} {dA : DA} {Q : D → Mem → Prop} (q : dA ρ M (fun ds M1 => r ds M1 Q) E) : dCB r dA ρ M Q E := q
theorem g_call {sd : SpD} {dA : DA} {Q : D → Mem → Prop} (q : dA ρ M (fun ds M1 => sd ds M1 Q E) E) : dCall sd dA ρ M Q E := q
theorem g_tup {dA : DA} {Q : D → Mem → Prop} (q : dA ρ M (fun ds M' => ds.length ≤ sizeLine ∧ Q (.tup ds) M') E) : dTup dA ρ M Q E := q
theorem g_lst {dA : DA} {Q : D → Mem → Prop} (q : dA ρ M (fun ds M' => ds.length ≤ sizeLine ∧ NewL ds M' Q) E) : dLst dA ρ M Q E := q
theorem g_B {de : DE} {Q : Bool → Mem → Prop} (q : de ρ M (fun d M' => ∃ k, d = .bl k ∧ Q k M') E) : dB de ρ M Q E := q
theorem g_not {dt : DT} {Q : Bool → Mem → Prop} (q : dt ρ M (fun c M1 => Q (!c) M1) E) : dNot dt ρ M Q E := q
theorem g_and {dt du : DT} {Q : Bool → Mem → Prop} (q : dt ρ M (fun c M1 => if c = true then du ρ M1 Q E else Q false M1) E) : dAnd dt du ρ M Q E := q
theorem g_or {dt du : DT} {Q : Bool → Mem → Prop} (q : dt ρ M (fun c M1 => if c = true then Q true M1 else du ρ M1 Q E) E) : dOr dt du ρ M Q E := q
theorem g_if {dt : DT} {da db : DE} {Q : D → Mem → Prop} (q : dt ρ M (fun c M1 => if c = true then da ρ M1 Q E else db ρ M1 Q E) E) : dIf dt da db ρ M Q E := q
theorem g_bl {k : Bool} {R : Bool → Prop} (q : R k) : ∃ j, D.bl k = .bl j ∧ R j := ⟨k, rfl, q⟩
theorem g_in {k : Int} {R : Int → Prop} (q : R k) : ∃ j, D.int k = .int j ∧ R j := ⟨k, rfl, q⟩
theorem g_iff {c : Prop} [Decidable c] {a b : Prop} (h : c → a) (h' : ¬ c → b) : if (decide c) = true then a else b := by
  by_cases q : c
  · rw [if_pos (decide_eq_true q)]; exact h q
  · rw [if_neg (by simpa using q)]; exact h' q
theorem g_ift {k : Bool} {a b : Prop} (e : k = true) (h : a) : if k = true then a else b := by rw [if_pos e]; exact h
theorem g_iff' {k : Bool} {a b : Prop} (e : k = false) (h : b) : if k = true then a else b := by rw [if_neg (by rw [e]; exact Bool.false_ne_true)]; exact h
theorem g_fld {K : PySem.W.Frag} {de : DE} {f : Str} {Q : D → Mem → Prop} (q : de ρ M (fun d M' => ∃ C es d', IsO M' d C es ∧ FldOk K C f ∧ Has es f d' ∧ Q d' M') E) : dFld K de f ρ M Q E := q
end
section
variable {ρ : Rho} {M : Mem} {nx : NX} {rt : D → Mem → Prop} {bk ct : NX} {ex : Addr → Addr → Rho → Mem → Prop}
theorem g_next (q : nx ρ M) : sNext nx rt bk ct ex ρ M := q
theorem g_seq {t u : DS} (q : t (u nx rt bk ct ex) rt bk ct ex ρ M) : sSeq t u nx rt bk ct ex ρ M := q
theorem g_drop {de : DE} (q : de ρ M (fun _ M' => nx ρ M') (fun C dd M' => ex C dd ρ M')) : sDrop de nx rt bk ct ex ρ M := q
theorem g_ret {de : DE} (q : de ρ M rt (fun C dd M' => ex C dd ρ M')) : sRet de nx rt bk ct ex ρ M := q
theorem g_retN (q : rt .non M) : sRetN nx rt bk ct ex ρ M := q
theorem g_sif {dt : DT} {t u : DS} (q : dt ρ M (fun c M1 => if c = true then t nx rt bk ct ex ρ M1 else u nx rt bk ct ex ρ M1) (fun C dd M' => ex C dd ρ M')) : sIf dt t u nx rt bk ct ex ρ M := q
theorem g_asg {de : DE} {dg : DG} (q : de ρ M (fun d M1 => dg d ρ M1 nx) (fun C dd M' => ex C dd ρ M')) : sAsg de dg nx rt bk ct ex ρ M := q
theorem g_cont (q : ct ρ M) : sCont nx rt bk ct ex ρ M := q
theorem g_brk (q : bk ρ M) : sBreak nx rt bk ct ex ρ M := q
theorem g_sfor {di : DI} {dg : DG} {body : DS} (q : di ρ M (fun ds st M1 => goF dg body st nx rt ex ds ρ M1) (fun C dd M' => ex C dd ρ M')) : sFor di dg body nx rt bk ct ex ρ M := q
theorem g_nm {i : Nat} {d : D} {Q : NX} (q : Q (put ρ i (some d)) M) : gNm i d ρ M Q := q
end
end DL
local macro_rules | `(tactic| walk_at "dl") => `(tactic| repeat (first | (with_reducible first | refine DL.g_seq ?_ | refine DL.g_asg ?_ | refine DL.g_sif ?_ | refine DL.g_ret ?_ | refine DL.g_retN ?_ | refine DL.g_drop ?_ | refine DL.g_next ?_ | refine DL.g_cont ?_ | refine DL.g_brk ?_ | refine DL.g_sfor ?_ | refine DL.g_op ?_ | refine DL.g_c ?_ | refine DL.g_nil ?_ | refine DL.g_cons ?_ | refine DL.g_cb ?_ | refine DL.g_call ?_ | refine DL.g_tup ?_ | refine DL.g_lst ?_ | refine DL.g_B ?_ | refine DL.g_not ?_ | refine DL.g_and ?_ | refine DL.g_or ?_ | refine DL.g_if ?_ | refine DL.g_bl ?_ | refine DL.g_in ?_ | refine DL.g_nm ?_ | refine DL.g_fld ?_ | refine DL.IntB.int ?_ | refine DL.AddR.int ?_ | refine DL.SubR.int ?_ | refine DL.EqR.int ?_ | refine DL.EqR.str ?_ | refine DL.EqR.bl ?_ | refine DL.IntC.int ?_ | refine DL.IsR.non ?_) | (refine DL.g_var (by first | assumption | rfl) ?_)))
local macro_rules | `(tactic| walk_at "nof") => `(tactic| repeat (first | exact DL.NoF.nil | refine DL.NoF.cons (by decide) ?_))
namespace DL
variable [Wd]
open PySem L2 PySem.Spec PyProof.Rows
section
variable {X : Cx} {g : G} {W : WX} {pos : Pos} {a b c e tg : Expr} {es : List Expr} {de : DE}
/-! ### what a walk meets: a list, a tuple, the keys of a dict -/
/-- the keys of a locked dict whose keys are tuples -/
def ItH (d : Addr) (o : Obj) (xs : List (NestedKey × Addr × Value)) : It where
  go := fun i H => H d = some (.frz o (hoN d xs)) ∧ i < xs.length
  yld := fun i H x H' => H' = H ∧ ∃ y, xs[i]? = some y ∧ x = .ref y.2.1
  stop := fun i H => H d = some (.frz o (hoN d xs)) ∧ xs.length ≤ i
theorem frzN {X : Cx} {pins : List (Addr × Obj)} {σ : L2.St} {H : Hp} {s : Shared} {d : Addr} {o : Obj} {xs : List (NestedKey × Addr × Value)} (I : Inv X pins σ H s) (h : H d = some (.frz o (hoN d xs))) :
    (d == sysModules) = false ∧ s.heap.get? d = some o ∧ o.ExactDict ∧ ∃ (es : Array DictEntry) (ep : Nat), o.data = .dict es ep ∧ es.size = xs.length ∧ ∀ (i : Nat) (y : NestedKey × Addr × Value), xs[i]? = some y → ∃ en : DictEntry, es[i]? = some en ∧ en.key = .ref y.2.1 := by
  obtain ⟨h0, ⟨z, y, nd, o', es, ep, h1, h2, h3, h4⟩, _⟩ := (show ObjOk X.prog X.w H s.heap d (.frz o (hoN d xs)) from I.hok d _ h)
  rw [h0] at h1
  cases h1
  have hsz : es.size = xs.length := by rw [← Array.length_toList, h4, List.length_map]
  refine ⟨y, h0, h2, es, ep, h3, hsz, fun i y hy => ?_⟩
  have q : es.toList[i]? = some ⟨y.1.hash Wd.w, .ref y.2.1, y.2.2⟩ := by rw [h4, List.getElem?_map, hy]; rfl
  rw [Array.getElem?_toList] at q
  exact ⟨_, q, rfl⟩
theorem turn_nk {P : Program} {w : World} {K : PySem.W.Frag} {tg : Expr} {d : Addr} {o : Obj} {es : Array DictEntry} {ep : Nat} {xs : List (NestedKey × Addr × Value)} (it : Addr) (hod : o.data = .dict es ep) : Turn P w K tg (ItH d o xs) [it] it (fun i h => h.IsKeyIter it d i xs.length ep) := by
  refine ⟨List.mem_singleton.mpr rfl, fun i h st b hb => ?_, fun i h h' st kp => st.at fun ob q => kp it (List.mem_singleton.mpr rfl) ob q, ?_, ?_, fun A i s Q E st q => wpAny_pyIter_keyiter st q⟩
  · obtain rfl : b = it := by simpa using hb
    obtain ⟨ob, q, c, dd⟩ := st
    exact ⟨ob, q, fun v z => by rw [dd] at z; cases z⟩
  · rintro X hP hw hK hc i pins s σ H E I hf st ⟨hd, hi⟩
    subst hP hw hK
    obtain ⟨f0, f1, f2, f3, f4, f5⟩ := hf it (List.mem_singleton.mpr rfl)
    obtain ⟨hy, hg, hx, es', ep', hdt, hsz, hk⟩ := frzN I hd
    obtain ⟨rfl, rfl⟩ := dict_ep hod hdt
    obtain ⟨en, q1, q2⟩ := hk i xs[i] (List.getElem?_eq_getElem hi)
    refine next_key_item st hg hdt hsz q1 fun h' st' sb => ?_
    obtain ⟨oi, e, c, dd⟩ := id st'
    rw [q2]
    exact ⟨.ref xs[i].2.1, rfl, go_of (s := { s with heap := h' }) e c dd (by decide) ⟨.ref xs[i].2.1, H, I.turned (t' := s.toks) (fun b ob hb e => (sb.2 b hb).trans e) f0 f1 f3 f4 f5, rfl, ⟨rfl, _, List.getElem?_eq_getElem hi, rfl⟩, st', fun b hb => (hf b hb).1⟩⟩
  · rintro X hP hw hK hc i pins s σ H E I hf st ⟨hd, hi⟩
    subst hP hw hK
    obtain ⟨f0, f1, f2, f3, f4, f5⟩ := hf it (List.mem_singleton.mpr rfl)
    obtain ⟨hy, hg, hx, es', ep', hdt, hsz, hk⟩ := frzN I hd
    obtain ⟨rfl, rfl⟩ := dict_ep hod hdt
    exact next_key_end (I.ok.hd hc) st hg hdt hsz hi fun h' eb => ⟨rfl, I.turned (t' := s.toks) (fun b ob hb e => eb b ob hb e) f0 f1 f3 f4 f5⟩
def iAnyV (K : PySem.W.Frag) (td : TE) : TI := fun σ H R => td σ H fun x H1 => ∃ a, x = .ref a ∧ (((∃ xs, SqL K H1 a xs) ∧ R (Itl K a) H1) ∨ ((∃ xs, SqT K H1 a xs) ∧ R (Itt K a) H1) ∨ (∃ o kvs, H1 a = some (.frz o (.dK kvs)) ∧ R (Itk a o kvs) H1) ∨ ∃ o xs, H1 a = some (.frz o (hoN a xs)) ∧ R (ItH a o xs) H1)
theorem pi_anyV {td : TE} (h : PE X e td) : PI X tg e (iAnyV X.K td) := by
  refine ⟨fun pins s σ H R I q => ?_⟩
  refine thn (h.run pins s σ H _ I q) fun u s1 ⟨x, H1, I1, rx, p, ex, q1⟩ => ?_
  subst ex
  obtain rfl : u = Value.ref p := rx
  rcases q1 with ⟨⟨xs, hx⟩, q2⟩ | ⟨⟨xs, hx⟩, q2⟩ | ⟨o, kvs, hd, q2⟩ | ⟨o, xs, hd, q2⟩
  · obtain ⟨its, _, pl, _⟩ := I1.list hx
    exact wpAny_pyIter_list pl.isList (pi_one (tk := s1.toks) I1 _ (turn_list p _) ⟨_, Heap.get?_push_size _ rfl, rfl, rfl⟩ q2)
  · obtain ⟨its, _, pl, _⟩ := I1.tuple hx
    exact wpAny_pyIter_tuple (show s1.heap.IsTuple p its.toArray from pl) (pi_one (tk := s1.toks) I1 _ (turn_tuple p _) ⟨_, Heap.get?_push_size _ rfl, rfl, rfl⟩ q2)
  · obtain ⟨z1, z2, z3, ents, ep, vs, z4, z5, _, _⟩ := I1.frzK hd
    refine iter_keys z1 z2 z3 z4 (pi_one (J := Itk p o kvs) (tk := s1.toks) I1 _ (turn_keys _ z4) ⟨_, Heap.get?_push_size _ rfl, rfl, ?_⟩ q2)
    rw [z5]
    rfl
  · obtain ⟨hy, hg, hx, es', ep, hdt, hsz, _⟩ := frzN I1 hd
    refine iter_keys hy hg hx hdt (pi_one (J := ItH p o xs) (tk := s1.toks) I1 _ (turn_nk _ hdt) ⟨_, Heap.get?_push_size _ rfl, rfl, ?_⟩ q2)
    rw [hsz]
    rfl
def tLk3 (td : TE) : TE := fun σ H Q => td σ H fun x H1 => Q x H1 ∨ ∃ d u, x = .ref d ∧ H1 d = some u ∧ Mut (some u) ∧ ∀ z, Q x (upd H1 d (.frz z u))
theorem pe_lk3 {td : TE} (h : PE X e td) : PE X e (tLk3 td) := by
  refine ⟨fun pins s σ H Q I q => thn (h.run pins s σ H _ I q) fun v s1 ⟨x, H1, I1, rx, q1⟩ => ?_⟩
  rcases q1 with q1 | ⟨d, u, ex, hd, mu, q1⟩
  · exact ⟨_, H1, I1, rx, q1⟩
  · subst ex
    obtain ⟨z, I2⟩ := I1.lock hd mu
    exact ⟨_, _, I2, rx, q1 z⟩
inductive IsI (M : Mem) : D → List D → (Mem → Prop) → Prop
  | lst {d : D} {ds : List D} {st : Mem → Prop} : IsL M d ds st → IsI M d ds st
  | tup (ds : List D) : IsI M (.tup ds) ds fun _ => True
  | dic (xs : List (Key × D)) : IsI M (.dic xs) (xs.map fun kv => keyD kv.1) fun _ => True
  | dit (xs : List (D × D)) : IsI M (.dit xs) (xs.map (·.1)) fun _ => True
theorem lock_any {F : Hp} {M : Mem} {H : Hp} {a : Addr} {u : HO} {R : V → Hp → Prop} (S : Sta g F M H) (e : F a = some u) (hd : isDct u = true) (mu : Mut (some u)) (q : Rd H a u)
    (h : ∀ z U' H', H' a = some (.frz z u) → (∃ V, V a = some (.frz z u) ∧ Same V U' ∧ ∀ b o, V b = some o → ∃ z u, o = HO.frz z u) → Same g.U U' → Sta ⟨g.K, U'⟩ F M H' → R (.ref a) H') :
    (∃ z, H a = some (.frz z u) ∧ R (.ref a) H) ∨ (H a = some u ∧ Mut (some u) ∧ ∀ z, R (.ref a) (upd H a (.frz z u))) := by
  obtain ⟨K, U⟩ := g
  have lone : ∀ (z : Obj) (U' : Hp), U' a = some (.frz z u) → ∃ V : Hp, V a = some (.frz z u) ∧ Same V U' ∧ ∀ b o, V b = some o → ∃ z u, o = HO.frz z u := fun z U' hU => by
    refine ⟨upd noH a (.frz z u), upd_same, fun b w hb => ?_, fun b w hb => ?_⟩
    · by_cases q : b = a
      · subst q
        rw [upd_same] at hb
        cases hb
        exact hU
      · rw [upd_ne q] at hb; cases hb
    · by_cases q : b = a
      · subst q
        rw [upd_same] at hb
        cases hb
        exact ⟨_, _, rfl⟩
      · rw [upd_ne q] at hb; cases hb
  rcases q with q | ⟨z, q⟩
  · refine .inr ⟨q, mu, fun z => ?_⟩
    obtain ⟨S', hU⟩ := S.lock (z := z) e hd q
    exact h z _ _ upd_same (lone z _ upd_same) (fun b w hb => by rw [upd_ne (ne_of_none hb hU)]; exact hb) S'
  · obtain ⟨S', su⟩ := sta_hold S e hd q
    exact .inl ⟨z, q, h z _ _ q (lone z _ upd_same) su S'⟩
def iAny (de : DE) : DI := fun ρ M Q E => de ρ M (fun d M' => ∃ ds st, IsI M' d ds st ∧ Q ds st M') E
theorem di_any (hK : g.K = X.K) (h : PE X e (liftE g W de)) : PI X tg e (liftI g W (iAny de)) :=
  (pi_anyV (pe_lk3 h)).imp fun σ H R ⟨ρ, M, F, Q, E, S, En, q, kQ, kE⟩ => ⟨ρ, M, F, _, E, S, En, q, fun d M' F' v H' ⟨ds, st, hi, z⟩ s S' r => by
    cases hi with
    | lst hl =>
      obtain ⟨p, xs, ev, hq, r1, r2⟩ := hl.sq S' r
      exact .inl ⟨p, ev, .inl ⟨⟨xs, by rw [← hK]; exact hq⟩, kQ ds st M' g.U noH F' _ H' z (Same.r _) same_no s S' (yields_list hK r2)⟩⟩
    | tup =>
      cases r with
      | tup hs r =>
        refine .inl ⟨_, rfl, .inr (.inl ⟨⟨_, by rw [← hK]; exact S'.sub.sqT hs⟩, kQ _ _ M' g.U noH F' _ H' z (Same.r _) same_no s S' ⟨fun _ _ e => (nomatch e), fun i d U F2 M2 H2 _ s2 S2 _ e => ?_, fun i U F2 M2 H2 _ s2 S2 _ e => ?_⟩⟩)⟩
        · obtain ⟨v, hv, rv⟩ := r.get e
          refine ⟨⟨_, v, by rw [← hK]; exact S2.sub.sqT (sqT_mono s2 hs), hv⟩, fun x H3 ⟨eH, y⟩ => ?_⟩
          subst eH
          have y' := y _ (by rw [← hK]; exact S2.sub.sqT (sqT_mono s2 hs))
          rw [hv] at y'
          cases y'
          exact ⟨F2, Same.r F2, S2, rv.mono s2⟩
        · exact ⟨_, by rw [← hK]; exact S2.sub.sqT (sqT_mono s2 hs), by rw [r.length]; exact e⟩
    | dic xs =>
      have main := lock_dic (R := fun x H1 => ∃ a, x = V.ref a ∧ ∃ o kvs, H1 a = some (.frz o (.dK kvs)) ∧ R (Itk a o kvs) H1) S' r fun d zo kvs U' H2 ev hF hH ⟨V, hU, sV, plV⟩ su S2 l rr => ⟨d, ev, zo, kvs, hH, kQ _ _ M' U' V F' _ H2 z su sV s S2 ⟨plV, fun i y U F2 M2 H3 su2 s2 S3 _ ey => ?_, fun i U F2 M2 H3 su2 s2 S3 _ ey => ?_⟩⟩
      · obtain ⟨d, u, ev, q⟩ := main
        rcases q with ⟨zo, hd, p, e1, o, kvs, e2, e3⟩ | ⟨hd, mu, q⟩
        · exact .inl ⟨p, e1, .inr (.inr (.inl ⟨o, kvs, e2, e3⟩))⟩
        · refine .inr ⟨d, u, ev, hd, mu, fun zo => ?_⟩
          obtain ⟨p, e1, o, kvs, e2, e3⟩ := q zo
          exact ⟨p, e1, .inr (.inr (.inl ⟨o, kvs, e2, e3⟩))⟩
      · have hlt : i < kvs.length := by
          rw [kvs_len l]
          have := (List.getElem?_eq_some_iff.mp ey).1
          rwa [List.length_map] at this
        refine ⟨⟨held hU su2 S3, hlt⟩, fun w H4 ⟨e4, k, u, e1, e2⟩ => ?_⟩
        obtain ⟨dv, e5, r5⟩ := kv_get l rr e1
        rw [List.getElem?_map, e5] at ey
        cases ey
        subst e2 e4
        exact ⟨_, Same.r _, S3, rep_key k⟩
      · refine ⟨held hU su2 S3, ?_⟩
        rw [List.length_map] at ey
        rw [kvs_len l]
        exact ey
    | dit es =>
      obtain ⟨K, U⟩ := g
      cases r with
      | @dit a xs vs _ ha l ra rv rb =>
        have en : EntI K F' xs es := Ents.to ⟨vs, l, ra, rv, rb⟩
        have ln := en.length
        have main := lock_any (g := ⟨K, U⟩) (R := fun x H1 => ∃ p, x = V.ref p ∧ ∃ o xs, H1 p = some (.frz o (hoN p xs)) ∧ R (ItH p o xs) H1) S' ha rfl trivial (S'.sub.nk ha) (fun zo U' H2 hH ⟨V, hU, sV, plV⟩ su S2 => ⟨a, rfl, zo, xs, hH, kQ _ _ M' U' V F' _ H2 z su sV s S2 ⟨plV, fun i y U F2 M2 H3 su2 s2 S3 _ ey => ?_, fun i U F2 M2 H3 su2 s2 S3 _ ey => ?_⟩⟩)
        · rcases main with ⟨zo, hd, p, e1, o, ys, e2, e3⟩ | ⟨hd, mu, q⟩
          · exact .inl ⟨p, e1, .inr (.inr (.inr ⟨o, ys, e2, e3⟩))⟩
          refine .inr ⟨a, _, rfl, hd, mu, fun zo => ?_⟩
          obtain ⟨p, e1, o, ys, e2, e3⟩ := q zo
          exact ⟨p, e1, .inr (.inr (.inr ⟨o, ys, e2, e3⟩))⟩
        · have hlt : i < xs.length := by
            have := (List.getElem?_eq_some_iff.mp ey).1
            rw [List.length_map] at this
            omega
          refine ⟨⟨held hU su2 S3, hlt⟩, fun w H4 ⟨e4, y', e1, e2⟩ => ?_⟩
          have h1 : (xs.map fun x => L2.V.ref x.2.1)[i]? = some (L2.V.ref y'.2.1) := by rw [List.getElem?_map, e1]; rfl
          obtain ⟨d', e5, r5⟩ := en.keys.get' h1
          rw [ey] at e5
          cases e5
          subst e2 e4
          exact ⟨_, Same.r _, S3, r5.mono s2⟩
        · refine ⟨held hU su2 S3, ?_⟩
          rw [List.length_map] at ey
          omega, kE⟩
end
end DL
namespace DL
variable [Wd]
open PySem L2 PySem.Spec PyProof.Rows
/-! ### names for the generated texts -/
abbrev rAdd : DR2 := fun d e M Q => AddR M Q d e
abbrev rSub : DR2 := fun d e M Q => SubR M Q d e
abbrev rMul : DR2 := fun d e M Q => MulR M Q d e
abbrev rDiv : DR2 := fun d e M Q => DivR M Q d e
abbrev rMod : DR2 := fun d e M Q => ModR M Q d e
abbrev rPow : DR2 := fun d e M Q => PowR M Q d e
abbrev rLt : DR2 := fun d e M Q => IntB (fun i j => decide (i < j)) M Q d e
abbrev rLe : DR2 := fun d e M Q => IntB (fun i j => decide (i ≤ j)) M Q d e
abbrev rGt : DR2 := fun d e M Q => IntB (fun i j => decide (j < i)) M Q d e
abbrev rGe : DR2 := fun d e M Q => IntB (fun i j => decide (j ≤ i)) M Q d e
abbrev rEq : DR2 := fun d e M Q => EqR false M Q d e
abbrev rNe : DR2 := fun d e M Q => EqR true M Q d e
abbrev rIs : DR2 := fun d e M Q => IsR false M Q d e
abbrev rIsn : DR2 := fun d e M Q => IsR true M Q d e
abbrev rIn : DR2 := fun d e M Q => InR false M Q d e
abbrev rNin : DR2 := fun d e M Q => InR true M Q d e
abbrev rIx : DR2 := fun d e M Q => IxQ M Q d e
abbrev rLen : DC := fun ds M Q => LenC M Q ds
abbrev rList : DC := fun ds M Q => ListC M Q ds
abbrev rTuple : DC := fun ds M Q => TupC M Q ds
abbrev rInt : DC := fun ds M Q => IntC M Q ds
abbrev rSum : DC := fun ds M Q => SumC M Q ds
abbrev rAny : DC := fun ds M Q => AnyC false M Q ds
abbrev rAll : DC := fun ds M Q => AnyC true M Q ds
abbrev rMin : DC := fun ds M Q => MinC M Q ds
abbrev rIsE (K : PySem.W.Frag) (a C dd : Addr) : DC := fun ds M Q => IsE K a C dd M Q ds
abbrev rApp : DM := fun d ds M Q => AppM M Q d ds
theorem dboot_sum : bootBuiltins "sum" = some (.builtin "sum") := by decide +kernel
theorem dboot_any : bootBuiltins "any" = some (.builtin "any") := by decide +kernel
theorem dboot_all : bootBuiltins "all" = some (.builtin "all") := by decide +kernel
theorem dboot_min : bootBuiltins "min" = some (.builtin "min") := by decide +kernel
theorem dboot_isinstance : bootBuiltins "isinstance" = some (.builtin "isinstance") := by decide +kernel
theorem dboot_ValueError : bootBuiltins "ValueError" = some (.type "ValueError") := by decide +kernel
theorem dboot_int : bootBuiltins "int" = some (.type "int") := by decide +kernel
theorem dboot_list : bootBuiltins "list" = some (.type "list") := by decide +kernel
theorem dboot_tuple : bootBuiltins "tuple" = some (.type "tuple") := by decide +kernel
theorem hu1 {k : Nat} {A : Around} (hr : Room k A) : A.units + 1 < cLine := by have := hr.un; omega
theorem hu64 {k : Nat} {A : Around} (hr : Room k A) : A.units + 64 < cLine := by have := hr.un; omega
theorem hu65 {k : Nat} {A : Around} (hr : Room k A) : A.units + 65 < cLine := by have := hr.un; omega
section
variable {X : Cx} {g : G} {W : WX} {sts : List Stmt}
/-- what is never reached -/
def sNever : DS := fun _ _ _ _ _ _ _ => False
theorem dss_never : PSs X sts (liftS g W sNever) := pss_never.imp fun D σ H ⟨ρ, M, F, nx, rt, bk, ct, ex, S, En, q, _⟩ => q
end
end DL
namespace DL
variable [Wd]
open PySem L2 PySem.Spec PyProof.Rows
/-! ### the memory as a map -/
def Nd (M : Mem) : Prop := (M.map (·.1)).Nodup
def Free (p : Addr) (M : Mem) : Prop := ∀ m, (p, m) ∉ M
/-- what is not of ps stays -/
def Fr (ps : List Addr) (M M' : Mem) : Prop := ∀ a m, a ∉ ps → (a, m) ∈ M → (a, m) ∈ M'
theorem Fr.refl {ps : List Addr} {M : Mem} : Fr ps M M := fun _ _ _ h => h
theorem Fr.trans {ps : List Addr} {M M' M'' : Mem} (h : Fr ps M M') (h' : Fr ps M' M'') : Fr ps M M'' := fun a m ha hm => h' a m ha (h a m ha hm)
theorem Fr.mono {ps qs : List Addr} {M M' : Mem} (h : Fr ps M M') (s : ∀ a ∈ ps, a ∈ qs) : Fr qs M M' := fun a m ha hm => h a m (fun z => ha (s a z)) hm
theorem Fr.cons {ps : List Addr} {M M' : Mem} {p : Addr × MO} (h : Fr ps M M') : Fr ps M (p :: M') := fun a m ha hm => List.mem_cons_of_mem _ (h a m ha hm)
theorem Free.ne {p a : Addr} {M : Mem} {m : MO} (h : Free p M) (hm : (a, m) ∈ M) : a ≠ p := fun e => h m (e ▸ hm)
theorem nd_new {p : Addr} {m : MO} {M : Mem} (h : Free p M) (nd : Nd M) : Nd ((p, m) :: M) :=
  List.nodup_cons.mpr ⟨fun z => by
    obtain ⟨⟨b, x⟩, hq, e⟩ := List.mem_map.mp z
    cases e
    exact h x hq, nd⟩
theorem Nd.one {M : Mem} (nd : Nd M) {a : Addr} {m n : MO} (h1 : (a, m) ∈ M) (h2 : (a, n) ∈ M) : m = n := key_unique nd h1 h2
structure UpdOk (a : Addr) (m n : MO) (M M' : Mem) : Prop where
  up : Upd a m n M M'
  nd : Nd M'
  at_ : (a, n) ∈ M'
  fr : Fr [a] M M'
theorem upd_ex {a : Addr} {m : MO} (n : MO) {M : Mem} (nd : Nd M) (h : (a, m) ∈ M) : ∃ M', UpdOk a m n M M' := by
  have key : ∀ {M : Mem}, (a, m) ∈ M → ∃ M', Upd a m n M M' ∧ (a, n) ∈ M' ∧ Fr [a] M M' := by
    intro M
    induction M with
    | nil => intro h; cases h
    | cons p r ih =>
      intro h
      rcases List.mem_cons.mp h with z | z
      · subst z
        refine ⟨_, .head, List.mem_cons_self, fun b x hb hm => ?_⟩
        rcases List.mem_cons.mp hm with z | z
        · cases z; exact absurd List.mem_cons_self hb
        · exact List.mem_cons_of_mem _ z
      · obtain ⟨M', u, h1, h2⟩ := ih z
        refine ⟨_, .tail u, List.mem_cons_of_mem _ h1, fun b x hb hm => ?_⟩
        rcases List.mem_cons.mp hm with z | z
        · rw [z]; exact List.mem_cons_self
        · exact List.mem_cons_of_mem _ (h2 b x hb z)
  obtain ⟨M', u, h1, h2⟩ := key h
  exact ⟨M', u, by unfold Nd; rw [u.keys]; exact nd, h1, h2⟩
structure DelOk (a : Addr) (m : MO) (M M' : Mem) : Prop where
  up : Del a m M M'
  nd : Nd M'
  fr : Fr [a] M M'
theorem del_ex {a : Addr} {m : MO} {M : Mem} (nd : Nd M) (h : (a, m) ∈ M) : ∃ M', DelOk a m M M' := by
  have key : ∀ {M : Mem}, (a, m) ∈ M → ∃ M', Del a m M M' := by
    intro M
    induction M with
    | nil => intro h; cases h
    | cons p r ih =>
      intro h
      rcases List.mem_cons.mp h with z | z
      · subst z
        exact ⟨_, .head⟩
      · obtain ⟨M', u⟩ := ih z
        exact ⟨_, .tail u⟩
  obtain ⟨M', u⟩ := key h
  exact ⟨M', u, nd.sublist u.sub, fun b x hb hm => u.keys hm (fun e => hb (e ▸ List.mem_cons_self))⟩
theorem not_mem2 {a p c : Addr} (h1 : a ≠ p) (h2 : a ≠ c) : a ∉ [p, c] := by
  intro h
  rcases List.mem_cons.mp h with e | e
  · exact h1 e
  · rcases List.mem_cons.mp e with e | e
    · exact h2 e
    · cases e
theorem not_mem1 {a p : Addr} (h1 : a ≠ p) : a ∉ [p] := by
  intro h
  rcases List.mem_cons.mp h with e | e
  · exact h1 e
  · cases e
theorem Fr.l2 {p c : Addr} {M M' : Mem} (h : Fr [p] M M') : Fr [p, c] M M' := h.mono fun a ha => by
  rcases List.mem_cons.mp ha with e | e
  · rw [e]; exact List.mem_cons_self
  · cases e
theorem Fr.r2 {p c : Addr} {M M' : Mem} (h : Fr [c] M M') : Fr [p, c] M M' := h.mono fun a ha => List.mem_cons_of_mem _ ha
theorem len_le_line {n : Nat} (h : n ≤ 1000000 := by decide) : n ≤ sizeLine := by rw [sizeLine_eq]; omega
theorem atI_nat' {α : Type} {xs : List α} {j : Nat} {x : α} {i : Int} (e : i = (j : Int)) (h : xs[j]? = some x) : atI xs i = some x := by
  have hlt : j < xs.length := (List.getElem?_eq_some_iff.mp h).1
  subst e
  unfold atI ixN
  rw [if_pos (by omega), if_pos (by omega)]
  simpa using h
/-! ### the source that a law draws from -/
def srcD (c : Addr) (flags : List Bool) (i : Nat) (n s : Int) : List D := [.ptr c, .lst (flags.map .bl), .int i, .int n, .int s]
structure Src (p c : Addr) (b : Nat) (M : Mem) : Prop where
  ex : ∃ (cells : List Int) (flags : List Bool) (i : Nat) (n s : Int), (p, MO.lst (srcD c flags i n s)) ∈ M ∧ (c, MO.lst (cells.map .int)) ∈ M ∧ flags.length = cells.length ∧ cells.length ≤ 63 ∧ 0 ≤ n ∧ n ≤ b ∧ 0 ≤ s ∧ s < 1000003
  ne : p ≠ c
theorem Src.fr {p c : Addr} {b : Nat} {M M' : Mem} {ps : List Addr} (h : Src p c b M) (f : Fr ps M M') (h1 : p ∉ ps) (h2 : c ∉ ps) : Src p c b M' := by
  obtain ⟨cells, flags, i, n, s, a1, a2, r⟩ := h.ex
  exact ⟨⟨cells, flags, i, n, s, f _ _ h1 a1, f _ _ h2 a2, r⟩, h.ne⟩
theorem Src.more {p c : Addr} {b b' : Nat} {M : Mem} (h : Src p c b M) (hb : b ≤ b') : Src p c b' M := by
  obtain ⟨cells, flags, i, n, s, a1, a2, a3, a4, a5, a6, r⟩ := h.ex
  exact ⟨⟨cells, flags, i, n, s, a1, a2, a3, a4, a5, by omega, r⟩, h.ne⟩
def spDraw : SpD := fun ds M Q _ => ∃ p c many b, ds = [.ptr p, .int many] ∧ 0 < many ∧ many < 2 ^ 62 ∧ Nd M ∧ b < 100000000 ∧ Src p c b M ∧ ∀ r M', 0 ≤ r → r < many → Nd M' → Src p c (b + 1) M' → Fr [p, c] M M' → Q (.int r) M'
end DL
namespace DL
variable [Wd]
open PySem L2 PySem.Spec PyProof.Rows
/-! ### the helpers that every law has -/
def dDraw : DS := sSeq (sAsg (dOp rIx (dVar 0) (dC (.int 0))) (gNm 2)) (sSeq (sAsg (dOp rIx (dVar 0) (dC (.int 2))) (gNm 3)) (sSeq (sIf (dB (dOp rLt (dVar 3) (dCB rLen (dCons (dVar 2) (dNil))))) (sSeq (sAsg (dOp rIx (dVar 2) (dVar 3)) (gNm 4)) (sSeq (sAsg (dOp rDiv (dVar 4) (dVar 1)) (gSub (dVar 2) (dVar 3))) (sSeq (sIf (dOr (dNot (dB (dOp rIx (dOp rIx (dVar 0) (dC (.int 1))) (dVar 3)))) (dB (dOp rEq (dOp rIx (dVar 2) (dVar 3)) (dC (.int 0))))) (sAsg (dOp rAdd (dVar 3) (dC (.int 1))) (gSub (dVar 0) (dC (.int 2)))) (sNext)) (sRet (dOp rMod (dCB rInt (dCons (dVar 4) (dNil))) (dVar 1)))))) (sNext)) (sSeq (sIf (dB (dOp rEq (dOp rIx (dVar 0) (dC (.int 4))) (dC (.int 0)))) (sRet (dC (.int 0))) (sNext)) (sSeq (sAsg (dOp rAdd (dOp rIx (dVar 0) (dC (.int 3))) (dC (.int 1))) (gSub (dVar 0) (dC (.int 3)))) (sSeq (sAsg (dOp rMod (dCB rInt (dCons (dOp rMul (dOp rAdd (dOp rIx (dVar 0) (dC (.int 4))) (dOp rMul (dOp rIx (dVar 0) (dC (.int 3))) (dC (.int 7919)))) (dC (.int 48271))) (dNil))) (dC (.int 2147483647))) (gNm 5)) (sRet (dOp rMod (dOp rDiv (dOp rMod (dCB rInt (dCons (dOp rMul (dVar 5) (dVar 5)) (dNil))) (dC (.int 998244353))) (dC (.int 7))) (dVar 1))))))))
theorem ixq_ptr {M : Mem} {p : Addr} {ds : List D} {i : Int} {e : D} {Q : D → Mem → Prop} (h : (p, MO.lst ds) ∈ M) (ha : atI ds i = some e) (q : Q e M) : IxQ M Q (.ptr p) (.int i) := .seq (.ptr h) ha q
theorem ixq_lst {M : Mem} {ds : List D} {i : Int} {e : D} {Q : D → Mem → Prop} (ha : atI ds i = some e) (q : Q e M) : IxQ M Q (.lst ds) (.int i) := .seq (.lst ds) ha q
theorem wide_of {i : Int} {b : Nat} (h0 : 0 ≤ i) (h : i < 2 ^ b) : i.natAbs < 2 ^ b := by
  have e : ((i.natAbs : Nat) : Int) = i := Int.natAbs_of_nonneg h0
  have h2 : ((i.natAbs : Nat) : Int) < ((2 ^ b : Nat) : Int) := by rw [e]; simpa using h
  exact Int.ofNat_lt.mp h2
theorem set_map {α β : Type} (f : α → β) (xs : List α) (i : Nat) (a : α) : (xs.map f).set i (f a) = (xs.set i a).map f := by
  rw [List.map_set]
theorem pureDraw {ds : List D} {M : Mem} {Qd : D → Mem → Prop} {Ed : XD} (h : spDraw ds M Qd Ed) : dDraw (fun _ M' => Qd .non M') Qd (fun _ _ => False) (fun _ _ => False) (fun C dd _ M' => Ed C dd M') (start0 ["a", "b", "c", "d", "e", "f"] ds) M := by
  obtain ⟨p, c, many, b, rfl, h0, h1, nd, hb, S, kQ⟩ := h
  obtain ⟨⟨cells, flags, i, n, s, hp, hc, hl, h63, hn0, hnb, hs0, hs1⟩, ne⟩ := S
  unfold dDraw
  walk_at "dl"
  refine ixq_ptr hp (e := .ptr c) (by rfl) ?_
  walk_at "dl"
  refine ixq_ptr hp (e := .int i) (by rfl) ?_
  walk_at "dl"
  refine .seq (.ptr hc) ?_
  walk_at "dl"
  refine g_iff (fun hlt => ?_) fun hge => ?_
  · have hi : i < cells.length := by rw [List.length_map] at hlt; omega
    obtain ⟨z, hz⟩ : ∃ z, cells[i]? = some z := ⟨cells[i], by simp [hi]⟩
    have hz' : (cells.map D.int)[i]? = some (D.int z) := by rw [List.getElem?_map, hz]; rfl
    obtain ⟨fl, hf⟩ : ∃ fl, flags[i]? = some fl := ⟨flags[i]'(by omega), by simp [hl, hi]⟩
    have hf' : (flags.map D.bl)[i]? = some (D.bl fl) := by rw [List.getElem?_map, hf]; rfl
    walk_at "dl"
    refine ixq_ptr hc (atI_nat' rfl hz') ?_
    walk_at "dl"
    refine DivR.int (wide_div h0 (wide_of (b := 62) (by omega) h1) (by decide) (by decide)) ?_
    obtain ⟨M1, U1⟩ := upd_ex (n := .lst ((cells.map D.int).set i (.int (z / many)))) nd hc
    have hp1 := U1.fr _ _ (not_mem1 ne) hp
    refine ⟨_, rfl, _, rfl, .lst U1.up (j := i) ?_ ?_⟩
    · unfold ixN
      rw [if_pos (by omega), if_pos (by rw [List.length_map]; omega)]
      rfl
    have hset : (cells.map D.int).set i (.int (z / many)) = (cells.set i (z / many)).map .int := List.map_set.symm
    have h1c : (c, MO.lst ((cells.set i (z / many)).map .int)) ∈ M1 := by rw [← hset]; exact U1.at_
    have hl1 : flags.length = (cells.set i (z / many)).length := by rw [List.length_set]; exact hl
    have hz1 : ((cells.set i (z / many)).map D.int)[i]? = some (D.int (z / many)) := by rw [List.getElem?_map, List.getElem?_set_self hi]; rfl
    -- behind the test, whichever way
    have fin : ∀ (i' : Nat) M2, Nd M2 → (p, MO.lst (srcD c flags i' n s)) ∈ M2 → (c, MO.lst ((cells.set i (z / many)).map .int)) ∈ M2 → Fr [p, c] M M2 → Qd (.int (z % many)) M2 := fun i' M2 nd2 a1 a2 f =>
      kQ _ _ (Int.emod_nonneg _ (by omega)) (Int.emod_lt_of_pos _ h0) nd2 ⟨⟨_, flags, i', n, s, a1, a2, hl1, by rw [List.length_set]; exact h63, hn0, by omega, hs0, hs1⟩, ne⟩ f
    have step : ∀ M2, Nd M2 → (p, MO.lst (srcD c flags i n s)) ∈ M2 → (c, MO.lst ((cells.set i (z / many)).map .int)) ∈ M2 → Fr [p, c] M M2 → ∀ (nx : NX) (k : Bool), if k = true then sAsg (dOp rAdd (dVar 3) (dC (.int 1))) (gSub (dVar 0) (dC (.int 2))) (sRet (dOp rMod (dCB rInt (dCons (dVar 4) dNil)) (dVar 1)) nx Qd (fun _ _ => False) (fun _ _ => False) (fun C dd _ M' => Ed C dd M')) Qd (fun _ _ => False) (fun _ _ => False) (fun C dd _ M' => Ed C dd M')
          [some (.ptr p), some (.int many), some (.ptr c), some (.int i), some (.int z), none] M2
        else sNext (sRet (dOp rMod (dCB rInt (dCons (dVar 4) dNil)) (dVar 1)) nx Qd (fun _ _ => False) (fun _ _ => False) (fun C dd _ M' => Ed C dd M')) Qd (fun _ _ => False) (fun _ _ => False) (fun C dd _ M' => Ed C dd M') [some (.ptr p), some (.int many), some (.ptr c), some (.int i), some (.int z), none] M2 := by
      intro M2 nd2 a1 a2 f nx k
      cases k with
      | false =>
        refine g_iff' rfl ?_
        walk_at "dl"
        exact ModR.int h0 (fin i M2 nd2 a1 a2 f)
      | true =>
        refine g_ift rfl ?_
        walk_at "dl"
        obtain ⟨M3, U3⟩ := upd_ex (n := .lst (srcD c flags (i + 1) n s)) nd2 a1
        refine SetQ.lst (j := 2) U3.up (by rfl) ?_
        walk_at "dl"
        exact ModR.int h0 (fin (i + 1) M3 U3.nd U3.at_ (U3.fr _ _ (not_mem1 (Ne.symm ne)) a2) (f.trans U3.fr.l2))
    have f1 : Fr [p, c] M M1 := U1.fr.r2
    walk_at "dl"
    refine ixq_ptr hp1 (e := .lst (flags.map .bl)) (by rfl) ?_
    walk_at "dl"
    refine ixq_lst (atI_nat' rfl hf') ?_
    walk_at "dl"
    cases fl with
    | false =>
      refine g_ift rfl ?_
      exact step M1 U1.nd hp1 h1c f1 _ true
    | true =>
      refine g_iff' rfl ?_
      walk_at "dl"
      refine ixq_ptr h1c (atI_nat' rfl hz1) ?_
      walk_at "dl"
      exact step M1 U1.nd hp1 h1c f1 _ _
  · walk_at "dl"
    refine ixq_ptr hp (e := .int s) (by rfl) ?_
    walk_at "dl"
    by_cases hs : s = 0
    · refine g_ift (by simp [hs]) ?_
      walk_at "dl"
      exact kQ _ _ (Int.le_refl _) h0 nd ⟨⟨cells, flags, i, n, s, hp, hc, hl, h63, hn0, by omega, hs0, hs1⟩, ne⟩ Fr.refl
    · refine g_iff' (by simp [hs]) ?_
      walk_at "dl"
      refine ixq_ptr hp (e := .int n) (by rfl) ?_
      walk_at "dl"
      obtain ⟨M3, U3⟩ := upd_ex (n := .lst (srcD c flags i (n + 1) s)) nd hp
      refine SetQ.lst (j := 3) U3.up (by rfl) ?_
      have hc3 := U3.fr _ _ (not_mem1 (Ne.symm ne)) hc
      have S3 : Src p c (b + 1) M3 := ⟨⟨cells, flags, i, n + 1, s, U3.at_, hc3, hl, h63, by omega, by omega, hs0, hs1⟩, ne⟩
      walk_at "dl"
      refine ixq_ptr U3.at_ (e := .int s) (by rfl) ?_
      walk_at "dl"
      refine ixq_ptr U3.at_ (e := .int (n + 1)) (by rfl) ?_
      walk_at "dl"
      refine MulR.int (wide_mul (a := 40) (b := 40) (wide_of (by omega) (by omega)) (by decide) (by decide) (by decide) (by decide)) ?_
      walk_at "dl"
      refine MulR.int (wide_mul (a := 60) (b := 40) (wide_of (by omega) (by omega)) (by decide) (by decide) (by decide) (by decide)) ?_
      walk_at "dl"
      refine ModR.int (by decide) ?_
      have m0 := Int.emod_nonneg ((s + (n + 1) * 7919) * 48271) (b := 2147483647) (by decide)
      have m1 := Int.emod_lt_of_pos ((s + (n + 1) * 7919) * 48271) (b := 2147483647) (by decide)
      generalize (s + (n + 1) * 7919) * 48271 % 2147483647 = mx at m0 m1 ⊢
      walk_at "dl"
      refine MulR.int (wide_mul (a := 40) (b := 40) (wide_of (by omega) (by omega)) (wide_of (by omega) (by omega)) (by decide) (by decide) (by decide)) ?_
      walk_at "dl"
      refine ModR.int (by decide) ?_
      walk_at "dl"
      refine DivR.int (wide_div (b := 10) (by decide) (by decide) (by decide) (by decide)) ?_
      walk_at "dl"
      refine ModR.int h0 ?_
      exact kQ _ _ (Int.emod_nonneg _ (by omega)) (Int.emod_lt_of_pos _ h0) U3.nd S3 U3.fr.l2
end DL
namespace DL
variable [Wd]
open PySem L2 PySem.Spec PyProof.Rows
section
variable {M : Mem} {ρ : Rho} {st : Mem → Prop} {de dk dv : DE} {dt : DT} {j : Nat}
/-! ### comprehensions that change nothing -/
theorem g_t {a b : Prop} (h : a) : if true = true then a else b := by rw [if_pos rfl]; exact h
theorem fil_t {α : Type} (xs : List α) : xs.filter (fun _ => true) = xs := List.filter_eq_self.mpr fun _ _ => rfl
theorem go_cons {ct : CT} {Q : List D → Mem → Prop} {d : D} {ds acc : List D} : goC ct dt de st ρ Q (d :: ds) acc M = (st M ∧ ct.go d ρ (fun ρ' => dt ρ' M (fun b M2 => if b = true then de ρ' M2 (fun e M3 => goC ct dt de st ρ Q ds (acc ++ [e]) M3) noE else goC ct dt de st ρ Q ds acc M2) noE)) := rfl
theorem lc_fil {α : Type} {ct : CT} (g f : α → D) (p : α → Bool) {Q : List D → Mem → Prop} (hst : st M) : ∀ {xs : List α} {acc : List D}, (∀ x ∈ xs, ∀ (P1 : D → Mem → Prop) (P0 : Mem → Prop), (p x = true → P1 (f x) M) → (p x = false → P0 M) → ct.go (g x) ρ (fun ρ' => dt ρ' M (fun b M2 => if b = true then de ρ' M2 P1 noE else P0 M2) noE)) →
    Q (acc ++ (xs.filter p).map f) M → goC ct dt de st ρ Q (xs.map g) acc M
  | [], acc, _, hQ => ⟨hst, by simpa using hQ⟩
  | x :: xs, acc, h, hQ => by
    rw [List.map_cons, go_cons]
    refine ⟨hst, h x List.mem_cons_self _ _ (fun hp => ?_) fun hp => ?_⟩
    · refine lc_fil g f p hst (fun y hy => h y (List.mem_cons_of_mem _ hy)) ?_
      rw [List.filter_cons, if_pos hp] at hQ
      simpa using hQ
    · refine lc_fil g f p hst (fun y hy => h y (List.mem_cons_of_mem _ hy)) ?_
      rw [List.filter_cons, if_neg (by rw [hp]; exact Bool.false_ne_true)] at hQ
      exact hQ
/-- [e for x in xs] -/
theorem lc_map {α : Type} (g f : α → D) {xs : List α} {Q : List D → Mem → Prop} (hst : st M) (h : ∀ x ∈ xs, ∀ P1 : D → Mem → Prop, P1 (f x) M → de (put ρ j (some (g x))) M P1 noE) (hQ : Q (xs.map f) M) : goC (.nm j) dYes de st ρ Q (xs.map g) [] M := by
  refine lc_fil g f (fun _ => true) hst (fun x hx P1 P0 h1 _ => ?_) (by rw [fil_t]; exact hQ)
  show (if true = true then de (put ρ j (some (g x))) M P1 noE else P0 M)
  rw [if_pos rfl]
  exact h x hx P1 (h1 rfl)
/-- [e for a, b, .. in xs] -/
theorem lc_mapT {α : Type} {is : List Nat} (g f : α → D) (t : α → List D) {xs : List α} {Q : List D → Mem → Prop} (hst : st M) (h : ∀ x ∈ xs, g x = .tup (t x) ∧ (t x).length = is.length ∧ ∀ P1 : D → Mem → Prop, P1 (f x) M → de (putAll ρ is (t x)) M P1 noE) (hQ : Q (xs.map f) M) : goC (.tp is) dYes de st ρ Q (xs.map g) [] M := by
  refine lc_fil g f (fun _ => true) hst (fun x hx P1 P0 h1 _ => ?_) (by rw [fil_t]; exact hQ)
  obtain ⟨a1, a2, a3⟩ := h x hx
  refine ⟨t x, a1, a2, ?_⟩
  show (if true = true then de (putAll ρ is (t x)) M P1 noE else P0 M)
  rw [if_pos rfl]
  exact a3 P1 (h1 rfl)
/-- [e for x in xs if t] -/
theorem lc_if {α : Type} (g f : α → D) (p : α → Bool) {xs : List α} {Q : List D → Mem → Prop} (hst : st M) (ht : ∀ x ∈ xs, ∀ P : Bool → Mem → Prop, P (p x) M → dt (put ρ j (some (g x))) M P noE) (h : ∀ x ∈ xs, p x = true → ∀ P1 : D → Mem → Prop, P1 (f x) M → de (put ρ j (some (g x))) M P1 noE)
    (hQ : Q ((xs.filter p).map f) M) : goC (.nm j) dt de st ρ Q (xs.map g) [] M := by
  refine lc_fil g f p hst (fun x hx P1 P0 h1 h0 => ?_) hQ
  refine ht x hx _ ?_
  cases e : p x with
  | true => rw [if_pos rfl]; exact h x hx e P1 (h1 e)
  | false => rw [if_neg Bool.false_ne_true]; exact h0 e
theorem go_consD {ct : CT} {Q : List (Key × D) → Mem → Prop} {d : D} {ds : List D} {acc : List (Key × D)} : goD ct dt dk dv st ρ Q (d :: ds) acc M = (st M ∧ ct.go d ρ (fun ρ' => dt ρ' M (fun b M2 => if b = true then dk ρ' M2 (fun y M3 => ∃ k, y = keyD k ∧ dv ρ' M3 (fun e M4 => goD ct dt dk dv st ρ Q ds (putD acc k e) M4) noE) noE else goD ct dt dk dv st ρ Q ds acc M2) noE)) := rfl
/-- {k: v for x in xs} -/
theorem dc_map {α : Type} (g : α → D) (k : α → Key) (f : α → D) {Q : List (Key × D) → Mem → Prop} (hst : st M) : ∀ {xs : List α} {acc : List (Key × D)}, (∀ x ∈ xs, (∀ P1 : D → Mem → Prop, P1 (keyD (k x)) M → dk (put ρ j (some (g x))) M P1 noE) ∧ ∀ P1 : D → Mem → Prop, P1 (f x) M → dv (put ρ j (some (g x))) M P1 noE) →
    Q (xs.foldl (fun a x => putD a (k x) (f x)) acc) M → goD (.nm j) dYes dk dv st ρ Q (xs.map g) acc M
  | [], acc, _, hQ => ⟨hst, hQ⟩
  | x :: xs, acc, h, hQ => by
    rw [List.map_cons, go_consD]
    have key : dk (put ρ j (some (g x))) M (fun y M3 => ∃ kk, y = keyD kk ∧ dv (put ρ j (some (g x))) M3 (fun e M4 => goD (.nm j) dYes dk dv st ρ Q (xs.map g) (putD acc kk e) M4) noE) noE :=
      (h x List.mem_cons_self).1 _ ⟨k x, rfl, (h x List.mem_cons_self).2 _ (dc_map g k f hst (fun y hy => h y (List.mem_cons_of_mem _ hy)) hQ)⟩
    exact ⟨hst, @g_t _ _ (goD (.nm j) dYes dk dv st ρ Q (xs.map g) acc M) key⟩
end
/-! ### own errors -/
/-- __init__ of an error with one field -/
def spErr (C : Addr) (f : Str) : SpD := fun ds M Q _ => ∃ q d, ds = [.ptr q, d] ∧ (q, MO.raw (exo q C none)) ∈ M ∧ Nd M ∧ ∀ dx M', Free dx M → Upd q (.raw (exo q C none)) (.raw (exo q C (some dx))) M M' → Q .non ((dx, .exd dx [(f, d)]) :: M')
theorem pureErr {K : PySem.W.Frag} {C : Addr} {f : Str} {N : List Str} {ds : List D} {M : Mem} {Qd : D → Mem → Prop} {Ed : XD} (T : OexC K C) (nf : PySem.W.findIn K (.ref C) f = some none) (hN : N.length = 2) (h : spErr C f ds M Qd Ed) :
    sOst K f (dVar 0) (dVar 1) (fun _ M' => Qd .non M') Qd (fun _ _ => False) (fun _ _ => False) (fun C dd _ M' => Ed C dd M') (start0 N ds) M := by
  obtain ⟨q, d, rfl, hq, nd, kQ⟩ := h
  refine ⟨d, rfl, .ptr q, rfl, q, C, rfl, T, nf, .inl ⟨hq, fun dx hx => ?_⟩⟩
  obtain ⟨M', U⟩ := upd_ex (n := .raw (exo q C (some dx))) nd hq
  exact ⟨M', U.up, kQ dx M' hx U.up⟩
theorem g_raise {C : Addr} {f : Str} {dA : DA} {ρ : Rho} {M : Mem} {nx : NX} {rt : D → Mem → Prop} {bk ct : NX} {ex : Addr → Addr → Rho → Mem → Prop} (h : dA ρ M (fun ds M1 => ∃ d, ds = [d] ∧ Nd M1 ∧ ∀ dx, Free dx M1 → ex C dx ρ ((dx, .xd [(f, d)]) :: M1)) (fun C dd M' => ex C dd ρ M'))
    (mono : ∀ Q Q' : List D → Mem → Prop, (∀ ds M, Q ds M → Q' ds M) → dA ρ M Q (fun C dd M' => ex C dd ρ M') → dA ρ M Q' (fun C dd M' => ex C dd ρ M')) : sRaise C (spErr C f) dA nx rt bk ct ex ρ M := by
  refine mono _ _ (fun ds M1 ⟨d, e, nd, k⟩ => ?_) h
  subst e
  refine ⟨by simp, fun q hq => ⟨q, d, rfl, List.mem_cons_self, nd_new hq nd, fun dx M' hx u => ?_⟩⟩
  cases u with
  | tail u => exact absurd u.old (hq _)
  | head =>
    have hx1 : Free dx M1 := fun m hm => hx m (List.mem_cons_of_mem _ hm)
    exact ⟨rfl, dx, _, _, _, .tail .head, .head, hx1, k dx hx1⟩
end DL
namespace DL
variable [Wd]
open PySem L2 PySem.Spec PyProof.Rows
section
variable {ρ : Rho} {M : Mem} {E : XD}
theorem g_lc {di : DI} {ct : CT} {dt : DT} {de : DE} {vs : List Nat} {Q : D → Mem → Prop} (q : di ρ M (fun ds st M1 => ds.length < sizeLine ∧ goC ct dt de st (wipeD ρ vs) (fun acc M2 => NewL acc M2 Q) ds [] M1) E) : dLc di ct dt de vs ρ M Q E := q
theorem g_lc2 {di di1 : DI} {ct ct1 : CT} {dt dt1 : DT} {de : DE} {vs vs1 : List Nat} {Q : D → Mem → Prop} (q : di ρ M (fun ds st M1 => goC2 ct dt di1 ct1 dt1 de vs1 st (wipeD ρ vs) (fun acc M2 => NewL acc M2 Q) ds [] M1) E) : dLc2 di ct dt di1 ct1 dt1 de vs vs1 ρ M Q E := q
theorem g_dc {di : DI} {ct : CT} {dt : DT} {dk dv : DE} {vs : List Nat} {Q : D → Mem → Prop} (q : di ρ M (fun ds st M1 => ds.length < sizeLine ∧ goD ct dt dk dv st (wipeD ρ vs) (fun acc M2 => NewM (.dic acc) (.dic acc) M2 Q) ds [] M1) E) : dDc di ct dt dk dv vs ρ M Q E := q
theorem g_iany {de : DE} {Q : List D → (Mem → Prop) → Mem → Prop} (q : de ρ M (fun d M' => ∃ ds st, IsI M' d ds st ∧ Q ds st M') E) : iAny de ρ M Q E := q
theorem g_iitm {de : DE} {Q : List D → (Mem → Prop) → Mem → Prop} (q : de ρ M (fun d M' => ∃ xs, d = .dic xs ∧ Q (itemsD xs) (fun _ => True) M') E) : iItm de ρ M Q E := q
theorem g_irg1 {dA : DA} {Q : List D → (Mem → Prop) → Mem → Prop} (q : dA ρ M (fun ds M' => ∃ j : Int, ds = [.int j] ∧ -(2 ^ 62) ≤ j ∧ j < 2 ^ 62 ∧ Q (rng 0 j.toNat) (fun _ => True) M') E) : iRg1 dA ρ M Q E := q
theorem g_sl {de : DE} {l h : DO} {Q : D → Mem → Prop} (q : de ρ M (fun d M1 => l ρ M1 (fun lo M2 => h ρ M2 (fun hi M3 => SlQ M3 Q lo hi d) E) E) E) : dSl de l h ρ M Q E := q
theorem g_onone {Q : Option Int → Mem → Prop} (q : Q none M) : oNone ρ M Q E := q
theorem g_osome {de : DE} {Q : Option Int → Mem → Prop} (q : de ρ M (fun d M' => ∃ i, d = .int i ∧ Q (some i) M') E) : oSome de ρ M Q E := q
theorem g_con {K : PySem.W.Frag} {de : DE} {f : Str} {Q : D → Mem → Prop} (q : de ρ M (fun d M' => ∃ C mc i u, d = .ptr C ∧ ClX.CRead K C mc ∧ ClX.CVal K C mc f (.int i) u ∧ Q (.int i) M') E) : dCon K de f ρ M Q E := q
theorem g_bm {T : String} {r : DM} {do_ : DE} {dA : DA} {Q : D → Mem → Prop} (q : do_ ρ M (fun d M1 => TyD T M1 d ∧ dA ρ M1 (fun ds M2 => r d ds M2 Q) E) E) : dBM T r do_ dA ρ M Q E := q
theorem g_andV {da db : DE} {Q : D → Mem → Prop} (q : da ρ M (fun d M1 => ∃ c, d = .bl c ∧ if c = true then db ρ M1 Q E else Q (.bl false) M1) E) : dAndV da db ρ M Q E := q
theorem g_orV {da db : DE} {Q : D → Mem → Prop} (q : da ρ M (fun d M1 => ∃ c, d = .bl c ∧ if c = true then Q (.bl true) M1 else db ρ M1 Q E) E) : dOrV da db ρ M Q E := q
theorem g_notV {da : DE} {Q : D → Mem → Prop} (q : da ρ M (fun d M1 => ∃ c, d = .bl c ∧ Q (.bl (!c)) M1) E) : dNotV da ρ M Q E := q
theorem g_make {C : Addr} {sd : SpD} {dA : DA} {Q : D → Mem → Prop} (q : dA ρ M (fun ds M1 => ∀ x, (∀ m, (x, m) ∉ M1) → sd (.ptr x :: ds) ((x, .obj C []) :: M1) (fun d M2 => d = .non ∧ Q (.ptr x) M2) E) E) : dMake C sd dA ρ M Q E := q
theorem g_meth {C : Addr} {m : Str} {sd : SpD} {do_ : DE} {dA : DA} {Q : D → Mem → Prop} (q : do_ ρ M (fun d M1 => ∃ es, IsO M1 d C es ∧ NoF m es ∧ dA ρ M1 (fun ds M2 => sd (d :: ds) M2 Q E) E) E) : dMeth C m sd do_ dA ρ M Q E := q
theorem g_intsome {k : Int} {R : Int → Prop} (q : R k) : ∃ i, D.int k = .int i ∧ R i := ⟨k, rfl, q⟩
theorem g_listint {k : Int} {R : Int → Prop} (q : R k) : ∃ i, [D.int k] = [.int i] ∧ R i := ⟨k, rfl, q⟩
end
section
variable {ρ : Rho} {M : Mem} {nx : NX} {rt : D → Mem → Prop} {bk ct : NX} {ex : Addr → Addr → Rho → Mem → Prop}
theorem g_fldS {K : PySem.W.Frag} {do_ de : DE} {f : Str} (q : de ρ M (fun d M1 => do_ ρ M1 (fun x M2 => ∃ q C es es' M3, x = .ptr q ∧ FldOk K C f ∧ es.length < 1000 ∧ Put es f d es' ∧ Upd q (.obj C es) (.obj C es') M2 M3 ∧ nx ρ M3) (fun C dd M' => ex C dd ρ M')) (fun C dd M' => ex C dd ρ M')) : sFldD K do_ de f nx rt bk ct ex ρ M := q
theorem g_gsub {do_ di_ : DE} {d : D} {Q : NX} (q : do_ ρ M (fun o M1 => di_ ρ M1 (fun i M2 => SetQ M2 d (fun M3 => Q ρ M3) o i) fun _ _ _ => False) fun _ _ _ => False) : gSub do_ di_ d ρ M Q := q
end
end DL
local macro_rules | `(tactic| walk_at "dl") => `(tactic| repeat (first | (with_reducible first | refine DL.g_seq ?_ | refine DL.g_asg ?_ | refine DL.g_sif ?_ | refine DL.g_ret ?_ | refine DL.g_retN ?_ | refine DL.g_drop ?_ | refine DL.g_next ?_ | refine DL.g_cont ?_ | refine DL.g_brk ?_ | refine DL.g_sfor ?_ | refine DL.g_op ?_ | refine DL.g_c ?_ | refine DL.g_nil ?_ | refine DL.g_cons ?_ | refine DL.g_cb ?_ | refine DL.g_call ?_ | refine DL.g_tup ?_ | refine DL.g_lst ?_ | refine DL.g_B ?_ | refine DL.g_not ?_ | refine DL.g_and ?_ | refine DL.g_or ?_ | refine DL.g_if ?_ | refine DL.g_bl ?_ | refine DL.g_in ?_ | refine DL.g_nm ?_ | refine DL.g_fld ?_ | refine DL.IntB.int ?_ | refine DL.AddR.int ?_ | refine DL.SubR.int ?_ | refine DL.EqR.int ?_ | refine DL.EqR.str ?_ | refine DL.EqR.bl ?_ | refine DL.IntC.int ?_ | refine DL.IsR.non ?_ | refine DL.g_lc ?_ | refine DL.g_lc2 ?_ | refine DL.g_dc ?_ | refine DL.g_iany ?_ | refine DL.g_iitm ?_ | refine DL.g_irg1 ?_ | refine DL.g_sl ?_ | refine DL.g_onone ?_ | refine DL.g_osome ?_ | refine DL.g_con ?_ | refine DL.g_bm ?_ | refine DL.g_andV ?_ | refine DL.g_orV ?_ | refine DL.g_notV ?_ | refine DL.g_make ?_ | refine DL.g_meth ?_ | refine DL.g_listint ?_ | refine DL.g_fldS ?_ | refine DL.g_gsub ?_) | (refine DL.g_var (by first | assumption | rfl) ?_)))
namespace DL
variable [Wd]
open PySem L2 PySem.Spec PyProof.Rows
/-! ### the source -/
def dSource : DS := sSeq (sAsg (dLc (iAny (dSl (dVar 0) (oNone) (oSome (dC (.int 63))))) (.nm 2) (dYes) (dCB rInt (dCons (dVar 2) (dNil))) [2]) (gNm 1)) (sRet (dLst (dCons (dVar 1) (dCons (dLc (iAny (dVar 1)) (.nm 2) (dYes) (dOp rGe (dVar 2) (dOp rPow (dC (.int 10)) (dC (.int 18)))) [2]) (dCons (dC (.int 0)) (dCons (dC (.int 0)) (dCons (dOp rMod (dCB rInt (dCons (dCB rSum (dCons (dVar 1) (dNil))) (dNil))) (dC (.int 1000003))) (dNil))))))))
def spSource : SpD := fun ds M Q _ => ∃ ns : List Int, ds = [.rol (ns.map .int)] ∧ ns.length ≤ 63 ∧ Nd M ∧ ∀ p c M', Free p M → Free c M → Nd M' → Src p c 0 M' → Fr [] M M' → Q (.ptr p) M'
theorem cut_map {α : Type} (f : α → D) (xs : List α) (hi : Option Int) : ∃ k, cutD (xs.map f) none hi = (xs.take k).map f := by
  unfold cutD
  refine ⟨HT.sIx (xs.map f).length (xs.map f).length hi - HT.sIx (xs.map f).length 0 none, ?_⟩
  have e : HT.sIx (xs.map f).length 0 none = 0 := rfl
  rw [e, List.drop_zero, List.map_take]
theorem lt_line {n : Nat} (h : n ≤ 1000000) : n < sizeLine := by rw [sizeLine_eq]; omega
theorem pureSource {ds : List D} {M : Mem} {Qd : D → Mem → Prop} {Ed : XD} {a b c : Str} (h : spSource ds M Qd Ed) : dSource (fun _ M' => Qd .non M') Qd (fun _ _ => False) (fun _ _ => False) (fun C dd _ M' => Ed C dd M') (start0 [a, b, c] ds) M := by
  obtain ⟨ns, rfl, hl, nd, kQ⟩ := h
  unfold dSource
  walk_at "dl"
  obtain ⟨k, ek⟩ := cut_map D.int ns (some 63)
  have hk : (ns.take k).length ≤ 63 := by rw [List.length_take]; omega
  generalize ns.take k = cs at ek hk
  refine .lst (.rol _) (.inl ?_)
  rw [ek]
  walk_at "dl"
  refine ⟨_, _, .lst (.lst _), lt_line (by rw [List.length_map]; omega), lc_map D.int D.int trivial (fun x _ P1 h1 => ?_) (.inr fun c hc => ?_)⟩
  · walk_at "dl"
    exact h1
  · walk_at "dl"
    have hm : (c, MO.lst (cs.map .int)) ∈ (c, MO.lst (cs.map .int)) :: M := List.mem_cons_self
    refine ⟨_, _, .lst (.ptr hm), lt_line (by rw [List.length_map]; omega), lc_map D.int (fun x => .bl (decide (10 ^ 18 ≤ x))) hm (fun x _ P1 h1 => ?_) (.inl ?_)⟩
    · walk_at "dl"
      refine PowR.int ⟨by decide, by decide, by decide⟩ ?_
      walk_at "dl"
      exact h1
    · walk_at "dl"
      refine SumC.lst (ns := cs) (.ptr hm) ?_
      walk_at "dl"
      refine ModR.int (by decide) ?_
      walk_at "dl"
      refine ⟨len_le_line (n := 5), .inr fun p hp => ?_⟩
      have m0 := Int.emod_nonneg cs.sum (b := 1000003) (by decide)
      have m1 := Int.emod_lt_of_pos cs.sum (b := 1000003) (by decide)
      have ne : p ≠ c := fun e => hp _ (by rw [e]; exact List.mem_cons_self)
      refine kQ p c _ (fun m hm => hp m (List.mem_cons_of_mem _ hm)) hc (nd_new hp (nd_new hc nd)) ⟨⟨cs, cs.map fun x => decide (10 ^ 18 ≤ x), 0, 0, _, ?_, List.mem_cons_of_mem _ hm, by rw [List.length_map], hk, Int.le_refl _, Int.le_refl _, m0, m1⟩, ne⟩ (Fr.refl.cons.cons)
      unfold srcD
      rw [List.map_map]
      exact List.mem_cons_self
/-! ### names -/
def dNames (sd : SpD) : DS := sSeq (sAsg (dC (.str ("abcdefghijklmnopqrstuvwxyz" : Str))) (gNm 2)) (sSeq (sAsg (dCall sd (dCons (dVar 0) (dCons (dC (.int 4)) (dNil)))) (gNm 3)) (sSeq (sAsg (dCall sd (dCons (dVar 0) (dCons (dC (.int 4)) (dNil)))) (gNm 4)) (sSeq (sAsg (dCall sd (dCons (dVar 0) (dCons (dC (.int 2)) (dNil)))) (gNm 5)) (sSeq (sAsg (dCall sd (dCons (dVar 0) (dCons (dC (.int 26)) (dNil)))) (gNm 6)) (sSeq (sAsg (dOp rIx (dVar 2) (dCall sd (dCons (dVar 0) (dCons (dC (.int 26)) (dNil))))) (gNm 7)) (sRet (dLc (iRg1 (dCons (dVar 1) (dNil))) (.nm 8) (dYes) (dOp rAdd (dOp rAdd (dOp rMul (dVar 7) (dVar 3)) (dOp rIx (dVar 2) (dOp rMod (dCB rInt (dCons (dOp rAdd (dVar 6) (dVar 8)) (dNil))) (dC (.int 26))))) (dOp rMul (dVar 7) (dOp rAdd (dVar 4) (dOp rMul (dVar 5) (dOp rMod (dCB rInt (dCons (dVar 8) (dNil))) (dC (.int 3))))))) [8])))))))
/-- the letters of a made name: so long, small letters -/
structure NameOk (x : Str) : Prop where
  l1 : 1 ≤ x.length
  l2 : x.length ≤ 9
  lo : ∀ c ∈ x.cps, 97 ≤ c ∧ c ≤ 122
def spNames : SpD := fun ds M Q _ => ∃ (p c : Addr) (b n : Nat), ds = [.ptr p, .int n] ∧ n ≤ 26 ∧ Nd M ∧ b < 10000000 ∧ Src p c b M ∧ ∀ (xs : List Str) a M', xs.length = n → xs.Nodup → (∀ x ∈ xs, NameOk x) → Nd M' → Src p c (b + 5) M' → Free a M → a ≠ p → a ≠ c → (a, MO.lst (xs.map .str)) ∈ M' → Fr [p, c] M M' → Q (.ptr a) M'
theorem rep_one (f : Nat) (n : Int) : (repS ⟨#[f]⟩ n).cps = (List.replicate n.toNat f).toArray := by
  unfold repS
  show (List.replicate n.toNat #[f]).foldl (· ++ ·) #[] = _
  have k : ∀ (m : Nat) (b : Array Nat), (List.replicate m #[f]).foldl (· ++ ·) b = b ++ (List.replicate m f).toArray := by
    intro m
    induction m with
    | zero => intro b; simp
    | succ m ih =>
      intro b
      rw [List.replicate_succ, List.foldl_cons, ih, List.replicate_succ, Array.append_assoc]
      congr 1
      simp
  rw [k]
  simp
def letters : Str := "abcdefghijklmnopqrstuvwxyz"
theorem letter_at (i : Nat) (h : i < 26) : letters.cps.toList[i]? = some (97 + i) := by
  have k : ∀ i : Fin 26, letters.cps.toList[i.val]? = some (97 + i.val) := by decide +kernel
  exact k ⟨i, h⟩
/-- f .. f l f .. f -/
def nameS (f l m n : Nat) : Str := ⟨(List.replicate m f ++ [l] ++ List.replicate n f).toArray⟩
theorem nameS_ok {f l m n : Nat} (hf : 97 ≤ f ∧ f ≤ 122) (hl : 97 ≤ l ∧ l ≤ 122) (h : m + n ≤ 8) : NameOk (nameS f l m n) := by
  have sz : (nameS f l m n).length = m + 1 + n := by
    show (List.replicate m f ++ [l] ++ List.replicate n f).toArray.size = _
    simp
    omega
  refine ⟨by omega, by omega, fun c hc => ?_⟩
  have hc' : c ∈ List.replicate m f ++ [l] ++ List.replicate n f := by
    have : c ∈ (List.replicate m f ++ [l] ++ List.replicate n f).toArray := hc
    simpa using this
  rcases List.mem_append.mp hc' with h1 | h1
  · rcases List.mem_append.mp h1 with h2 | h2
    · rw [(List.mem_replicate.mp h2).2]; exact hf
    · rw [List.mem_singleton.mp h2]; exact hl
  · rw [(List.mem_replicate.mp h1).2]; exact hf
theorem nameS_at {f l m n : Nat} : (nameS f l m n).cps.toList[m]? = some l := by
  show (List.replicate m f ++ [l] ++ List.replicate n f)[m]? = some l
  rw [List.append_assoc, List.getElem?_append_right (by simp)]
  simp
theorem spDraw_of {p c : Addr} {many : Int} {b : Nat} {M : Mem} {Q : D → Mem → Prop} {E : XD} (h0 : 0 < many) (h1 : many < 2 ^ 62) (nd : Nd M) (hb : b < 100000000) (S : Src p c b M) (k : ∀ r M', 0 ≤ r → r < many → Nd M' → Src p c (b + 1) M' → Fr [p, c] M M' → Q (.int r) M') : spDraw [.ptr p, .int many] M Q E :=
  ⟨p, c, many, b, rfl, h0, h1, nd, hb, S, k⟩
theorem pureNames {ds : List D} {M : Mem} {Qd : D → Mem → Prop} {Ed : XD} {x1 x2 x3 x4 x5 x6 x7 x8 x9 : Str} (h : spNames ds M Qd Ed) : dNames spDraw (fun _ M' => Qd .non M') Qd (fun _ _ => False) (fun _ _ => False) (fun C dd _ M' => Ed C dd M') (start0 [x1, x2, x3, x4, x5, x6, x7, x8, x9] ds) M := by
  obtain ⟨p, c, b, n, rfl, hn, nd, hb, S, kQ⟩ := h
  unfold dNames
  walk_at "dl"
  refine spDraw_of (by decide) (by decide) nd (by omega) S fun r1 M1 a1 b1 nd1 S1 f1 => ?_
  walk_at "dl"
  refine spDraw_of (by decide) (by decide) nd1 (by omega) S1 fun r2 M2 a2 b2 nd2 S2 f2 => ?_
  walk_at "dl"
  refine spDraw_of (by decide) (by decide) nd2 (by omega) S2 fun r3 M3 a3 b3 nd3 S3 f3 => ?_
  walk_at "dl"
  refine spDraw_of (by decide) (by decide) nd3 (by omega) S3 fun r4 M4 a4 b4 nd4 S4 f4 => ?_
  walk_at "dl"
  refine spDraw_of (by decide) (by decide) nd4 (by omega) S4 fun r5 M5 a5 b5 nd5 S5 f5 => ?_
  have at_l : ∀ r : Int, 0 ≤ r → r < 26 → atI letters.cps.toList r = some (97 + r.toNat) := fun r h1 h2 => atI_nat' (j := r.toNat) (by omega) (letter_at _ (by omega))
  refine .str (by show letters.length ≤ sizeLine; exact len_le_line (n := letters.length) (by decide +kernel)) (at_l r5 a5 b5) ?_
  walk_at "dl"
  refine ⟨by omega, by omega, ?_⟩
  have f05 : Fr [p, c] M M5 := (((f1.trans f2).trans f3).trans f4).trans f5
  let nm : Nat → Str := fun i => nameS (97 + r5.toNat) (97 + (r4.toNat + i) % 26) r1.toNat (r2.toNat + r3.toNat * (i % 3))
  have hrng : rng 0 ((n : Nat) : Int).toNat = (List.range n).map fun (i : Nat) => D.int (i : Int) := by
    unfold rng
    rw [Int.toNat_natCast]
    exact List.map_congr_left fun i _ => by rw [Int.zero_add]
  rw [hrng]
  refine ⟨lt_line (by rw [List.length_map, List.length_range]; omega), lc_map (fun i : Nat => D.int (i : Int)) (fun i => D.str (nm i)) trivial (fun i hi P1 h1 => ?_) (.inr fun a ha => ?_)⟩
  · have hi' : i < n := List.mem_range.mp hi
    have e1 : (r4 + (i : Int)) % 26 = (((r4.toNat + i) % 26 : Nat) : Int) := by omega
    have e2 : (i : Int) % 3 = ((i % 3 : Nat) : Int) := by omega
    have i3 : i % 3 ≤ 2 := by omega
    have hm : r3 * ((i % 3 : Nat) : Int) = ((r3.toNat * (i % 3) : Nat) : Int) := by
      rw [Int.natCast_mul]
      congr 1
      omega
    have hle : r3.toNat * (i % 3) ≤ 1 * 2 := Nat.mul_le_mul (by omega) i3
    walk_at "dl"
    refine MulR.str (by show (1 : Nat) ≤ 1000; decide) a1 (by omega) ?_
    walk_at "dl"
    refine ModR.int (by decide) ?_
    refine .str (by show letters.length ≤ sizeLine; exact len_le_line (n := letters.length) (by decide +kernel)) (by rw [e1]; exact at_l _ (by omega) (by omega)) ?_
    have l1 : (repS ⟨#[97 + r5.toNat]⟩ r1).length ≤ 3 := by rw [repS_length]; show 1 * r1.toNat ≤ 3; omega
    refine AddR.str ?_ ?_
    · show _ + 1 ≤ sizeLine
      exact len_le_line (by omega)
    walk_at "dl"
    refine ModR.int (by decide) ?_
    refine MulR.int (wide_mul (a := 10) (b := 10) (wide_of a3 (by omega)) (by rw [e2]; exact wide_of (by omega) (by omega)) (by decide) (by decide) (by decide)) ?_
    walk_at "dl"
    rw [e2, hm]
    refine MulR.str (by show (1 : Nat) ≤ 1000; decide) (by omega) (by omega) ?_
    have l2 : (repS ⟨#[97 + r5.toNat]⟩ (r2 + ((r3.toNat * (i % 3) : Nat) : Int))).length ≤ 5 := by rw [repS_length]; show 1 * _ ≤ 5; omega
    refine AddR.str ?_ ?_
    · have l3 : ∀ x y : Str, (x ++ y).length = x.length + y.length := fun x y => Array.size_append
      rw [l3]
      have l4 : (⟨#[97 + (((r4.toNat + i) % 26 : Nat) : Int).toNat]⟩ : Str).length = 1 := rfl
      rw [l4]
      exact len_le_line (by omega)
    have e3 : (repS ⟨#[97 + r5.toNat]⟩ r1 ++ ⟨#[97 + (((r4.toNat + i) % 26 : Nat) : Int).toNat]⟩ ++ repS ⟨#[97 + r5.toNat]⟩ (r2 + ((r3.toNat * (i % 3) : Nat) : Int)) : Str) = nm i := by
      show (⟨((repS ⟨#[97 + r5.toNat]⟩ r1).cps ++ #[97 + (((r4.toNat + i) % 26 : Nat) : Int).toNat]) ++ (repS ⟨#[97 + r5.toNat]⟩ (r2 + ((r3.toNat * (i % 3) : Nat) : Int))).cps⟩ : Str) = _
      rw [rep_one, rep_one, Int.toNat_natCast, show (r2 + ((r3.toNat * (i % 3) : Nat) : Int)).toNat = r2.toNat + r3.toNat * (i % 3) by omega]
      show _ = (⟨_⟩ : Str)
      congr 1
      simp
    rw [e3]
    exact h1
  · have hd : ∀ i j, i < n → j < n → nm i = nm j → i = j := fun i j hi hj e => by
      have h1 := nameS_at (f := 97 + r5.toNat) (l := 97 + (r4.toNat + i) % 26) (m := r1.toNat) (n := r2.toNat + r3.toNat * (i % 3))
      have h2 := nameS_at (f := 97 + r5.toNat) (l := 97 + (r4.toNat + j) % 26) (m := r1.toNat) (n := r2.toNat + r3.toNat * (j % 3))
      have e' : nameS (97 + r5.toNat) (97 + (r4.toNat + i) % 26) r1.toNat (r2.toNat + r3.toNat * (i % 3)) = nameS (97 + r5.toNat) (97 + (r4.toNat + j) % 26) r1.toNat (r2.toNat + r3.toNat * (j % 3)) := e
      rw [e', h2] at h1
      have h3 := Option.some.inj h1
      omega
    have ep : ((List.range n).map fun i => D.str (nm i)) = ((List.range n).map nm).map .str := by rw [List.map_map]; rfl
    have pM : ∃ m, (p, m) ∈ M5 := by obtain ⟨_, _, _, _, _, h, _⟩ := S5.ex; exact ⟨_, h⟩
    have cM : ∃ m, (c, m) ∈ M5 := by obtain ⟨_, _, _, _, _, _, h, _⟩ := S5.ex; exact ⟨_, h⟩
    obtain ⟨_, hpM⟩ := pM
    obtain ⟨_, hcM⟩ := cM
    have ap : a ≠ p := fun e => ha _ (by rw [e]; exact hpM)
    have ac : a ≠ c := fun e => ha _ (by rw [e]; exact hcM)
    refine kQ ((List.range n).map nm) a _ (by simp) ?_ (fun x hx => ?_) (nd_new ha nd5) (S5.fr (ps := []) Fr.refl.cons (by simp) (by simp)) (fun m hm => ha m (f05 a m (not_mem2 ap ac) hm)) ap ac ?_ f05.cons
    · refine List.pairwise_map.mpr (List.Pairwise.imp_of_mem (fun {i j} hi hj hij e => hij (hd i j (List.mem_range.mp hi) (List.mem_range.mp hj) e)) List.nodup_range)
    · obtain ⟨i, hi, rfl⟩ := List.mem_map.mp hx
      have i3 : i % 3 ≤ 2 := by omega
      have hle : r3.toNat * (i % 3) ≤ 1 * 2 := Nat.mul_le_mul (by omega) i3
      exact nameS_ok ⟨by omega, by omega⟩ ⟨by omega, by omega⟩ (by omega)
    · rw [ep]
      exact List.mem_cons_self
end DL
namespace DL
variable [Wd]
open PySem L2 PySem.Spec PyProof.Rows
section
variable {M : Mem} {ρ : Rho} {st : Mem → Prop} {de : DE} {j j1 : Nat} {vs1 : List Nat} {di1 : DI}
theorem goC2i_map {α : Type} (g f : α → D) {st1 : Mem → Prop} {ρ1 : Rho} {Q : List D → Mem → Prop} (hst : st1 M) : ∀ {ys : List α} {acc : List D}, acc.length + ys.length < sizeLine → (∀ y ∈ ys, ∀ P1 : D → Mem → Prop, P1 (f y) M → de (put ρ1 j1 (some (g y))) M P1 noE) → Q (acc ++ ys.map f) M → goC2i (.nm j1) dYes de st1 ρ1 Q (ys.map g) acc M
  | [], acc, _, _, hQ => ⟨hst, by simpa using hQ⟩
  | y :: ys, acc, hl, h, hQ => by
    have hl' : acc.length + (ys.length + 1) < sizeLine := hl
    have key : de (put ρ1 j1 (some (g y))) M (fun e M3 => goC2i (.nm j1) dYes de st1 ρ1 Q (ys.map g) (acc ++ [e]) M3) noE :=
      h y List.mem_cons_self _ (goC2i_map g f hst (by rw [List.length_append]; simp; omega) (fun z hz => h z (List.mem_cons_of_mem _ hz)) (by simpa using hQ))
    exact ⟨hst, by omega, @g_t _ _ (goC2i (.nm j1) dYes de st1 ρ1 Q (ys.map g) acc M) key⟩
/-- [e for x in xs for y in ys] -/
theorem lc2_map {α β : Type} (g : α → D) (ys : α → List β) (g1 : β → D) (f : α → β → D) {Q : List D → Mem → Prop} (hst : st M) : ∀ {xs : List α} {acc : List D}, acc.length + (xs.flatMap fun x => (ys x).map (f x)).length < sizeLine →
    (∀ x ∈ xs, (∀ R : List D → (Mem → Prop) → Mem → Prop, (∀ st1 : Mem → Prop, st1 M → R ((ys x).map g1) st1 M) → di1 (put ρ j (some (g x))) M R noE) ∧ ∀ y ∈ ys x, ∀ P1 : D → Mem → Prop, P1 (f x y) M → de (put (wipeD (put ρ j (some (g x))) vs1) j1 (some (g1 y))) M P1 noE) →
    Q (acc ++ xs.flatMap fun x => (ys x).map (f x)) M → goC2 (.nm j) dYes di1 (.nm j1) dYes de vs1 st ρ Q (xs.map g) acc M
  | [], acc, _, _, hQ => ⟨hst, by simpa using hQ⟩
  | x :: xs, acc, hl, h, hQ => by
    rw [List.flatMap_cons] at hQ hl
    rw [List.length_append, List.length_map] at hl
    obtain ⟨h1, h2⟩ := h x List.mem_cons_self
    have key : di1 (put ρ j (some (g x))) M (fun its1 st1 M3 => goC2i (.nm j1) dYes de st1 (wipeD (put ρ j (some (g x))) vs1) (fun acc' M4 => goC2 (.nm j) dYes di1 (.nm j1) dYes de vs1 st ρ Q (xs.map g) acc' M4) its1 acc M3) noE :=
      h1 _ fun st1 hs1 => goC2i_map g1 (f x) hs1 (by omega) h2 (lc2_map g ys g1 f hst (by rw [List.length_append, List.length_map]; omega) (fun z hz => h z (List.mem_cons_of_mem _ hz)) (by rw [List.append_assoc]; exact hQ))
    exact ⟨hst, @g_t _ _ (goC2 (.nm j) dYes di1 (.nm j1) dYes de vs1 st ρ Q (xs.map g) acc M) key⟩
end
end DL
namespace DL
variable [Wd]
open PySem L2 PySem.Spec PyProof.Rows
/-! ### data frozen behind an expression, whatever others hold -/
def FzK (K : PySem.W.Frag) (d : D) (M : Mem) (d' : D) (M' : Mem) : Prop := ∀ U, Fz ⟨K, U⟩ d M d' M'
theorem FzK.refl {K : PySem.W.Frag} {d : D} {M : Mem} : FzK K d M d M := fun _ => Fz.refl _ _
theorem FzK.one {K : PySem.W.Frag} {p : Addr} {m : MO} {d : D} {M M' : Mem} (u : Del p m M M') (h : frzD m = some d) : FzK K (.ptr p) M d M' := fun _ => Fz.one u h
theorem FzK.trans {K : PySem.W.Frag} {d d' d'' : D} {M M' M'' : Mem} (a : FzK K d M d' M') (b : FzK K d' M' d'' M'') : FzK K d M d'' M'' := fun U => (a U).trans (b U)
def dZK (K : PySem.W.Frag) (de : DE) : DE := fun ρ M Q E => de ρ M (fun d M' => ∃ d' M'', FzK K d M' d' M'' ∧ Q d' M'') E
theorem de_zK {X : Cx} {g : G} {W : WX} {e : Expr} {de : DE} (hK : g.K = X.K) (h : PE X e (liftE g W de)) : PE X e (liftE g W (dZK X.K de)) := by
  obtain ⟨K, U⟩ := g
  simp only at hK
  subst hK
  exact h.imp fun σ H k ⟨ρ, M, F, Q, E, S, En, q, kQ, kE⟩ => ⟨ρ, M, F, _, E, S, En, q, fun d M' F' v H' ⟨d', M'', z, q'⟩ s S' r => by
    obtain ⟨F2, s2, S2, r2⟩ := z U F' v H' S' r
    exact kQ d' M'' F2 v H' q' (s.t s2) S2 r2, kE⟩
theorem g_zK {K : PySem.W.Frag} {de : DE} {ρ : Rho} {M : Mem} {Q : D → Mem → Prop} {E : XD} (q : de ρ M (fun d M' => ∃ d' M'', FzK K d M' d' M'' ∧ Q d' M'') E) : dZK K de ρ M Q E := q
end DL
local macro_rules | `(tactic| walk_at "dl") => `(tactic| repeat (first | (with_reducible first | refine DL.g_seq ?_ | refine DL.g_asg ?_ | refine DL.g_sif ?_ | refine DL.g_ret ?_ | refine DL.g_retN ?_ | refine DL.g_drop ?_ | refine DL.g_next ?_ | refine DL.g_cont ?_ | refine DL.g_brk ?_ | refine DL.g_sfor ?_ | refine DL.g_op ?_ | refine DL.g_c ?_ | refine DL.g_nil ?_ | refine DL.g_cons ?_ | refine DL.g_cb ?_ | refine DL.g_call ?_ | refine DL.g_tup ?_ | refine DL.g_lst ?_ | refine DL.g_B ?_ | refine DL.g_not ?_ | refine DL.g_and ?_ | refine DL.g_or ?_ | refine DL.g_if ?_ | refine DL.g_bl ?_ | refine DL.g_in ?_ | refine DL.g_nm ?_ | refine DL.g_fld ?_ | refine DL.IntB.int ?_ | refine DL.AddR.int ?_ | refine DL.SubR.int ?_ | refine DL.EqR.int ?_ | refine DL.EqR.str ?_ | refine DL.EqR.bl ?_ | refine DL.IntC.int ?_ | refine DL.IsR.non ?_ | refine DL.g_lc ?_ | refine DL.g_lc2 ?_ | refine DL.g_dc ?_ | refine DL.g_iany ?_ | refine DL.g_iitm ?_ | refine DL.g_irg1 ?_ | refine DL.g_sl ?_ | refine DL.g_onone ?_ | refine DL.g_osome ?_ | refine DL.g_con ?_ | refine DL.g_bm ?_ | refine DL.g_andV ?_ | refine DL.g_orV ?_ | refine DL.g_notV ?_ | refine DL.g_make ?_ | refine DL.g_meth ?_ | refine DL.g_listint ?_ | refine DL.g_fldS ?_ | refine DL.g_gsub ?_ | refine DL.g_zK ?_) | (refine DL.g_var (by first | assumption | rfl) ?_)))
namespace DL
variable [Wd]
open PySem L2 PySem.Spec PyProof.Rows
theorem eqD_refl : ∀ (n : Nat) (d : D), okD n d = true → eqD d d = true
  | n, .non, _ => rfl
  | n, .bl b, _ => by show (b == b) = true; simp
  | n, .int i, _ => by show (i == i) = true; simp
  | n, .str x, _ => by show (x == x) = true; simp
  | n + 1, .tup ds, h => eqDs_refl n ds h
  | n + 1, .lst ds, h => eqDs_refl n ds h
  | 0, .tup ds, h => by simp [okD] at h
  | 0, .lst ds, h => by simp [okD] at h
  | n, .ty _, h => by cases n <;> simp [okD] at h
  | n, .ptr _, h => by cases n <;> simp [okD] at h
  | n, .rol _, h => by cases n <;> simp [okD] at h
  | n, .dic _, h => by cases n <;> simp [okD] at h
  | n, .dit _, h => by cases n <;> simp [okD] at h
  | n, .obj _ _, h => by cases n <;> simp [okD] at h
where
  eqDs_refl (n : Nat) : ∀ (ds : List D), ds.all (okD n) = true → eqDs ds ds = true
    | [], _ => rfl
    | d :: ds, h => by
      rw [List.all_cons, Bool.and_eq_true] at h
      show (eqD d d && eqDs ds ds) = true
      rw [eqD_refl n d h.1, eqDs_refl n ds h.2]
      rfl
end DL
namespace DL
variable [Wd]
open PySem L2 PySem.Spec PyProof.Rows
/-! ### grammars: kinds, trees, the fewest nodes -/
structure Kd where
  n : Str
  f : Str
  ch : List Str
def kdD (r : Kd) : D := .tup [.str r.n, .str r.f, .tup (r.ch.map .str)]
abbrev Tab := List (Str × Nat)
def getN (S : Tab) (s : Str) : Option Nat := (S.find? fun p => decide (p.1 = s)).map (·.2)
def putN (S : Tab) (s : Str) (n : Nat) : Tab := if (S.any fun p => decide (p.1 = s)) = true then S.map (fun p => if p.1 = s then (p.1, n) else p) else S ++ [(s, n)]
def emb (S : Tab) : List (Key × D) := S.map fun p => (.inr p.1, .int (p.2 : Nat))
theorem getN_cons (p : Str × Nat) (S : Tab) (s : Str) : getN (p :: S) s = if p.1 = s then some p.2 else getN S s := by
  unfold getN
  rw [List.find?_cons]
  by_cases h : p.1 = s <;> simp [h]
theorem look_emb (s : Str) : ∀ S : Tab, lookD (emb S) (.inr s) = (getN S s).map fun n => D.int (n : Nat)
  | [] => rfl
  | p :: S => by
    rw [getN_cons]
    have ih := look_emb s S
    unfold lookD emb at ih ⊢
    rw [List.map_cons, List.find?_cons]
    by_cases h : p.1 = s
    · simp [h]
    · have h2 : ¬ (Sum.inr p.1 : Key) = Sum.inr s := fun z => h (Sum.inr.inj z)
      simp only [h2, decide_false, if_neg h]
      exact ih
theorem any_emb (s : Str) : ∀ S : Tab, ((emb S).any fun kv => decide (kv.1 = (Sum.inr s : Key))) = S.any fun p => decide (p.1 = s)
  | [] => rfl
  | p :: S => by
    have ih := any_emb s S
    unfold emb at ih ⊢
    rw [List.map_cons, List.any_cons, List.any_cons, ih]
    congr 1
    by_cases h : p.1 = s
    · simp [h]
    · have h2 : ¬ (Sum.inr p.1 : Key) = Sum.inr s := fun z => h (Sum.inr.inj z)
      simp [h, h2]
theorem put_emb (S : Tab) (s : Str) (n : Nat) : putD (emb S) (.inr s) (.int (n : Nat)) = emb (putN S s n) := by
  unfold putD putN
  rw [any_emb]
  by_cases h : (S.any fun p => decide (p.1 = s)) = true
  · rw [if_pos h, if_pos h]
    unfold emb
    rw [List.map_map, List.map_map]
    refine List.map_congr_left fun p _ => ?_
    by_cases q : p.1 = s
    · simp [q]
    · have h2 : ¬ (Sum.inr p.1 : Key) = Sum.inr s := fun z => q (Sum.inr.inj z)
      simp [q, h2]
  · rw [if_neg h, if_neg h]
    unfold emb
    rw [List.map_append]
    rfl
theorem any_get (s : Str) : ∀ S : Tab, (S.any fun p => decide (p.1 = s)) = (getN S s).isSome
  | [] => rfl
  | p :: S => by
    rw [getN_cons, List.any_cons, any_get s S]
    by_cases h : p.1 = s <;> simp [h]
theorem get_put (S : Tab) (s t : Str) (n : Nat) : getN (putN S s n) t = if t = s then some n else getN S t := by
  unfold putN
  rw [any_get]
  by_cases h : (getN S s).isSome = true
  · rw [if_pos h]
    have key : ∀ S : Tab, (getN S s).isSome = true ∨ t ≠ s → getN (S.map fun p => if p.1 = s then (p.1, n) else p) t = if t = s then some n else getN S t := by
      intro S
      induction S with
      | nil =>
        rintro (h | h)
        · cases h
        · rw [if_neg h]; rfl
      | cons p S ih =>
        intro h
        rw [List.map_cons, getN_cons, getN_cons]
        by_cases q : p.1 = s
        · rw [if_pos q]
          by_cases z : t = s
          · subst z
            simp [q]
          · have z2 : ¬ p.1 = t := fun e => z (by rw [← e, q])
            simp only [if_neg z, if_neg z2]
            have := ih (.inr z)
            rwa [if_neg z] at this
        · rw [if_neg q]
          by_cases z : p.1 = t
          · have z2 : ¬ t = s := fun e => q (by rw [z, e])
            simp only [if_pos z, if_neg z2]
          · simp only [if_neg z]
            refine ih ?_
            rcases h with h | h
            · rw [getN_cons, if_neg q] at h
              exact .inl h
            · exact .inr h
    exact key S (.inl h)
  · rw [if_neg h]
    have h0 : getN S s = none := by cases e : getN S s with
      | none => rfl
      | some _ => rw [e] at h; exact absurd rfl h
    have key : ∀ S : Tab, getN S s = none → getN (S ++ [(s, n)]) t = if t = s then some n else getN S t := by
      intro S
      induction S with
      | nil =>
        intro _
        show getN [(s, n)] t = _
        rw [getN_cons]
        by_cases z : s = t
        · subst z; simp
        · have z2 : ¬ t = s := fun e => z e.symm
          simp only [if_neg z, if_neg z2]
      | cons p S ih =>
        intro h
        rw [getN_cons] at h
        by_cases q : p.1 = s
        · rw [if_pos q] at h; cases h
        · rw [if_neg q] at h
          rw [List.cons_append, getN_cons, getN_cons, ih h]
          by_cases z : p.1 = t
          · have z2 : ¬ t = s := fun e => q (by rw [z, e])
            simp only [if_pos z, if_neg z2]
          · simp only [if_neg z]
    exact key S h0
theorem put_len (S : Tab) (s : Str) (n : Nat) : (putN S s n).length = if (getN S s).isSome = true then S.length else S.length + 1 := by
  unfold putN
  rw [any_get]
  by_cases h : (getN S s).isSome = true
  · rw [if_pos h, if_pos h, List.length_map]
  · rw [if_neg h, if_neg h, List.length_append]
    rfl
mutual
/-- a tree of the family f with n nodes -/
inductive Tr (rs : List Kd) : Str → Nat → Prop
  | mk {r : Kd} {m : Nat} : r ∈ rs → Trs rs r.ch m → Tr rs r.f (m + 1)
/-- trees of these families with together n nodes -/
inductive Trs (rs : List Kd) : List Str → Nat → Prop
  | nil : Trs rs [] 0
  | cons {f : Str} {fs : List Str} {a b : Nat} : Tr rs f a → Trs rs fs b → Trs rs (f :: fs) (a + b)
end
def sumL (L : Tab) (ch : List Str) : Nat := (ch.map fun c => (getN L c).getD 0).sum
def allL (L : Tab) (ch : List Str) : Bool := ch.all fun c => (getN L c).isSome
theorem Trs.sum {rs : List Kd} {L : Tab} (h : ∀ f n, getN L f = some n → Tr rs f n) : ∀ {ch : List Str}, allL L ch = true → Trs rs ch (sumL L ch)
  | [], _ => .nil
  | c :: ch, ha => by
    unfold allL at ha
    rw [List.all_cons, Bool.and_eq_true] at ha
    cases e : getN L c with
    | none => rw [e] at ha; cases ha.1
    | some n =>
      have e2 : sumL L (c :: ch) = n + sumL L ch := by
        unfold sumL
        rw [List.map_cons, List.sum_cons, e]
        rfl
      rw [e2]
      exact .cons (h c n e) (Trs.sum h ha.2)
/-- how many kinds have no size yet -/
def miss (rs : List Kd) (S : Tab) : Nat := (rs.filter fun r => (getN S r.n).isNone).length
/-- what holds of the two tables at every time: sizes S, least L -/
structure Szs (rs : List Kd) (S L : Tab) : Prop where
  sS : ∀ s n, getN S s = some n → ∃ r ∈ rs, r.n = s ∧ ∃ m, Trs rs r.ch m ∧ n = m + 1
  sL : ∀ f n, getN L f = some n → Tr rs f n
  con : ∀ r ∈ rs, ∀ n, getN S r.n = some n → ∃ l, getN L r.f = some l ∧ l ≤ n
  bL : ∀ f n, getN L f = some n → n ≤ 4 ^ (rs.length - miss rs S)
  bS : ∀ s n, getN S s = some n → n ≤ 4 ^ (rs.length - miss rs S)
  kS : (S.map (·.1)).Nodup
  kL : (L.map (·.1)).Nodup
/-- nothing is left to do for r -/
def Settled (S L : Tab) (r : Kd) : Prop := allL L r.ch = true → ∃ n, getN S r.n = some n ∧ n ≤ sumL L r.ch + 1

mutual
theorem least_of {rs : List Kd} {S L : Tab} (z : Szs rs S L) (h : ∀ r ∈ rs, Settled S L r) : ∀ {f : Str} {n : Nat}, Tr rs f n → ∃ l, getN L f = some l ∧ l ≤ n
  | _, _, .mk (r := r) (m := m) hr ht => by
    obtain ⟨a1, a2⟩ := leasts_of z h ht
    obtain ⟨n, e, hn⟩ := h r hr a1
    obtain ⟨l, e2, hl⟩ := z.con r hr n e
    exact ⟨l, e2, by omega⟩
theorem leasts_of {rs : List Kd} {S L : Tab} (z : Szs rs S L) (h : ∀ r ∈ rs, Settled S L r) : ∀ {ch : List Str} {m : Nat}, Trs rs ch m → allL L ch = true ∧ sumL L ch ≤ m
  | _, _, .nil => ⟨rfl, Nat.le_refl _⟩
  | _, _, .cons (f := f) (fs := fs) (a := a) (b := b) t ts => by
    obtain ⟨l, e, hl⟩ := least_of z h t
    obtain ⟨a1, a2⟩ := leasts_of z h ts
    have e2 : sumL L (f :: fs) = l + sumL L fs := by
      unfold sumL
      rw [List.map_cons, List.sum_cons, e]
      rfl
    refine ⟨?_, by omega⟩
    unfold allL at a1 ⊢
    rw [List.all_cons, e, a1]
    rfl
end
/-- the fewest nodes of a tree whose root is of the kind r -/
def Fewest (rs : List Kd) (r : Kd) (n : Nat) : Prop := (∃ m, Trs rs r.ch m ∧ n = m + 1) ∧ ∀ m, Trs rs r.ch m → n ≤ m + 1
theorem sizes_least {rs : List Kd} {S L : Tab} (nd : (rs.map (·.n)).Nodup) (z : Szs rs S L) (h : ∀ r ∈ rs, Settled S L r) {r : Kd} (hr : r ∈ rs) : (∀ n, getN S r.n = some n → Fewest rs r n) ∧ ((∃ m, Trs rs r.ch m) → ∃ n, getN S r.n = some n) := by
  have one : ∀ {r' : Kd}, r' ∈ rs → r'.n = r.n → r' = r := by
    intro r' hr' e
    clear z h
    induction rs with
    | nil => cases hr
    | cons q rs ih =>
      rw [List.map_cons, List.nodup_cons] at nd
      rcases List.mem_cons.mp hr with e1 | e1
      · rcases List.mem_cons.mp hr' with e2 | e2
        · rw [e1, e2]
        · exact absurd (List.mem_map.mpr ⟨r', e2, by rw [e, e1]⟩) nd.1
      · rcases List.mem_cons.mp hr' with e2 | e2
        · exact absurd (List.mem_map.mpr ⟨r, e1, by rw [← e, e2]⟩) nd.1
        · exact ih nd.2 e1 e2
  refine ⟨fun n e => ?_, fun ⟨m, ht⟩ => ?_⟩
  · obtain ⟨r', hr', e', m, ht, hn⟩ := z.sS _ n e
    have := one hr' e'
    subst this
    refine ⟨⟨m, ht, hn⟩, fun m' ht' => ?_⟩
    obtain ⟨a1, a2⟩ := leasts_of z h ht'
    obtain ⟨n', e2, h2⟩ := h r' hr a1
    rw [e] at e2
    cases e2
    omega
  · obtain ⟨a1, a2⟩ := leasts_of z h ht
    obtain ⟨n', e2, h2⟩ := h r hr a1
    exact ⟨n', e2⟩
theorem nodup_le {α : Type} [DecidableEq α] : ∀ {xs ys : List α}, xs.Nodup → (∀ x ∈ xs, x ∈ ys) → xs.length ≤ ys.length
  | [], _, _, _ => Nat.zero_le _
  | x :: xs, ys, hn, hs => by
    obtain ⟨h1, h2⟩ := List.nodup_cons.mp hn
    have hx := hs x List.mem_cons_self
    have ih := nodup_le (ys := ys.erase x) h2 fun y hy => (List.mem_erase_of_ne (fun e => h1 (by rw [← e]; exact hy))).mpr (hs y (List.mem_cons_of_mem _ hy))
    have e := List.length_erase_of_mem hx
    have hp : 0 < ys.length := List.length_pos_of_mem hx
    rw [List.length_cons]
    omega
theorem miss_le (rs : List Kd) (S : Tab) : miss rs S ≤ rs.length := List.length_filter_le _ _
theorem miss_put_old {rs : List Kd} {S : Tab} {s : Str} {n : Nat} (h : (getN S s).isSome = true) : miss rs (putN S s n) = miss rs S := by
  unfold miss
  congr 1
  refine List.filter_congr fun r _ => ?_
  rw [get_put]
  by_cases e : r.n = s
  · rw [if_pos e, e]
    cases q : getN S s with
    | none => rw [q] at h; cases h
    | some _ => rfl
  · rw [if_neg e]
theorem miss_put_new {S : Tab} {r : Kd} {n : Nat} (h : getN S r.n = none) : ∀ {rs : List Kd}, r ∈ rs → miss rs (putN S r.n n) + 1 ≤ miss rs S
  | q :: rs, hr => by
    have mono : ∀ l : List Kd, miss l (putN S r.n n) ≤ miss l S := by
      intro l
      induction l with
      | nil => exact Nat.le_refl _
      | cons x l ih =>
        unfold miss at ih ⊢
        rw [List.filter_cons, List.filter_cons, get_put]
        by_cases e : x.n = r.n
        · rw [if_pos e, e, h]
          simp
          omega
        · rw [if_neg e]
          split
          · rw [List.length_cons, List.length_cons]; omega
          · exact ih
    rcases List.mem_cons.mp hr with e | e
    · subst e
      have m := mono rs
      unfold miss at m ⊢
      rw [List.filter_cons, List.filter_cons, get_put, if_pos rfl, h]
      simp
      omega
    · have ih := miss_put_new (n := n) h e
      have m : (if (getN (putN S r.n n) q.n).isNone = true then 1 else 0) ≤ (if (getN S q.n).isNone = true then 1 else 0) := by
        rw [get_put]
        by_cases z : q.n = r.n
        · rw [if_pos z]; simp
        · rw [if_neg z]; exact Nat.le_refl _
      have e1 : ∀ T : Tab, miss (q :: rs) T = (if (getN T q.n).isNone = true then 1 else 0) + miss rs T := by
        intro T
        unfold miss
        rw [List.filter_cons]
        split
        · rw [List.length_cons]; omega
        · omega
      rw [e1, e1]
      omega
theorem keys_put {S : Tab} {s : Str} {n : Nat} (h : (S.map (·.1)).Nodup) : ((putN S s n).map (·.1)).Nodup := by
  unfold putN
  by_cases q : (S.any fun p => decide (p.1 = s)) = true
  · rw [if_pos q, List.map_map]
    have e : S.map ((fun p : Str × Nat => p.1) ∘ fun p => if p.1 = s then (p.1, n) else p) = S.map (·.1) := List.map_congr_left fun p _ => by
      by_cases z : p.1 = s <;> simp [z]
    rw [e]
    exact h
  · rw [if_neg q, List.map_append]
    refine List.nodup_append.mpr ⟨h, by simp, fun a ha b hb e => ?_⟩
    have hb' : b = s := by simpa using hb
    obtain ⟨p, hp, e2⟩ := List.mem_map.mp ha
    exact q (List.any_eq_true.mpr ⟨p, hp, by rw [e2, e, hb']; simp⟩)
/-- a new size counts -/
def newer (S : Tab) (s : Str) (z : Nat) : Bool := match getN S s with
  | none => true
  | some n => decide (z < n)
/-- one row -/
def stepS (S L : Tab) (r : Kd) : Tab := if newer S r.n (sumL L r.ch + 1) = true then putN S r.n (sumL L r.ch + 1) else S
def stepL (L : Tab) (r : Kd) : Tab := if newer L r.f (sumL L r.ch + 1) = true then putN L r.f (sumL L r.ch + 1) else L
theorem sum_bound {L : Tab} {B : Nat} (h : ∀ f n, getN L f = some n → n ≤ B) : ∀ {ch : List Str}, sumL L ch ≤ ch.length * B
  | [] => Nat.zero_le _
  | c :: ch => by
    have ih := sum_bound h (ch := ch)
    have e2 : sumL L (c :: ch) = (getN L c).getD 0 + sumL L ch := by
      unfold sumL
      rw [List.map_cons, List.sum_cons]
    have hc : (getN L c).getD 0 ≤ B := by
      cases e : getN L c with
      | none => exact Nat.zero_le _
      | some n => exact h c n e
    rw [e2, List.length_cons, Nat.add_mul]
    omega
theorem pow_step {a b : Nat} (h : a + 1 ≤ b) : 3 * 4 ^ a + 1 ≤ 4 ^ b := by
  have h1 : 4 ^ (a + 1) ≤ 4 ^ b := Nat.pow_le_pow_right (by decide) h
  have h2 : 4 ^ (a + 1) = 4 ^ a * 4 := Nat.pow_succ ..
  have h3 : 1 ≤ 4 ^ a := by
    have := Nat.pow_le_pow_right (n := 4) (by decide) (Nat.zero_le a)
    simpa using this
  omega
theorem newer_no {S : Tab} {s : Str} {z : Nat} (h : newer S s z = false) : ∃ n, getN S s = some n ∧ n ≤ z := by
  unfold newer at h
  cases e : getN S s with
  | none => rw [e] at h; cases h
  | some n => rw [e] at h; exact ⟨n, rfl, by simpa using h⟩
theorem newer_lt {S : Tab} {s : Str} {z n : Nat} (h : newer S s z = true) (e : getN S s = some n) : z < n := by
  unfold newer at h
  rw [e] at h
  simpa using h
/-- a row whose children all have sizes -/
theorem Szs.step {rs : List Kd} {S L : Tab} {r : Kd} (z : Szs rs S L) (hr : r ∈ rs) (nd : (rs.map (·.n)).Nodup) (ha : allL L r.ch = true) (h3 : r.ch.length ≤ 3) : Szs rs (stepS S L r) (stepL L r) := by
  have one : ∀ {r' : Kd}, r' ∈ rs → r'.n = r.n → r' = r := by
    intro r' hr' e
    clear z
    induction rs with
    | nil => cases hr
    | cons q rs ih =>
      rw [List.map_cons, List.nodup_cons] at nd
      rcases List.mem_cons.mp hr with e1 | e1
      · rcases List.mem_cons.mp hr' with e2 | e2
        · rw [e1, e2]
        · exact absurd (List.mem_map.mpr ⟨r', e2, by rw [e, e1]⟩) nd.1
      · rcases List.mem_cons.mp hr' with e2 | e2
        · exact absurd (List.mem_map.mpr ⟨r, e1, by rw [← e, e2]⟩) nd.1
        · exact ih e1 nd.2 e2
  have ht := Trs.sum z.sL ha
  have hb := sum_bound z.bL (ch := r.ch)
  have hb3 : sumL L r.ch ≤ 3 * 4 ^ (rs.length - miss rs S) := Nat.le_trans hb (Nat.mul_le_mul_right _ h3)
  have hm := miss_le rs S
  -- the exponent grows
  have grow : rs.length - miss rs S ≤ rs.length - miss rs (stepS S L r) := by
    unfold stepS
    split
    · cases e : getN S r.n with
      | none => have := miss_put_new (n := sumL L r.ch + 1) e hr; omega
      | some n => rw [miss_put_old (by rw [e]; rfl)]; exact Nat.le_refl _
    · exact Nat.le_refl _
  have up : 4 ^ (rs.length - miss rs S) ≤ 4 ^ (rs.length - miss rs (stepS S L r)) := Nat.pow_le_pow_right (by decide) grow
  have size_le : newer S r.n (sumL L r.ch + 1) = true → sumL L r.ch + 1 ≤ 4 ^ (rs.length - miss rs (stepS S L r)) := fun hn => by
    unfold stepS
    rw [if_pos hn]
    cases e : getN S r.n with
    | none =>
      have h1 := miss_put_new (n := sumL L r.ch + 1) e hr
      have := pow_step (a := rs.length - miss rs S) (b := rs.length - miss rs (putN S r.n (sumL L r.ch + 1))) (by omega)
      omega
    | some n =>
      have h1 := newer_lt hn e
      have h2 := z.bS _ _ e
      rw [miss_put_old (by rw [e]; rfl)]
      omega
  have getS : ∀ s, getN (stepS S L r) s = if newer S r.n (sumL L r.ch + 1) = true ∧ s = r.n then some (sumL L r.ch + 1) else getN S s := by
    intro s
    unfold stepS
    by_cases hn : newer S r.n (sumL L r.ch + 1) = true
    · rw [if_pos hn, get_put]
      by_cases e : s = r.n <;> simp [hn, e]
    · simp [hn]
  have getL : ∀ f, getN (stepL L r) f = if newer L r.f (sumL L r.ch + 1) = true ∧ f = r.f then some (sumL L r.ch + 1) else getN L f := by
    intro f
    unfold stepL
    by_cases hn : newer L r.f (sumL L r.ch + 1) = true
    · rw [if_pos hn, get_put]
      by_cases e : f = r.f <;> simp [hn, e]
    · simp [hn]
  have lf : ∃ l, getN (stepL L r) r.f = some l ∧ l ≤ sumL L r.ch + 1 := by
    rw [getL]
    cases hn : newer L r.f (sumL L r.ch + 1) with
    | true => exact ⟨_, by simp, Nat.le_refl _⟩
    | false =>
      obtain ⟨l, e, hl⟩ := newer_no hn
      exact ⟨l, by simpa using e, hl⟩
  have down : ∀ f l, getN L f = some l → ∃ l', getN (stepL L r) f = some l' ∧ l' ≤ l := by
    intro f l e
    rw [getL]
    by_cases hn : newer L r.f (sumL L r.ch + 1) = true ∧ f = r.f
    · rw [if_pos hn]
      have := newer_lt hn.1 (by rw [← hn.2]; exact e)
      exact ⟨_, rfl, by omega⟩
    · rw [if_neg hn]; exact ⟨l, e, Nat.le_refl _⟩
  refine ⟨fun s n e => ?_, fun f n e => ?_, fun q hq n e => ?_, fun f n e => ?_, fun s n e => ?_, ?_, ?_⟩
  · rw [getS] at e
    split at e
    · rename_i hs
      cases e
      exact ⟨r, hr, hs.2.symm, _, ht, rfl⟩
    · exact z.sS s n e
  · rw [getL] at e
    split at e
    · rename_i hs
      cases e
      rw [hs.2]
      exact .mk hr ht
    · exact z.sL f n e
  · rw [getS] at e
    split at e
    · rename_i hs
      cases e
      have := one hq hs.2
      subst this
      exact lf
    · obtain ⟨l, e1, h1⟩ := z.con q hq n e
      obtain ⟨l', e2, h2⟩ := down _ _ e1
      exact ⟨l', e2, by omega⟩
  · rw [getL] at e
    split at e
    · rename_i hs
      cases e
      cases hn : newer S r.n (sumL L r.ch + 1) with
      | true => exact size_le hn
      | false =>
        obtain ⟨n, e1, h1⟩ := newer_no hn
        obtain ⟨l, e2, h2⟩ := z.con r hr n e1
        have := newer_lt hs.1 e2
        omega
    · exact Nat.le_trans (z.bL f n e) up
  · rw [getS] at e
    split at e
    · rename_i hs
      cases e
      exact size_le hs.1
    · exact Nat.le_trans (z.bS s n e) up
  · unfold stepS
    split
    · exact keys_put z.kS
    · exact z.kS
  · unfold stepL
    split
    · exact keys_put z.kL
    · exact z.kL
theorem get_key {S : Tab} {s : Str} (h : s ∈ S.map (·.1)) : ∃ n, getN S s = some n := by
  induction S with
  | nil => cases h
  | cons p S ih =>
    rw [getN_cons]
    by_cases e : p.1 = s
    · exact ⟨p.2, if_pos e⟩
    · rw [if_neg e]
      rcases List.mem_cons.mp h with q | q
      · exact absurd q.symm e
      · exact ih q
theorem Szs.lenS {rs : List Kd} {S L : Tab} (z : Szs rs S L) : S.length ≤ rs.length := by
  have h := nodup_le (ys := rs.map (·.n)) z.kS fun s hs => by
    obtain ⟨n, e⟩ := get_key hs
    obtain ⟨r, hr, e2, _⟩ := z.sS s n e
    exact List.mem_map.mpr ⟨r, hr, e2⟩
  rwa [List.length_map, List.length_map] at h
theorem Szs.lenL {rs : List Kd} {S L : Tab} (z : Szs rs S L) : L.length ≤ rs.length := by
  have h := nodup_le (ys := rs.map (·.f)) z.kL fun s hs => by
    obtain ⟨n, e⟩ := get_key hs
    cases z.sL s n e with
    | mk hr _ => exact List.mem_map.mpr ⟨_, hr, rfl⟩
  rwa [List.length_map, List.length_map] at h
end DL
namespace DL
variable [Wd]
open PySem L2 PySem.Spec PyProof.Rows
/-! ### the least sizes, as the program finds them -/
def sumS (rs : List Kd) (S : Tab) : Nat := (rs.map fun r => (getN S r.n).getD 0).sum
def mu (rs : List Kd) (S : Tab) : Nat := miss rs S * (8 * 4 ^ 8 + 1) + sumS rs S
theorem sumS_new {S : Tab} {s : Str} {z : Nat} : ∀ rs : List Kd, sumS rs (putN S s z) ≤ sumS rs S + rs.length * z
  | [] => Nat.zero_le _
  | r :: rs => by
    have ih := sumS_new (S := S) (s := s) (z := z) rs
    have e : ∀ T, sumS (r :: rs) T = (getN T r.n).getD 0 + sumS rs T := fun T => by unfold sumS; rw [List.map_cons, List.sum_cons]
    rw [e, e, List.length_cons, Nat.add_mul, get_put]
    by_cases q : r.n = s
    · rw [if_pos q]; show z + _ ≤ _; omega
    · rw [if_neg q]; omega
theorem sumS_old {S : Tab} {s : Str} {z n : Nat} (h : getN S s = some n) (hz : z ≤ n) : ∀ rs : List Kd, sumS rs (putN S s z) ≤ sumS rs S
  | [] => Nat.le_refl _
  | r :: rs => by
    have ih := sumS_old h hz rs
    have e : ∀ T, sumS (r :: rs) T = (getN T r.n).getD 0 + sumS rs T := fun T => by unfold sumS; rw [List.map_cons, List.sum_cons]
    rw [e, e, get_put]
    by_cases q : r.n = s
    · rw [if_pos q, q, h]; show z + _ ≤ n + _; omega
    · rw [if_neg q]; omega
theorem sumS_less {S : Tab} {r : Kd} {z n : Nat} (h : getN S r.n = some n) (hz : z < n) : ∀ {rs : List Kd}, r ∈ rs → sumS rs (putN S r.n z) < sumS rs S
  | q :: rs, hr => by
    have e : ∀ T, sumS (q :: rs) T = (getN T q.n).getD 0 + sumS rs T := fun T => by unfold sumS; rw [List.map_cons, List.sum_cons]
    have m := sumS_old (S := S) h (Nat.le_of_lt hz) rs
    rw [e, e, get_put]
    by_cases w : q.n = r.n
    · rw [if_pos w, w, h]; show z + _ < n + _; omega
    · rw [if_neg w]
      rcases List.mem_cons.mp hr with e1 | e1
      · exact absurd (by rw [e1]) w
      · have ih := sumS_less h hz e1
        omega
theorem mu_less {rs : List Kd} {S : Tab} {r : Kd} {z : Nat} (hr : r ∈ rs) (h8 : rs.length ≤ 8) (hz : z ≤ 4 ^ 8) (h : newer S r.n z = true) : mu rs (putN S r.n z) < mu rs S := by
  unfold mu
  cases e : getN S r.n with
  | none =>
    have h1 := miss_put_new (n := z) e hr
    have h2 := sumS_new (S := S) (s := r.n) (z := z) rs
    have h3 : rs.length * z ≤ 8 * 4 ^ 8 := Nat.mul_le_mul h8 hz
    have h4 : (miss rs (putN S r.n z) + 1) * (8 * 4 ^ 8 + 1) ≤ miss rs S * (8 * 4 ^ 8 + 1) := Nat.mul_le_mul_right _ h1
    rw [Nat.add_mul, Nat.one_mul] at h4
    omega
  | some n =>
    have h1 := newer_lt h e
    rw [miss_put_old (by rw [e]; rfl)]
    have := sumS_less e h1 hr
    omega
def dLeast : DS := sSeq (sAsg (dDic) (gNm 1)) (sSeq (sAsg (dDic) (gNm 2)) (sSeq (sAsg (dC (.bl true)) (gNm 3)) (sSeq (sWhile (dB (dVar 3)) (sSeq (sAsg (dC (.bl false)) (gNm 3)) (sFor (iAny (dVar 0)) (gTp 3 (gsCons (gNm 4) (gsCons (gNm 5) (gsCons (gNm 6) (gsNil))))) (sSeq (sIf (dB (dCB rAny (dCons (dLc (iAny (dVar 6)) (.nm 7) (dYes) (dOp rNin (dVar 7) (dVar 2)) [7]) (dNil)))) (sCont) (sNext)) (sSeq (sAsg (dOp rAdd (dC (.int 1)) (dCB rSum (dCons (dLc (iAny (dVar 6)) (.nm 7) (dYes) (dOp rIx (dVar 2) (dVar 7)) [7]) (dNil)))) (gNm 8)) (sSeq (sIf (dOr (dB (dOp rNin (dVar 4) (dVar 1))) (dB (dOp rLt (dVar 8) (dOp rIx (dVar 1) (dVar 4))))) (sSeq (sAsg (dVar 8) (gSub (dVar 1) (dVar 4))) (sAsg (dC (.bl true)) (gNm 3))) (sNext)) (sIf (dOr (dB (dOp rNin (dVar 5) (dVar 2))) (dB (dOp rLt (dVar 8) (dOp rIx (dVar 2) (dVar 5))))) (sAsg (dVar 8) (gSub (dVar 2) (dVar 5))) (sNext)))))))) (sRet (dVar 1)))))
theorem nin_tab {M : Mem} {q : Addr} {S : Tab} {s : Str} {Q : D → Mem → Prop} (h : (q, MO.dic (emb S)) ∈ M) (k : Q (.bl (!(getN S s).isSome)) M) : rNin (.str s) (.ptr q) M Q := by
  refine InR.dic (k := .inr s) (.ptr h) ?_
  rw [look_emb, ne_true]
  cases e : getN S s with
  | none => rw [e] at k; exact k
  | some n => rw [e] at k; exact k
theorem ix_tab {M : Mem} {q : Addr} {S : Tab} {s : Str} {n : Nat} {Q : D → Mem → Prop} (h : (q, MO.dic (emb S)) ∈ M) (e : getN S s = some n) (k : Q (.int (n : Nat)) M) : rIx (.ptr q) (.str s) M Q :=
  IxQ.dic (k := .inr s) (.ptr h) (by rw [look_emb, e]; rfl) k
theorem sum_cast {L : Tab} : ∀ ch : List Str, (ch.map fun c => (((getN L c).getD 0 : Nat) : Int)).sum = ((sumL L ch : Nat) : Int)
  | [] => rfl
  | c :: ch => by
    have e2 : sumL L (c :: ch) = (getN L c).getD 0 + sumL L ch := by unfold sumL; rw [List.map_cons, List.sum_cons]
    rw [List.map_cons, List.sum_cons, sum_cast ch, e2, Int.natCast_add]
theorem any_not {L : Tab} : ∀ ch : List Str, (ch.map fun c => !(getN L c).isSome).any id = !allL L ch
  | [] => rfl
  | c :: ch => by
    have ih := any_not (L := L) ch
    rw [List.map_cons, List.any_cons, ih]
    unfold allL
    rw [List.all_cons, Bool.not_and]
    rfl
/-- one row of the loop -/
theorem row_wp {M : Mem} {d : D} {p l : Addr} {S L : Tab} {r : Kd} {b : Bool} {x7 x8 : Option D} {nx : NX} {rt : D → Mem → Prop} {bk ct : NX} {ex : Addr → Addr → Rho → Mem → Prop} (pl : p ≠ l) (nd : Nd M) (hp : (p, MO.dic (emb S)) ∈ M) (hl : (l, MO.dic (emb L)) ∈ M) (h3 : r.ch.length ≤ 3) (hS : S.length ≤ 1000) (hL : L.length ≤ 1000)
    (k0 : allL L r.ch = false → ct [some d, some (.ptr p), some (.ptr l), some (.bl b), some (.str r.n), some (.str r.f), some (.tup (r.ch.map .str)), x7, x8] M)
    (k1 : allL L r.ch = true → ∀ M' x8', Nd M' → (p, MO.dic (emb (stepS S L r))) ∈ M' → (l, MO.dic (emb (stepL L r))) ∈ M' → Fr [p, l] M M' → nx [some d, some (.ptr p), some (.ptr l), some (.bl (b || newer S r.n (sumL L r.ch + 1))), some (.str r.n), some (.str r.f), some (.tup (r.ch.map .str)), x7, x8'] M') :
    (sSeq (sIf (dB (dCB rAny (dCons (dLc (iAny (dVar 6)) (.nm 7) (dYes) (dOp rNin (dVar 7) (dVar 2)) [7]) (dNil)))) (sCont) (sNext)) (sSeq (sAsg (dOp rAdd (dC (.int 1)) (dCB rSum (dCons (dLc (iAny (dVar 6)) (.nm 7) (dYes) (dOp rIx (dVar 2) (dVar 7)) [7]) (dNil)))) (gNm 8)) (sSeq (sIf (dOr (dB (dOp rNin (dVar 4) (dVar 1))) (dB (dOp rLt (dVar 8) (dOp rIx (dVar 1) (dVar 4))))) (sSeq (sAsg (dVar 8) (gSub (dVar 1) (dVar 4))) (sAsg (dC (.bl true)) (gNm 3))) (sNext)) (sIf (dOr (dB (dOp rNin (dVar 5) (dVar 2))) (dB (dOp rLt (dVar 8) (dOp rIx (dVar 2) (dVar 5))))) (sAsg (dVar 8) (gSub (dVar 2) (dVar 5))) (sNext)))))
      nx rt bk ct ex [some d, some (.ptr p), some (.ptr l), some (.bl b), some (.str r.n), some (.str r.f), some (.tup (r.ch.map .str)), x7, x8] M := by
  have hsz : (r.ch.map D.str).length < sizeLine := lt_line (by rw [List.length_map]; omega)
  walk_at "dl"
  refine ⟨_, _, .tup _, hsz, lc_map .str (fun c => .bl (!(getN L c).isSome)) trivial (fun c _ P1 h1 => ?_) (.inl ?_)⟩
  · walk_at "dl"
    exact nin_tab hl h1
  walk_at "dl"
  refine .lst (bs := r.ch.map fun c => !(getN L c).isSome) (by rw [List.map_map]; exact .lst _) ?_
  walk_at "dl"
  have ea := any_not (L := L) r.ch
  cases ha : allL L r.ch with
  | false =>
    refine g_ift (by rw [ha] at ea; exact ea) ?_
    walk_at "dl"
    exact k0 ha
  | true =>
    refine g_iff' (by rw [ha] at ea; exact ea) ?_
    walk_at "dl"
    refine ⟨_, _, .tup _, hsz, lc_map .str (fun c => .int (((getN L c).getD 0 : Nat))) trivial (fun c hc P1 h1 => ?_) (.inl ?_)⟩
    · walk_at "dl"
      have hcs : (getN L c).isSome = true := List.all_eq_true.mp ha c hc
      cases e : getN L c with
      | none => rw [e] at hcs; cases hcs
      | some n =>
        rw [e] at h1
        exact ix_tab hl e h1
    walk_at "dl"
    refine .lst (ns := r.ch.map fun c => (((getN L c).getD 0 : Nat) : Int)) (by rw [List.map_map]; exact .lst _) ?_
    rw [sum_cast]
    walk_at "dl"
    have ez : (1 : Int) + ((sumL L r.ch : Nat) : Int) = ((sumL L r.ch + 1 : Nat) : Int) := by omega
    rw [ez]
    generalize hz : sumL L r.ch + 1 = z at *
    have kk := k1 ha
    -- the family's own least size
    have tail : ∀ (b' : Bool) (M' : Mem), b' = (b || newer S r.n z) → Nd M' → (p, MO.dic (emb (stepS S L r))) ∈ M' → (l, MO.dic (emb L)) ∈ M' → Fr [p, l] M M' →
        (sIf (dOr (dB (dOp rNin (dVar 5) (dVar 2))) (dB (dOp rLt (dVar 8) (dOp rIx (dVar 2) (dVar 5))))) (sAsg (dVar 8) (gSub (dVar 2) (dVar 5))) (sNext)) nx rt bk ct ex
          [some d, some (.ptr p), some (.ptr l), some (.bl b'), some (.str r.n), some (.str r.f), some (.tup (r.ch.map .str)), x7, some (.int (z : Nat))] M' := by
      intro b' M' eb nd' a1 a2 f
      subst eb
      -- stored
      have put_it : newer L r.f z = true → sAsg (dVar 8) (gSub (dVar 2) (dVar 5)) nx rt bk ct ex [some d, some (.ptr p), some (.ptr l), some (.bl (b || newer S r.n z)), some (.str r.n), some (.str r.f), some (.tup (r.ch.map .str)), x7, some (.int (z : Nat))] M' := fun hn => by
        walk_at "dl"
        obtain ⟨M2, U2⟩ := upd_ex (n := .dic (putD (emb L) (.inr r.f) (.int (z : Nat)))) nd' a2
        refine SetQ.dic (k := .inr r.f) U2.up (lt_line (by unfold emb; rw [List.length_map]; omega)) ?_
        refine kk M2 _ U2.nd (U2.fr _ _ (not_mem1 pl) a1) ?_ (f.trans U2.fr.r2)
        have e := U2.at_
        rw [put_emb] at e
        unfold stepL
        rw [hz, if_pos hn]
        exact e
      have keep_it : newer L r.f z = false → nx [some d, some (.ptr p), some (.ptr l), some (.bl (b || newer S r.n z)), some (.str r.n), some (.str r.f), some (.tup (r.ch.map .str)), x7, some (.int (z : Nat))] M' := fun hn => by
        refine kk M' _ nd' a1 ?_ f
        unfold stepL
        rw [hz, if_neg (by rw [hn]; exact Bool.false_ne_true)]
        exact a2
      walk_at "dl"
      refine nin_tab a2 ?_
      walk_at "dl"
      cases e : getN L r.f with
      | none =>
        refine g_ift rfl ?_
        refine g_t ?_
        exact put_it (by unfold newer; rw [e])
      | some n =>
        refine g_iff' rfl ?_
        walk_at "dl"
        refine ix_tab a2 e ?_
        walk_at "dl"
        by_cases hn : z < n
        · refine g_ift (by simp; omega) ?_
          exact put_it (by unfold newer; rw [e]; exact decide_eq_true hn)
        · refine g_iff' (by simp; omega) ?_
          walk_at "dl"
          exact keep_it (by unfold newer; rw [e]; exact decide_eq_false hn)
    have put_it : newer S r.n z = true → sSeq (sAsg (dVar 8) (gSub (dVar 1) (dVar 4))) (sAsg (dC (.bl true)) (gNm 3)) ((sIf (dOr (dB (dOp rNin (dVar 5) (dVar 2))) (dB (dOp rLt (dVar 8) (dOp rIx (dVar 2) (dVar 5))))) (sAsg (dVar 8) (gSub (dVar 2) (dVar 5))) (sNext)) nx rt bk ct ex) rt bk ct ex
        [some d, some (.ptr p), some (.ptr l), some (.bl b), some (.str r.n), some (.str r.f), some (.tup (r.ch.map .str)), x7, some (.int (z : Nat))] M := fun hn => by
      walk_at "dl"
      obtain ⟨M2, U2⟩ := upd_ex (n := .dic (putD (emb S) (.inr r.n) (.int (z : Nat)))) nd hp
      refine SetQ.dic (k := .inr r.n) U2.up (lt_line (by unfold emb; rw [List.length_map]; omega)) ?_
      refine g_asg (g_c (g_nm ?_))
      refine tail true M2 (by rw [hn, Bool.or_true]) U2.nd ?_ (U2.fr _ _ (not_mem1 (Ne.symm pl)) hl) U2.fr.l2
      have e := U2.at_
      rw [put_emb] at e
      unfold stepS
      rw [hz, if_pos hn]
      exact e
    have keep_it : newer S r.n z = false → (sIf (dOr (dB (dOp rNin (dVar 5) (dVar 2))) (dB (dOp rLt (dVar 8) (dOp rIx (dVar 2) (dVar 5))))) (sAsg (dVar 8) (gSub (dVar 2) (dVar 5))) (sNext)) nx rt bk ct ex
        [some d, some (.ptr p), some (.ptr l), some (.bl b), some (.str r.n), some (.str r.f), some (.tup (r.ch.map .str)), x7, some (.int (z : Nat))] M := fun hn => by
      refine tail b M (by rw [hn, Bool.or_false]) nd ?_ hl Fr.refl
      unfold stepS
      rw [hz, if_neg (by rw [hn]; exact Bool.false_ne_true)]
      exact hp
    refine nin_tab hp ?_
    walk_at "dl"
    cases e : getN S r.n with
    | none =>
      refine g_ift rfl ?_
      refine g_t ?_
      exact put_it (by unfold newer; rw [e])
    | some n =>
      refine g_iff' rfl ?_
      walk_at "dl"
      refine ix_tab hp e ?_
      walk_at "dl"
      by_cases hn : z < n
      · refine g_ift (by simp; omega) ?_
        exact put_it (by unfold newer; rw [e]; exact decide_eq_true hn)
      · refine g_iff' (by simp; omega) ?_
        exact keep_it (by unfold newer; rw [e]; exact decide_eq_false hn)
theorem isS_st {M : Mem} {d : D} {xs : List D} (h : IsS M d xs) : ∃ st, IsI M d xs st ∧ st M ∧ ∀ M', (∀ p, d = .ptr p → (p, MO.lst xs) ∈ M → (p, MO.lst xs) ∈ M') → st M' := by
  cases h with
  | lst => exact ⟨_, .lst (.lst _), trivial, fun _ _ => trivial⟩
  | rol => exact ⟨_, .lst (.rol _), trivial, fun _ _ => trivial⟩
  | tup => exact ⟨_, .tup _, trivial, fun _ _ => trivial⟩
  | ptr h => exact ⟨_, .lst (.ptr h), h, fun M' f => f _ rfl h⟩
def spLeast : SpD := fun ds M Q _ => ∃ (d : D) (rs : List Kd), ds = [d] ∧ IsS M d (rs.map kdD) ∧ Nd M ∧ rs.length ≤ 8 ∧ (rs.map (·.n)).Nodup ∧ (∀ r ∈ rs, r.ch.length ≤ 3) ∧ ∀ (S : Tab) p M', Free p M → (p, MO.dic (emb S)) ∈ M' → Nd M' → Fr [] M M' → (∃ L, Szs rs S L ∧ ∀ r ∈ rs, Settled S L r) → Q (.ptr p) M'
theorem settled_of {S L : Tab} {r : Kd} (h : allL L r.ch = true → newer S r.n (sumL L r.ch + 1) = false) : Settled S L r := fun ha => newer_no (h ha)
theorem pureLeast {ds : List D} {M : Mem} {Qd : D → Mem → Prop} {Ed : XD} {y1 y2 y3 y4 y5 y6 y7 y8 y9 : Str} (h : spLeast ds M Qd Ed) : dLeast (fun _ M' => Qd .non M') Qd (fun _ _ => False) (fun _ _ => False) (fun C dd _ M' => Ed C dd M') (start0 [y1, y2, y3, y4, y5, y6, y7, y8, y9] ds) M := by
  obtain ⟨d, rs, rfl, hs, nd, h8, hnd, h3, kQ⟩ := h
  unfold dLeast
  walk_at "dl"
  refine .inl (.inr fun p hp => ?_)
  walk_at "dl"
  refine .inl (.inr fun l hl => ?_)
  walk_at "dl"
  have pl : p ≠ l := fun e => hl _ (by rw [← e]; exact List.mem_cons_self)
  let P : Nat → Rho → Mem → Prop := fun m ρ M' => Nd M' ∧ Fr [] M M' ∧ ∃ S L b, Szs rs S L ∧ (p, MO.dic (emb S)) ∈ M' ∧ (l, MO.dic (emb L)) ∈ M' ∧ (∃ x4 x5 x6 x7 x8, ρ = [some d, some (.ptr p), some (.ptr l), some (.bl b), x4, x5, x6, x7, x8]) ∧ (b = true → m = mu rs S + 1) ∧ (b = false → m = 0 ∧ ∀ r ∈ rs, Settled S L r)
  have z0 : Szs rs [] [] := ⟨fun _ _ e => (nomatch e), fun _ _ e => (nomatch e), fun _ _ _ e => (nomatch e), fun _ _ e => (nomatch e), fun _ _ e => (nomatch e), List.nodup_nil, List.nodup_nil⟩
  refine ⟨P, ⟨mu rs [] + 1, nd_new hl (nd_new hp nd), Fr.refl.cons.cons, [], [], true, z0, List.mem_cons_of_mem _ List.mem_cons_self, List.mem_cons_self, ⟨_, _, _, _, _, rfl⟩, fun _ => rfl, fun e => nomatch e⟩, ?_⟩
  rintro m ρ M1 ⟨nd1, f1, S, L, b, z, a1, a2, ⟨x4, x5, x6, x7, x8, rfl⟩, hb1, hb0⟩
  walk_at "dl"
  cases b with
  | false =>
    refine g_iff' rfl ?_
    walk_at "dl"
    exact kQ S p M1 hp a1 nd1 f1 ⟨L, z, (hb0 rfl).2⟩
  | true =>
    refine g_ift rfl ?_
    have hm := hb1 rfl
    walk_at "dl"
    have hs1 : IsS M1 d (rs.map kdD) := by
      cases hs with
      | lst => exact .lst _
      | rol => exact .rol _
      | tup => exact .tup _
      | ptr h => exact .ptr (f1 _ _ (by simp) h)
    obtain ⟨st, hi, hst, hfr⟩ := isS_st hs1
    refine ⟨_, st, hi, ?_⟩
    -- a row after the other
    have pass : ∀ (xs done : List Kd) (S' L' : Tab) (b : Bool) (ρ : Rho) (M' : Mem), rs = done ++ xs → Szs rs S' L' → Nd M' → (p, MO.dic (emb S')) ∈ M' → (l, MO.dic (emb L')) ∈ M' → Fr [p, l] M1 M' → (∃ x4 x5 x6 x7 x8, ρ = [some d, some (.ptr p), some (.ptr l), some (.bl b), x4, x5, x6, x7, x8]) →
        (b = true → mu rs S' < mu rs S) → (b = false → S' = S ∧ L' = L ∧ ∀ r ∈ done, Settled S L r) →
        goF (gTp 3 (gsCons (gNm 4) (gsCons (gNm 5) (gsCons (gNm 6) gsNil)))) (sSeq (sIf (dB (dCB rAny (dCons (dLc (iAny (dVar 6)) (.nm 7) (dYes) (dOp rNin (dVar 7) (dVar 2)) [7]) (dNil)))) (sCont) (sNext)) (sSeq (sAsg (dOp rAdd (dC (.int 1)) (dCB rSum (dCons (dLc (iAny (dVar 6)) (.nm 7) (dYes) (dOp rIx (dVar 2) (dVar 7)) [7]) (dNil)))) (gNm 8)) (sSeq (sIf (dOr (dB (dOp rNin (dVar 4) (dVar 1))) (dB (dOp rLt (dVar 8) (dOp rIx (dVar 1) (dVar 4))))) (sSeq (sAsg (dVar 8) (gSub (dVar 1) (dVar 4))) (sAsg (dC (.bl true)) (gNm 3))) (sNext)) (sIf (dOr (dB (dOp rNin (dVar 5) (dVar 2))) (dB (dOp rLt (dVar 8) (dOp rIx (dVar 2) (dVar 5))))) (sAsg (dVar 8) (gSub (dVar 2) (dVar 5))) (sNext)))))
          st (fun ρ' M'' => ∃ m', m' < m ∧ P m' ρ' M'') Qd (fun C dd _ M' => Ed C dd M') (xs.map kdD) ρ M' := by
      intro xs
      induction xs with
      | nil =>
        intro done S' L' b ρ M' er z' nd' c1 c2 f' hρ k1 k0
        rw [List.append_nil] at er
        have hst' : st M' := hfr M' fun p' e hm' => f' _ _ (not_mem2 (fun q => by subst q; exact nomatch nd1.one hm' a1) (fun q => by subst q; exact nomatch nd1.one hm' a2)) hm'
        have ff : Fr [] M M' := fun a m' ha hm' => f' _ _ (not_mem2 (fun q => hp m' (by rw [← q]; exact hm')) (fun q => hl m' (by rw [← q]; exact List.mem_cons_of_mem _ hm'))) (f1 _ _ ha hm')
        cases b with
        | true => exact ⟨hst', mu rs S' + 1, by have := k1 rfl; omega, nd', ff, S', L', true, z', c1, c2, hρ, fun _ => rfl, fun e => nomatch e⟩
        | false =>
          obtain ⟨e1, e2, hset⟩ := k0 rfl
          exact ⟨hst', 0, by omega, nd', ff, S', L', false, z', c1, c2, hρ, (fun e => nomatch e), fun _ => ⟨rfl, fun r hr => by rw [e1, e2]; exact hset r (by rw [← er]; exact hr)⟩⟩
      | cons r xs ih =>
        rintro done S' L' b ρ M' er z' nd' c1 c2 f' ⟨x4, x5, x6, x7, x8, rfl⟩ k1 k0
        have hst' : st M' := hfr M' fun p' e hm' => f' _ _ (not_mem2 (fun q => by subst q; exact nomatch nd1.one hm' a1) (fun q => by subst q; exact nomatch nd1.one hm' a2)) hm'
        have hr : r ∈ rs := by rw [er]; exact List.mem_append_right _ List.mem_cons_self
        have er' : rs = (done ++ [r]) ++ xs := by rw [er, List.append_assoc]; rfl
        have l1 := z'.lenS
        have l2 := z'.lenL
        refine ⟨hst', _, rfl, rfl, _, _, rfl, _, _, rfl, _, _, rfl, rfl, ?_⟩
        refine row_wp pl nd' c1 c2 (h3 r hr) (by omega) (by omega) (fun ha => ?_) fun ha M2 x8' nd2 d1 d2 f2 => ?_
        · refine ih (done ++ [r]) S' L' b _ M' er' z' nd' c1 c2 f' ⟨_, _, _, _, _, rfl⟩ k1 fun e => ?_
          obtain ⟨e1, e2, hset⟩ := k0 e
          refine ⟨e1, e2, fun q hq => ?_⟩
          rcases List.mem_append.mp hq with w | w
          · exact hset q w
          · rw [List.mem_singleton.mp w, ← e1, ← e2]
            exact fun w2 => by rw [ha] at w2; cases w2
        · have zs := z'.step hr hnd ha (h3 r hr)
          refine ih (done ++ [r]) _ _ _ _ M2 er' zs nd2 d1 d2 (f'.trans f2) ⟨_, _, _, _, _, rfl⟩ (fun e => ?_) fun e => ?_
          · cases hn : newer S' r.n (sumL L' r.ch + 1) with
            | true =>
              have es : stepS S' L' r = putN S' r.n (sumL L' r.ch + 1) := by unfold stepS; rw [if_pos hn]
              have hz : sumL L' r.ch + 1 ≤ 4 ^ 8 := by
                have h1 := zs.bS r.n (sumL L' r.ch + 1) (by rw [es, get_put, if_pos rfl])
                exact Nat.le_trans h1 (Nat.pow_le_pow_right (by decide) (by omega))
              have := mu_less hr h8 hz hn
              rw [es]
              cases b with
              | true => have := k1 rfl; omega
              | false => rw [(k0 rfl).1] at this ⊢; exact this
            | false =>
              rw [hn, Bool.or_false] at e
              have es : stepS S' L' r = S' := by unfold stepS; rw [if_neg (by rw [hn]; exact Bool.false_ne_true)]
              rw [es]
              exact k1 e
          · rw [Bool.or_eq_false_iff] at e
            obtain ⟨eb, en⟩ := e
            obtain ⟨e1, e2, hset⟩ := k0 eb
            have es : stepS S' L' r = S' := by unfold stepS; rw [if_neg (by rw [en]; exact Bool.false_ne_true)]
            have el : stepL L' r = L' := by
              unfold stepL
              rw [if_neg]
              intro w
              obtain ⟨n, g1, g2⟩ := newer_no en
              obtain ⟨l', g3, g4⟩ := z'.con r hr n g1
              have := newer_lt w g3
              omega
            rw [es, el]
            refine ⟨e1, e2, fun q hq => ?_⟩
            rcases List.mem_append.mp hq with w | w
            · exact hset q w
            · rw [List.mem_singleton.mp w, ← e1, ← e2]
              exact settled_of fun _ => en
    exact pass rs [] S L false _ M1 rfl z nd1 a1 a2 Fr.refl ⟨_, _, _, _, _, rfl⟩ (fun e => nomatch e) fun _ => ⟨rfl, rfl, fun _ h => nomatch h⟩
end DL
namespace DL
variable [Wd]
open PySem L2 PySem.Spec PyProof.Rows
/-! ### C(e, .., k = v) -/
section
variable {X : Cx} {g : G} {W : WX} {pos p : Pos} {e : Expr} {es : List Expr} {kws : List Keyword} {dA dK : DA} {x : Str}
def dMakeK (C : Addr) (n m : Nat) (sd : SpD) (gD : List D → List D → List D) (dA dK : DA) : DE := fun ρ M Q E => dA ρ M (fun ds M1 => dK ρ M1 (fun es M2 => ds.length = n ∧ es.length = m ∧ ∀ x, (∀ m, (x, m) ∉ M2) → sd (gD (.ptr x :: ds) es) ((x, .obj C []) :: M2) (fun d M3 => d = .non ∧ Q (.ptr x) M3) E) E) E
theorem run_makeKD {k n : Nat} {C fa : Addr} {fd : FuncData} {ps ks : List Str} {sp : Sp} {Ex : XK} {Q : VK} {us ws : List Value} {vs zs : List V} {gF : List Value → List Value → List Value} {gV : List V → List V → List V} {pins : List (Addr × Obj)} {σ : L2.St} {H : Hp} {s : Shared}
    (Mk_ : Mk X.K C fa) (F : FnOk X.prog X.w X.K X.mg X.base (L2.CX X.prog X.w) k fa fd ps sp) (hr : Room (k + 1) X.A) (hb : KBn X.K fd ps (n + 1) ks gF gV) (tk : Takes X W) (hW : ∀ cls d H', Ex cls d H' → W cls d σ H') (I : Inv X pins σ H s) (r : Vals vs us) (rz : Vals zs ws) (l1 : vs.length = n) (l2 : zs.length = ks.length)
    (h : ∀ x dx, H x = Option.none → H dx = Option.none → dx ≠ x → sp (gV (V.ref x :: vs) zs) (upd (upd H dx (.own x)) x (.ins C dx [])) (fun v H2 => v = .non ∧ Q (.ref x) H2) Ex) :
    wpAny (model X.prog X.w) X.A (call (.ref C) us (ks.zip ws)) (EP X pins σ Q) X.xe s := by
  let y : Addr := s.heap.objs.size + 1
  have hq := h y s.heap.objs.size (I.hok.fresh (Nat.le_succ _)) (I.hok.fresh (Nat.le_refl _)) (Nat.ne_of_lt (Nat.lt_succ_self _))
  have I2 := Inv.made (C := C) I
  have ra : Vals (V.ref y :: vs) (Value.ref y :: us) := .cons rfl r
  have len : (Value.ref y :: us).length = n + 1 := by rw [← ra.length, List.length_cons, l1]
  have bt := hb.to _ (Value.ref y :: us) ws I2.kIn len (rz.length.symm.trans l2)
  have run := F.run _ X.stack _ _ ⟨Value.ref y :: us, ks.zip ws⟩ _ _ _ Ex (hr.make C us (ks.zip ws)) (I2.env0.make C us (ks.zip ws)) bt (hb.rel ra rz) hq
  refine wpAny_call (make_map (f := fa) I.kIn Mk_.makes Mk_.init (beq_iff_eq.mp Mk_.fn) (codeAny_mono run fun rs s' hq' => ?_))
  cases rs with
  | error e => exact tk e s' (XE.of_call I2 hW hq')
  | ok fl =>
    cases fl with
    | ret u =>
      obtain ⟨v, H', I3, rv, ev, q3⟩ := I2.after hq'
      subst ev
      exact ⟨rv, ⟨V.ref y, H', I3, rfl, q3⟩⟩
    | next => exact False.elim hq'
    | brk => exact False.elim hq'
    | cont => exact False.elim hq'
theorem de_makeK {k n : Nat} {C fa : Addr} {fd : FuncData} {ps ks : List Str} {sd : SpD} {gF : List Value → List Value → List Value} {gV : List V → List V → List V} {gD : List D → List D → List D} (Mk_ : Mk X.K C fa) (F : FnOk X.prog X.w X.K X.mg X.base (L2.CX X.prog X.w) k fa fd ps (spOf X.K sd)) (hr : Room (k + 1) X.A) (hg : Gl X x) (hm : X.mg x = some (.ref C))
    (hb : KBn X.K fd ps (n + 1) ks gF gV) (hD : ∀ (F : Hp) (vs zs : List V) (ds ez : List D), Reps X.K F vs ds → Reps X.K F zs ez → Reps X.K F (gV vs zs) (gD ds ez)) (hK : g.K = X.K) (tk : Takes X W) (ha : PA X (e :: es) (liftA g W dA)) (hk : PK X kws (liftA g W dK))
    (hall : (backToKw pos (keywordEach kws X.env)).all (·.1.isSome) = true := by rfl) (hks : (backToKw pos (keywordEach kws X.env)).filterMap (·.1) = ks := by rfl) (hdb : (x == ("__debug__" : Str)) = false := by decide)
    (he : starEach (e :: es) X.env = (false, eval e X.env) :: starEach es X.env := by rfl) (hpl : ((backTo pos (starEach (e :: es) X.env)).any (·.1) || (backToKw pos (keywordEach kws X.env)).any (·.1.isNone)) = false := by rfl) :
    PE X (.Call (.Name x p) (e :: es) kws pos) (liftE g W (dMakeK C n ks.length sd gD dA dK)) := by
  refine ⟨fun pins s σ H k I ⟨ρ, M, F1, Q, E, S, En, q, kQ, kE⟩ => ?_⟩
  obtain ⟨K0, U⟩ := g
  simp only at hK
  subst hK
  refine wpAny_Call_Name_kw (ld_glob I hg hm ?_ hdb)
  refine PySem.W.callWith_KW (h₀ := X.base) I.ok.mod.kin Mk_.kp hall (thn (ha.run pos pins s σ H (fun vs H1 => ∃ M1 F2 ds, Same F1 F2 ∧ Sta ⟨X.K, U⟩ F2 M1 H1 ∧ Reps X.K F2 vs ds ∧ dK ρ M1 (fun es M2 => ds.length = n ∧ es.length = ks.length ∧ ∀ x, (∀ m, (x, m) ∉ M2) → sd (gD (.ptr x :: ds) es) ((x, .obj C []) :: M2) (fun d M3 => d = .non ∧ Q (.ptr x) M3) E) E) I
    ⟨ρ, M, F1, _, E, S, En, q, fun ds M1 F2 vs H1 z s S' r => ⟨M1, F2, ds, s, S', r, z⟩, kE⟩) fun us s1 ⟨vs, H1, I1, r, M1, F2, ds, s12, S1, r1, q1⟩ => ?_) hpl he
  refine thn (hk.run pos pins s1 σ H1 (fun zs H2 => ∃ M2 F3 ez, Same F2 F3 ∧ Sta ⟨X.K, U⟩ F3 M2 H2 ∧ Reps X.K F3 zs ez ∧ ds.length = n ∧ ez.length = ks.length ∧ ∀ x, (∀ m, (x, m) ∉ M2) → sd (gD (.ptr x :: ds) ez) ((x, .obj C []) :: M2) (fun d M3 => d = .non ∧ Q (.ptr x) M3) E) I1
    ⟨ρ, M1, F2, _, E, S1, En.mono s12, q1, fun ez M2 F3 zs H2 z s S' r => ⟨M2, F3, ez, s, S', r, z⟩, fun C dd M' F' H' z s S' => kE C dd M' F' H' z (s12.t s) S'⟩) fun ws s2 ⟨zs, H2, I2, rz, M2, F3, ez, s23, S2, r2, l1, l2, q2⟩ => ⟨I2.kIn, ?_⟩
  rw [hks]
  refine run_makeKD (Ex := fun cls d H' => W cls d σ H') Mk_ F hr hb tk (fun _ _ _ h => h) I2 r rz (by rw [r1.length]; exact l1) (by rw [r2.length]; exact l2) fun y dx h1 h2 h3 => ?_
  exact ⟨U, _, F3, _, _, E, sta_made S2 h1 h2 h3, hD _ _ _ _ _ (.cons (.ptr y) (r1.mono s23)) r2, q2 y (S2.fresh h1), fun d M' F' v H' ⟨ed, z⟩ s S' r => by
    subst ed
    cases r
    exact ⟨rfl, kQ _ M' F' _ H' z ((s12.t s23).t s) S' (.ptr y)⟩, fun C dd M' F' H' z s S' => kE C dd M' F' H' z ((s12.t s23).t s) S'⟩
theorem dk_cons {nm : Option Str} {kpos : Pos} {de : DE} (ha : PE X e (liftE g W de)) (hr : PK X kws (liftA g W dA)) : PK X (⟨nm, e, kpos⟩ :: kws) (liftA g W (dCons de dA)) := by
  refine ⟨fun pos pins s σ H k I h => (pk_cons (nm := nm) (kpos := kpos) ha hr).run pos pins s σ H k I ?_⟩
  obtain ⟨ρ, M, F, Q, E, S, En, q, kQ, kE⟩ := h
  exact ⟨ρ, M, F, _, E, S, En, q, fun d M1 F1 v H1 q1 s1 S1 r1 => ⟨ρ, M1, F1, _, E, S1, En.mono s1, q1, fun ds M2 F2 vs H2 q2 s2 S2 r2 => kQ _ M2 F2 _ H2 q2 (s1.t s2) S2 (.cons (r1.mono s2) r2), fun C dd M2 F2 H2 q2 s2 S2 => kE C dd M2 F2 H2 q2 (s1.t s2) S2⟩, kE⟩
theorem dk_nil : PK X [] (liftA g W dNil) := ⟨fun pos pins s σ H k I ⟨ρ, M, F, Q, E, S, En, q, kQ, _⟩ => pk_nil.run pos pins s σ H k I (kQ [] M F [] H q (Same.r F) S .nil)⟩
end
end DL
namespace DL
variable [Wd]
open PySem L2 PySem.Spec PyProof.Rows
/-- each once, in order -/
def ordS (xs : List Str) : List Str := xs.foldl (fun a x => if x ∈ a then a else a ++ [x]) []
section
variable {M : Mem}
theorem ord_fold : ∀ (xs : List Str) (acc : List (Key × D)) (as : List Str), acc = as.map (fun x => (Sum.inr x, D.bl true)) → (xs.foldl (fun a x => putD a (Sum.inr x : Key) (.bl true)) acc) = (xs.foldl (fun a x => if x ∈ a then a else a ++ [x]) as).map fun x => (Sum.inr x, D.bl true)
  | [], acc, as, h => h
  | x :: xs, acc, as, h => by
    rw [List.foldl_cons, List.foldl_cons]
    refine ord_fold xs _ _ ?_
    subst h
    unfold putD
    have e : ((as.map fun x => ((Sum.inr x : Key), D.bl true)).any fun kv => decide (kv.1 = (Sum.inr x : Key))) = decide (x ∈ as) := by
      induction as with
      | nil => rfl
      | cons y ys ih =>
        rw [List.map_cons, List.any_cons, ih]
        by_cases q : y = x
        · subst q; simp
        · have q2 : ¬ x = y := fun z => q z.symm
          have q3 : ¬ (Sum.inr y : Key) = Sum.inr x := fun z => q (Sum.inr.inj z)
          simp [q2, q3]
    rw [e]
    by_cases q : x ∈ as
    · rw [if_pos (by simp [q]), if_pos q, List.map_map]
      refine List.map_congr_left fun y hy => ?_
      by_cases z : y = x
      · subst z; simp
      · have q3 : ¬ (Sum.inr y : Key) = Sum.inr x := fun w => z (Sum.inr.inj w)
        simp [q3]
    · rw [if_neg (by simp [q]), if_neg q, List.map_append]
      rfl
theorem isS_I {d : D} {xs : List D} (h : IsS M d xs) : ∃ st, IsI M d xs st ∧ st M := by
  cases h with
  | lst => exact ⟨_, .lst (.lst _), trivial⟩
  | rol => exact ⟨_, .lst (.rol _), trivial⟩
  | tup => exact ⟨_, .tup _, trivial⟩
  | ptr h => exact ⟨_, .lst (.ptr h), h⟩
theorem isS_len {d : D} {xs : List D} {Q : D → Mem → Prop} (h : IsS M d xs) (q : Q (.int (xs.length : Nat)) M) : rLen [d] M Q := .seq h q
theorem atI0 {α : Type} {x : α} {xs : List α} : atI (x :: xs) 0 = some x := atI_nat' (j := 0) rfl rfl
theorem atI1 {α : Type} {x y : α} {xs : List α} : atI (x :: y :: xs) 1 = some y := atI_nat' (j := 1) rfl rfl
theorem atI2 {α : Type} {x y z : α} {xs : List α} : atI (x :: y :: z :: xs) 2 = some z := atI_nat' (j := 2) rfl rfl
theorem ixq_tup {ds : List D} {i : Int} {e : D} {Q : D → Mem → Prop} (ha : atI ds i = some e) (q : Q e M) : IxQ M Q (.tup ds) (.int i) := .seq (.tup ds) ha q
theorem any_false {α : Type} (xs : List α) : (xs.map fun _ => false).any id = false := by
  induction xs with
  | nil => rfl
  | cons x xs ih => rw [List.map_cons, List.any_cons, ih]; rfl
theorem strs_in (x : Str) (xs : List Str) : ((xs.map D.str).any fun z => eqD z (.str x)) = decide (x ∈ xs) := by
  induction xs with
  | nil => rfl
  | cons y ys ih =>
    rw [List.map_cons, List.any_cons, ih]
    show ((y == x) || decide (x ∈ ys)) = _
    by_cases q : y = x
    · subst q; simp
    · have q2 : ¬ x = y := fun z => q z.symm
      simp [q, q2]
theorem strs_flat (xs : List Str) : (xs.map D.str).all flatD = true := by
  induction xs with
  | nil => rfl
  | cons y ys ih => rw [List.map_cons, List.all_cons, ih]; rfl
theorem nin_strs {e : D} {x : Str} {xs : List Str} {Q : D → Mem → Prop} (h : IsS M e (xs.map .str)) (q : Q (.bl (decide (x ∈ xs) != true)) M) : rNin (.str x) e M Q := .seq h rfl (strs_flat xs) (by rw [strs_in]; exact q)
theorem in_strs {e : D} {x : Str} {xs : List Str} {Q : D → Mem → Prop} (h : IsS M e (xs.map .str)) (q : Q (.bl (decide (x ∈ xs) != false)) M) : rIn (.str x) e M Q := .seq h rfl (strs_flat xs) (by rw [strs_in]; exact q)
theorem lookD_hit {es : List (Key × D)} {k : Key} {d : D} : lookD ((k, d) :: es) k = some d := by simp [lookD]
theorem any_nil_lst {Q : D → Mem → Prop} (q : Q (.bl false) M) : rAny [.lst []] M Q := .lst (bs := []) (.lst []) q
theorem sum_nil_lst {Q : D → Mem → Prop} (q : Q (.int 0) M) : rSum [.lst []] M Q := .lst (ns := []) (.lst []) q
theorem nin_dic {e : D} {k : Key} {xs : List (Key × D)} {Q : D → Mem → Prop} (h : IsDic M e xs) (q : Q (.bl ((lookD xs k).isSome != true)) M) : rNin (keyD k) e M Q := .dic h q
theorem isS_fr {M' : Mem} {d : D} {xs : List D} {ps : List Addr} (h : IsS M d xs) (f : Fr ps M M') (hp : ∀ p ∈ ps, ∀ ys, (p, MO.lst ys) ∉ M) : IsS M' d xs := by
  cases h with
  | lst => exact .lst _
  | rol => exact .rol _
  | tup => exact .tup _
  | ptr h => exact .ptr (f _ _ (fun z => hp _ z _ h) h)
theorem tup_of {d : D} {xs : List D} (hd : IsS M d xs) {Q : D → Mem → Prop} (hq : Q (.tup xs) M) : rTuple [d] M Q := by
  cases hd with
  | lst => exact .lst (.lst _) hq
  | rol => exact .lst (.rol _) hq
  | tup => exact .tup hq
  | ptr h => exact .lst (.ptr h) hq
theorem ixt0 {x : D} {xs : List D} {Q : D → Mem → Prop} (q : Q x M) : IxQ M Q (.tup (x :: xs)) (.int 0) := ixq_tup atI0 q
theorem ixt1 {x y : D} {xs : List D} {Q : D → Mem → Prop} (q : Q y M) : IxQ M Q (.tup (x :: y :: xs)) (.int 1) := ixq_tup atI1 q
theorem ixt2 {x y z : D} {xs : List D} {Q : D → Mem → Prop} (q : Q z M) : IxQ M Q (.tup (x :: y :: z :: xs)) (.int 2) := ixq_tup atI2 q
theorem one_line : 1 < sizeLine := lt_line (by decide)
theorem put_new {es : List (Str × D)} {f : Str} {d : D} (h : NoF f es) : Put es f d (es ++ [(f, d)]) := by
  induction h with
  | nil => exact .nil
  | cons ne _ ih => exact .tail ne ih
theorem fld_new {K : PySem.W.Frag} {q C : Addr} {es : List (Str × D)} {f : Str} {d : D} {R : Mem → Prop} (nd : Nd M) (hq : (q, MO.obj C es) ∈ M) (fo : FldOk K C f) (nf : NoF f es) (hl : es.length < 1000) (k : ∀ M', UpdOk q (.obj C es) (.obj C (es ++ [(f, d)])) M M' → R M') :
    ∃ q_1 C' es1 es' M3, D.ptr q = .ptr q_1 ∧ FldOk K C' f ∧ es1.length < 1000 ∧ Put es1 f d es' ∧ Upd q_1 (.obj C' es1) (.obj C' es') M M3 ∧ R M3 := by
  obtain ⟨M', U⟩ := upd_ex (n := .obj C (es ++ [(f, d)])) nd hq
  exact ⟨q, C, es, _, M', rfl, fo, hl, put_new nf, U.up, k M' U⟩
theorem ord_nodup {xs : List Str} (h : xs.Nodup) : ordS xs = xs := by
  have key : ∀ (xs as : List Str), (as ++ xs).Nodup → xs.foldl (fun a x => if x ∈ a then a else a ++ [x]) as = as ++ xs := by
    intro xs
    induction xs with
    | nil => intro as _; simp
    | cons x xs ih =>
      intro as hn
      have hx : x ∉ as := fun z => (List.nodup_append.mp hn).2.2 x z x List.mem_cons_self rfl
      rw [List.foldl_cons, if_neg hx, ih (as ++ [x]) (by simpa using hn)]
      simp
  exact key xs [] h
theorem put_new_key {es : List (Key × D)} {k : Key} {d : D} (h : ∀ e ∈ es, e.1 ≠ k) : putD es k d = es ++ [(k, d)] := by
  unfold putD
  rw [if_neg]
  rw [Bool.not_eq_true, List.any_eq_false]
  intro e he
  simp [h e he]
theorem okStr {x : Str} (h : NameOk x) : PyData.strOk x = true := by
  unfold PyData.strOk
  rw [Array.all_eq_true']
  intro c hc
  have := (h.lo c hc).2
  simp
  omega
theorem okS_unknown : PyData.strOk ("unknownname" : Str) = true := by decide +kernel
theorem okS_strange : PyData.strOk ("strangewalk" : Str) = true := by decide +kernel
theorem strs_ok {ns : List Str} (h : ∀ x ∈ ns, PyData.strOk x = true) : okD 60 (.lst (ns.map .str)) = true := by
  show (ns.map D.str).all (okD 59) = true
  rw [List.all_map, List.all_eq_true]
  intro x hx
  exact h x hx
theorem ne_told {d : D} {Q : D → Mem → Prop} (h : okD 60 d = true) (q : Q (.bl false) M) : rNe d d M Q := .dat (.plain h) (.plain h) h h (by rw [eqD_refl 60 d h]; exact q)
theorem eq_told {d : D} {Q : D → Mem → Prop} (h : okD 60 d = true) (q : Q (.bl true) M) : rEq d d M Q := .dat (.plain h) (.plain h) h h (by rw [eqD_refl 60 d h]; exact q)
theorem cut_nat {α : Type} (f : α → D) (xs : List α) (n : Nat) : DL.cutD (xs.map f) none (some (n : Int)) = (xs.take (min n xs.length)).map f := by
  unfold DL.cutD
  rw [HT.sIx_nat, show HT.sIx (xs.map f).length 0 none = 0 from rfl, List.drop_zero, Nat.sub_zero, List.length_map, List.map_take]
/-- _in_order -/
def dOrder : DS := sRet (dCB rList (dCons (dDe (iAny (dVar 0)) (.nm 1) (dYes) (dVar 1) (dC (.bl true)) [1]) (dNil)))
def spOrder : SpD := fun ds M Q _ => ∃ d xs, ds = [d] ∧ IsS M d (xs.map .str) ∧ xs.length ≤ 1000 ∧ Q (.lst ((ordS xs).map .str)) M
theorem pureOrder {ds : List D} {Qd : D → Mem → Prop} {Ed : XD} {y1 y2 : Str} (h : spOrder ds M Qd Ed) : dOrder (fun _ M' => Qd .non M') Qd (fun _ _ => False) (fun _ _ => False) (fun C dd _ M' => Ed C dd M') (start0 [y1, y2] ds) M := by
  obtain ⟨d, xs, rfl, hs, hl, q⟩ := h
  obtain ⟨st, hi, hst⟩ := isS_I hs
  unfold dOrder
  walk_at "dl"
  refine .inl ?_
  walk_at "dl"
  refine ⟨_, st, hi, lt_line (by rw [List.length_map]; omega), dc_map .str Sum.inr (fun _ => .bl true) hst (fun x _ => ⟨fun P1 h1 => ?_, fun P1 h1 => h1⟩) (.inl ?_)⟩
  · walk_at "dl"
    exact h1
  · walk_at "dl"
    refine .dic (.dic _) (.inl ?_)
    rw [ord_fold xs [] [] rfl, List.map_map]
    exact q
end
end DL
namespace DL
variable [Wd]
open PySem L2 PySem.Spec PyProof.Rows
section
variable {M : Mem} {K : PySem.W.Frag} {ds : List D} {Qd : D → Mem → Prop} {Ed : XD}
/-! ### the checks of a grammar -/
/-- what an own error with one field leaves -/
def Errs (E : XD) (C : Addr) (f : Str) (x : Str) (M : Mem) : Prop := ∀ dx, Free dx M → E C dx ((dx, .xd [(f, .str x)]) :: M)
def ConI (K : PySem.W.Frag) (C : Addr) (f : Str) (i : Int) : Prop := ∃ mc u, ClX.CRead K C mc ∧ ClX.CVal K C mc f (.int i) u
def dChkF (K : PySem.W.Frag) (cG cL cB : Addr) (sdO sdL sdB : SpD) : DS := sSeq (sIf (dB (dOp rGt (dCB rLen (dCons (dVar 0) (dNil))) (dCon K (dC (.ptr cG)) "MOST_FIELDS"))) (sRaise cL sdL (dCons (dC (.str ("fields" : Str))) (dNil))) (sNext)) (sIf (dB (dOp rLt (dCB rLen (dCons (dCall sdO (dCons (dVar 0) (dNil))) (dNil))) (dCB rLen (dCons (dVar 0) (dNil))))) (sRaise cB sdB (dCons (dC (.str ("fields" : Str))) (dNil))) (sNext))
def spChkF (cL cB : Addr) : SpD := fun ds M Q E => ∃ d xs, ds = [d] ∧ IsS M d (xs.map .str) ∧ Nd M ∧ xs.length ≤ 1000 ∧ (6 < xs.length → Errs E cL "limit" "fields" M) ∧ (xs.length ≤ 6 → (ordS xs).length < xs.length → Errs E cB "part" "fields" M) ∧ (xs.length ≤ 6 → ¬ (ordS xs).length < xs.length → Q .non M)
theorem pureChkF {cG cL cB : Addr} {y1 : Str} (co : ConI K cG "MOST_FIELDS" 6) (h : spChkF cL cB ds M Qd Ed) : dChkF K cG cL cB spOrder (spErr cL "limit") (spErr cB "part") (fun _ M' => Qd .non M') Qd (fun _ _ => False) (fun _ _ => False) (fun C dd _ M' => Ed C dd M') (start0 [y1] ds) M := by
  obtain ⟨d, xs, rfl, hs, nd, hl, k1, k2, k3⟩ := h
  obtain ⟨mc, u, c1, c2⟩ := co
  unfold dChkF
  walk_at "dl"
  refine isS_len hs ?_
  walk_at "dl"
  refine ⟨_, mc, _, u, rfl, c1, c2, ?_⟩
  walk_at "dl"
  by_cases h6 : 6 < xs.length
  · refine g_ift (by rw [List.length_map]; simp; omega) ?_
    refine g_raise ?_ fun Q Q' hQ z => hQ _ _ z
    walk_at "dl"
    exact ⟨_, rfl, nd, k1 h6⟩
  · refine g_iff' (by rw [List.length_map]; simp; omega) ?_
    walk_at "dl"
    refine ⟨d, xs, rfl, hs, hl, ?_⟩
    walk_at "dl"
    refine isS_len (.lst _) ?_
    walk_at "dl"
    refine isS_len hs ?_
    walk_at "dl"
    by_cases ho : (ordS xs).length < xs.length
    · refine g_ift (by rw [List.length_map, List.length_map]; simp; omega) ?_
      refine g_raise ?_ fun Q Q' hQ z => hQ _ _ z
      walk_at "dl"
      exact ⟨_, rfl, nd, k2 (by omega) ho⟩
    · refine g_iff' (by rw [List.length_map, List.length_map]; simp; omega) ?_
      walk_at "dl"
      exact k3 (by omega) ho
def dChkK (K : PySem.W.Frag) (cG cL cB : Addr) (sdO sdL sdB : SpD) : DS := sSeq (sIf (dOr (dB (dOp rEq (dCB rLen (dCons (dVar 0) (dNil))) (dC (.int 0)))) (dB (dOp rLt (dCB rLen (dCons (dCall sdO (dCons (dLc (iAny (dVar 0)) (.nm 2) (dYes) (dOp rIx (dVar 2) (dC (.int 0))) [2]) (dNil))) (dNil))) (dCB rLen (dCons (dVar 0) (dNil)))))) (sRaise cB sdB (dCons (dC (.str ("kinds" : Str))) (dNil))) (sNext)) (sSeq (sIf (dB (dOp rGt (dCB rLen (dCons (dVar 0) (dNil))) (dCon K (dC (.ptr cG)) "MOST_KINDS"))) (sRaise cL sdL (dCons (dC (.str ("kinds" : Str))) (dNil))) (sNext)) (sSeq (sIf (dB (dCB rAny (dCons (dLc (iAny (dVar 0)) (.nm 2) (dYes) (dOp rGt (dCB rLen (dCons (dOp rIx (dVar 2) (dC (.int 2))) (dNil))) (dCon K (dC (.ptr cG)) "MOST_CHILDREN")) [2]) (dNil)))) (sRaise cL sdL (dCons (dC (.str ("children" : Str))) (dNil))) (sNext)) (sSeq (sIf (dB (dOp rGt (dCB rLen (dCons (dVar 1) (dNil))) (dCon K (dC (.ptr cG)) "MOST_FAMILIES"))) (sRaise cL sdL (dCons (dC (.str ("families" : Str))) (dNil))) (sNext)) (sIf (dB (dCB rAny (dCons (dLc2 (iAny (dVar 0)) (.nm 2) (dYes) (iAny (dOp rIx (dVar 2) (dC (.int 2)))) (.nm 3) (dYes) (dOp rNin (dVar 3) (dVar 1)) [2, 3] [3]) (dNil)))) (sRaise cB sdB (dCons (dC (.str ("children" : Str))) (dNil))) (sNext)))))
/-- which rule the kinds break: true a BadGrammar, false a LimitExceeded -/
def kindsErr (rs : List Kd) (fs : List Str) : Option (Bool × Str) :=
  if rs.length = 0 ∨ (ordS (rs.map (·.n))).length < rs.length then some (true, "kinds")
  else if 8 < rs.length then some (false, "kinds")
  else if (rs.any fun r => decide (3 < r.ch.length)) = true then some (false, "children")
  else if 3 < fs.length then some (false, "families")
  else if (rs.any fun r => r.ch.any fun c => decide (c ∉ fs)) = true then some (true, "children")
  else none
def Out (E : XD) (cL cB : Addr) (M : Mem) (k : Prop) : Option (Bool × Str) → Prop
  | none => k
  | some (true, s) => Errs E cB "part" s M
  | some (false, s) => Errs E cL "limit" s M
def spChkK (cL cB : Addr) : SpD := fun ds M Q E => ∃ (d e : D) (rs : List Kd) (fs : List Str), ds = [d, e] ∧ IsS M d (rs.map kdD) ∧ IsS M e (fs.map .str) ∧ Nd M ∧ rs.length ≤ 1000 ∧ Out E cL cB M (Q .non M) (kindsErr rs fs)
theorem any_map_id {α : Type} (p : α → Bool) (xs : List α) : (xs.map p).any id = xs.any p := by
  induction xs with
  | nil => rfl
  | cons x xs ih => rw [List.map_cons, List.any_cons, List.any_cons, ih]; rfl
theorem any_flat {α β : Type} (f : α → List β) (p : β → Bool) (xs : List α) : (xs.flatMap fun x => (f x).map p).any id = xs.any fun x => (f x).any p := by
  induction xs with
  | nil => rfl
  | cons x xs ih => rw [List.flatMap_cons, List.any_append, ih, any_map_id, List.any_cons]
theorem pureChkK {cG cL cB : Addr} {y1 y2 y3 y4 : Str} (co1 : ConI K cG "MOST_KINDS" 8) (co2 : ConI K cG "MOST_CHILDREN" 3) (co3 : ConI K cG "MOST_FAMILIES" 3) (h : spChkK cL cB ds M Qd Ed) :
    dChkK K cG cL cB spOrder (spErr cL "limit") (spErr cB "part") (fun _ M' => Qd .non M') Qd (fun _ _ => False) (fun _ _ => False) (fun C dd _ M' => Ed C dd M') (start0 [y1, y2, y3, y4] ds) M := by
  obtain ⟨d, e, rs, fs, rfl, hs, he, nd, hl, q⟩ := h
  obtain ⟨mc1, u1, c1, c2⟩ := co1
  obtain ⟨mc2, u2, c3, c4⟩ := co2
  obtain ⟨mc3, u3, c5, c6⟩ := co3
  obtain ⟨st, hi, hst⟩ := isS_I hs
  have hsz : (rs.map kdD).length < sizeLine := lt_line (by rw [List.length_map]; omega)
  unfold kindsErr at q
  unfold dChkK
  walk_at "dl"
  refine isS_len hs ?_
  walk_at "dl"
  by_cases h0 : rs.length = 0
  · refine g_ift (by rw [List.length_map]; simp [h0]) ?_
    refine g_t ?_
    rw [if_pos (.inl h0)] at q
    refine g_raise ?_ fun Q Q' hQ z => hQ _ _ z
    walk_at "dl"
    exact ⟨_, rfl, nd, q⟩
  refine g_iff' (by rw [List.length_map]; simpa using h0) ?_
  walk_at "dl"
  refine ⟨_, st, hi, hsz, lc_map kdD (fun r => .str r.n) hst (fun r _ P1 h1 => ?_) (.inl ?_)⟩
  · walk_at "dl"
    exact ixt0 h1
  walk_at "dl"
  refine ⟨_, rs.map (·.n), rfl, by rw [List.map_map]; exact .lst _, by rw [List.length_map]; exact hl, ?_⟩
  walk_at "dl"
  refine isS_len (.lst _) ?_
  walk_at "dl"
  refine isS_len hs ?_
  walk_at "dl"
  by_cases h1 : (ordS (rs.map (·.n))).length < rs.length
  · refine g_ift (by rw [List.length_map, List.length_map]; simp; omega) ?_
    rw [if_pos (.inr h1)] at q
    refine g_raise ?_ fun Q Q' hQ z => hQ _ _ z
    walk_at "dl"
    exact ⟨_, rfl, nd, q⟩
  refine g_iff' (by rw [List.length_map, List.length_map]; simp; omega) ?_
  rw [if_neg (fun z => z.elim h0 h1)] at q
  walk_at "dl"
  refine isS_len hs ?_
  walk_at "dl"
  refine ⟨_, mc1, _, u1, rfl, c1, c2, ?_⟩
  walk_at "dl"
  by_cases h8 : 8 < rs.length
  · refine g_ift (by rw [List.length_map]; simp; omega) ?_
    rw [if_pos h8] at q
    refine g_raise ?_ fun Q Q' hQ z => hQ _ _ z
    walk_at "dl"
    exact ⟨_, rfl, nd, q⟩
  refine g_iff' (by rw [List.length_map]; simp; omega) ?_
  rw [if_neg h8] at q
  walk_at "dl"
  refine ⟨_, st, hi, hsz, lc_map kdD (fun r => .bl (decide (3 < r.ch.length))) hst (fun r _ P1 h1 => ?_) (.inl ?_)⟩
  · walk_at "dl"
    refine ixt2 ?_
    walk_at "dl"
    refine isS_len (.tup _) ?_
    walk_at "dl"
    refine ⟨_, mc2, _, u2, rfl, c3, c4, ?_⟩
    walk_at "dl"
    have e1 : decide ((3 : Int) < (((r.ch.map D.str).length : Nat) : Int)) = decide (3 < r.ch.length) := by
      rw [List.length_map]
      exact decide_eq_decide.mpr (by omega)
    rw [e1]
    exact h1
  walk_at "dl"
  refine .lst (bs := rs.map fun r => decide (3 < r.ch.length)) (by rw [List.map_map]; exact .lst _) ?_
  walk_at "dl"
  have ea := any_map_id (fun r : Kd => decide (3 < r.ch.length)) rs
  by_cases h3 : (rs.any fun r => decide (3 < r.ch.length)) = true
  · refine g_ift (ea.trans h3) ?_
    rw [if_pos h3] at q
    refine g_raise ?_ fun Q Q' hQ z => hQ _ _ z
    walk_at "dl"
    exact ⟨_, rfl, nd, q⟩
  refine g_iff' (ea.trans (by simpa using h3)) ?_
  rw [if_neg h3] at q
  have h3' : ∀ r ∈ rs, r.ch.length ≤ 3 := fun r hr => Nat.le_of_not_lt fun z => h3 (List.any_eq_true.mpr ⟨r, hr, decide_eq_true z⟩)
  walk_at "dl"
  refine isS_len he ?_
  walk_at "dl"
  refine ⟨_, mc3, _, u3, rfl, c5, c6, ?_⟩
  walk_at "dl"
  by_cases h4 : 3 < fs.length
  · refine g_ift (by rw [List.length_map]; simp; omega) ?_
    rw [if_pos h4] at q
    refine g_raise ?_ fun Q Q' hQ z => hQ _ _ z
    walk_at "dl"
    exact ⟨_, rfl, nd, q⟩
  refine g_iff' (by rw [List.length_map]; simp; omega) ?_
  rw [if_neg h4] at q
  walk_at "dl"
  refine ⟨_, st, hi, ?_⟩
  refine lc2_map kdD (fun r => r.ch) .str (fun _ c => .bl (decide (c ∉ fs))) hst ?_ (fun r hr => ⟨fun R hR => ?_, fun c hc P1 h1 => ?_⟩) (.inl ?_)
  · have hle : ∀ l : List Kd, (∀ r ∈ l, r.ch.length ≤ 3) → (l.flatMap fun r => r.ch.map fun c => D.bl (decide (c ∉ fs))).length ≤ 3 * l.length := by
      intro l
      induction l with
      | nil => intro _; exact Nat.le_refl _
      | cons r l ih =>
        intro hl
        rw [List.flatMap_cons, List.length_append, List.length_map, List.length_cons]
        have := ih fun z hz => hl z (List.mem_cons_of_mem _ hz)
        have := hl r List.mem_cons_self
        omega
    have := hle rs h3'
    exact lt_line (by show 0 + _ ≤ _; omega)
  · walk_at "dl"
    refine ixt2 ?_
    exact ⟨_, _, .tup _, hR _ trivial⟩
  · walk_at "dl"
    refine nin_strs he ?_
    rw [show (decide (c ∈ fs) != true) = decide (c ∉ fs) by by_cases z : c ∈ fs <;> simp [z]]
    exact h1
  walk_at "dl"
  refine .lst (bs := rs.flatMap fun r => r.ch.map fun c => decide (c ∉ fs)) (by rw [List.map_flatMap]; simp only [List.map_map]; exact .lst _) ?_
  walk_at "dl"
  have ef := any_flat (fun r : Kd => r.ch) (fun c => decide (c ∉ fs)) rs
  by_cases h5 : (rs.any fun r => r.ch.any fun c => decide (c ∉ fs)) = true
  · refine g_ift (ef.trans h5) ?_
    rw [if_pos h5] at q
    refine g_raise ?_ fun Q Q' hQ z => hQ _ _ z
    walk_at "dl"
    exact ⟨_, rfl, nd, q⟩
  refine g_iff' (ef.trans (by simpa using h5)) ?_
  rw [if_neg h5] at q
  walk_at "dl"
  exact q
end
end DL
namespace DL
variable [Wd]
open PySem L2 PySem.Spec PyProof.Rows
/-! ### enumerate: over a list or a tuple, from a number on -/

/-- an iterator over what SQ tells, drawn from by enumerate -/
structure Src1 (P : Program) (w : World) (K : PySem.W.Frag) (it : Addr) (SQ : Hp → List V → Prop) (tn : Nat → Heap → Prop) : Prop where
  live : ∀ i h, tn i h → ∃ o, h.get? it = some o ∧ (∀ v, o.data ≠ .cell v) ∧ o.cls ≠ .type "enumerate"
  stay : ∀ i h h', tn i h → (∀ o, h.get? it = some o → h'.get? it = some o) → tn i h'
  inj : ∀ (X : Cx), X.prog = P → X.w = w → X.K = K → ∀ (pins : List (Addr × Obj)) (s : Shared) (σ : L2.St) (H : Hp) (xs ys : List V), Inv X pins σ H s → SQ H xs → SQ H ys → xs = ys
  dr : ∀ (X : Cx), X.prog = P → X.w = w → X.K = K → X.calm = true → ∀ (pins : List (Addr × Obj)) (s : Shared) (σ : L2.St) (H : Hp) (xs : List V) (i : Nat), Inv X pins σ H s → tn i s.heap → SQ H xs →
    ∃ (its : List Value) (St : Nat → Heap → Prop) (b : Addr) (ob : Obj), Vals xs its ∧ s.heap.get? b = some ob ∧ ob.cls ≠ .type "enumerate" ∧ Draws P w X.A.in1 it [it, b] its.length (fun j v => its[j]? = some v) St ∧ St i s.heap ∧ ∀ j h, St j h → tn j h
  dn : ∀ (X : Cx), X.prog = P → X.w = w → X.K = K → X.calm = true → ∀ (pins : List (Addr × Obj)) (s : Shared) (σ : L2.St) (H : Hp) (xs : List V) (i : Nat), Inv X pins σ H s → tn i s.heap → SQ H xs → xs.length ≤ i →
    ∃ (fp : List Addr) (St : Nat → Heap → Prop), Draws P w X.A.in1 it fp 0 (fun _ _ => False) St ∧ St 0 s.heap
/-- the items with their numbers from k, each pair new -/
def ItN (SQ : Hp → List V → Prop) (k : Int) : It where
  go := fun i H => ∃ xs x, SQ H xs ∧ xs[i]? = some x
  yld := fun i H v H' => ∃ T x, v = .ref T ∧ H T = none ∧ H' = upd H T (.tup [.int (k + (i : Nat)), x]) ∧ ∀ xs, SQ H xs → xs[i]? = some x
  stop := fun i H => ∃ xs, SQ H xs ∧ xs.length ≤ i
theorem turnN {P : Program} {w : World} {K : PySem.W.Frag} {elts : List Expr} {kk : Nat} {tpos : Pos} {SQ : Hp → List V → Prop} {tn : Nat → Heap → Prop} {it : Addr} (k : Int) (e : Addr) (Z : Src1 P w K it SQ tn) :
    Turn P w K (.Tuple elts kk tpos) (ItN SQ k) [e, it] e (fun i h => (∃ old, IsEnum h e it (k + (i : Nat)) old) ∧ tn i h ∧ e ≠ it) := by
  have two : ∀ {b : Addr}, b ∈ [e, it] → b = e ∨ b = it := fun {b} hb => by simpa using hb
  refine ⟨List.mem_cons_self, ?_, ?_, ?_, ?_, ?_⟩
  · rintro i h ⟨⟨old, he⟩, hi, _⟩ b hb
    rcases two hb with z | z
    · refine ⟨{ cls := .type "enumerate", data := .fields #[.none, .bool false, .ref it, rawInt (k + (i : Nat)), .none, old] }, by rw [z]; exact he, fun v q => ?_⟩
      cases q
    · obtain ⟨o, h1, h2, _⟩ := Z.live i h hi
      exact ⟨o, by rw [z]; exact h1, h2⟩
  · rintro i h h' ⟨⟨old, he⟩, hi, hne⟩ kp
    exact ⟨⟨old, kp e List.mem_cons_self _ he⟩, Z.stay i h h' hi fun o q => kp it (List.mem_cons_of_mem _ List.mem_cons_self) o q, hne⟩
  · rintro X hP hw hK hc i pins s σ H E I hf ⟨⟨old, he⟩, hi, hne⟩ ⟨xs, x, hq, hx⟩
    obtain ⟨its, St, b, ob, rv, hb, nb, D, st, back⟩ := Z.dr X hP hw hK hc pins s σ H xs i I hi hq
    have inj := fun ys => Z.inj X hP hw hK pins s σ H ys xs I
    subst hP hw
    obtain ⟨u, hu, ru⟩ := rv.get hx
    have hef : e ∉ [it, b] := fun z => by
      rcases (show e = it ∨ e = b by simpa using z) with z | z
      · exact hne z
      · rw [← z, he] at hb
        cases hb
        exact nb rfl
    have el := Heap.lt_size he
    have il : it < s.heap.objs.size := let ⟨o, q, _⟩ := Z.live i _ hi; Heap.lt_size q
    refine (WalksT.enumFrom k D e hne hef List.mem_cons_self).item i s _ E (List.getElem?_eq_some_iff.mp hu).1 ⟨⟨old, he⟩, st⟩ fun T vals h1 tk1 ⟨t, y, hy, ev⟩ hT htu mid kp => ⟨.ref T, rfl, ?_⟩
    subst ev
    have ey : y = u := Option.some.inj (hy.symm.trans hu)
    subst ey
    refine (WalksT.enumFrom k D e hne hef List.mem_cons_self).go elts kk tpos i T { s with heap := h1, toks := tk1 } _ E mid fun h2 ⟨he2, st2⟩ kp2 => ?_
    have apart : T ∉ [e, it] := (WalksT.enumFrom k D e hne hef List.mem_cons_self).apart i T h1 mid
    obtain ⟨o, ho, oc, n, od⟩ := htu
    have hT2 : h2.get? T = some o := kp2 T o apart ho
    have new : ObjOk X.prog X.w (upd H T (.tup [.int (k + (i : Nat)), x])) h2 T (.tup [.int (k + (i : Nat)), x]) :=
      ⟨by show 2 ≤ sizeLine; decide, [.int (k + (i : Nat)) t, y], .cons ⟨_, rfl⟩ (.cons ru .nil), o, hT2, oc, n, od⟩
    refine ⟨.ref T, _, I.turnedNew (t' := tk1) (ch := [e, it]) (fun c oc' hc' q => kp2 c oc' hc' (kp c oc' hc' q)) hf hT new, rfl, ⟨T, x, rfl, I.hok.fresh hT, rfl, fun ys hy => by rw [inj ys hy hq]; exact hx⟩, ⟨he2, back _ _ st2, hne⟩, fun c hc' => ?_⟩
    have hlt : c < s.heap.objs.size := by
      rcases two hc' with z | z
      · rw [z]; exact el
      · rw [z]; exact il
    rw [upd_ne (Nat.ne_of_lt (Nat.lt_of_lt_of_le hlt hT))]
    exact (hf c hc').1
  · rintro X hP hw hK hc i pins s σ H E I hf ⟨⟨old, he⟩, hi, hne⟩ ⟨xs, hq, hx⟩
    obtain ⟨fp, St, D, st⟩ := Z.dn X hP hw hK hc pins s σ H xs i I hi hq hx
    subst hP hw
    obtain ⟨f0, f1, f2, f3, f4, f5⟩ := hf it (List.mem_cons_of_mem _ List.mem_cons_self)
    exact wpAny_pyNext_enum_endD D he st fun h' eb => ⟨rfl, I.turned (t' := s.toks) (fun b o hb q => eb b o hb q) f0 f1 f3 f4 f5⟩
  · rintro A i s Q E ⟨⟨_, he⟩, _⟩ q
    exact wpAny_pyIter_enum he q
section
variable {P : Program} {w : World} {K : PySem.W.Frag}
theorem srcL (a it : Addr) : Src1 P w K it (fun H xs => SqL K H a xs) (fun i h => h.IsListIter it a i) := by
  have ne : ∀ {h : Heap} {i : Nat} {its : Array Value}, h.IsListIter it a i → h.IsList a its → a ≠ it := by
    rintro h i its ⟨o1, q1, c1, _⟩ ⟨o2, q2, c2, _⟩ z
    rw [z, q1] at q2
    cases q2
    rw [c1] at c2
    exact absurd c2 (by simp)
  refine ⟨?_, fun i h h' st kp => st.at fun o q => kp o q, fun X hP hw hK pins s σ H xs ys I h1 h2 => by subst hK; exact I.list_inj h1 h2, ?_, ?_⟩
  · rintro i h ⟨o, q, c, d⟩
    exact ⟨o, q, (fun v z => by rw [d] at z; cases z), fun z => by rw [c] at z; exact absurd z (by simp)⟩
  · rintro X hP hw hK hc pins s σ H xs i I hi hq
    subst hP hw hK
    obtain ⟨its, rv, p, hz⟩ := I.list hq
    have pl : s.heap.IsList a its.toArray := p.isList
    obtain ⟨ob, qb, cb, _⟩ := id pl
    have D := Draws.list (prog := X.prog) (w := X.w) (A := X.A.in1) (I.ok.hd hc) it a (ne hi pl) its.toArray
    exact ⟨its, fun j h => h.IsListIter it a j ∧ h.IsList a its.toArray, a, ob, rv, qb, by rw [cb]; simp, by simpa using D, ⟨hi, pl⟩, fun _ _ z => z.1⟩
  · rintro X hP hw hK hc pins s σ H xs i I hi hq hx
    subst hP hw hK
    obtain ⟨its, rv, p, hz⟩ := I.list hq
    have pl : s.heap.IsList a its.toArray := p.isList
    have hl := rv.length
    refine ⟨[it, a], fun _ h => h.IsListIter it a i ∧ h.IsList a its.toArray, ⟨fun _ h st => let ⟨o, q, _⟩ := st.1; ⟨o, q⟩, fun _ h h' st kp => ⟨st.1.at fun o q => kp it (by simp) o q, st.2.at fun o q => kp a (by simp) o q⟩, fun i s Q E hlt => absurd hlt (Nat.not_lt_zero _), fun s Q E st hE => ?_⟩, hi, pl⟩
    exact wpAny_nextOf_list_end (I.ok.hd hc) st.1 st.2 (by simp; omega) hE
theorem srcT (a it : Addr) : Src1 P w K it (fun H xs => SqT K H a xs) (fun i h => h.IsTupleIter it a i) := by
  have ne : ∀ {h : Heap} {i : Nat} {its : Array Value}, h.IsTupleIter it a i → h.IsTuple a its → a ≠ it := by
    rintro h i its ⟨o1, q1, c1, _⟩ ⟨o2, q2, c2, _⟩ z
    rw [z, q1] at q2
    cases q2
    rw [c1] at c2
    exact absurd c2 (by simp)
  refine ⟨?_, fun i h h' st kp => st.at fun o q => kp o q, fun X hP hw hK pins s σ H xs ys I h1 h2 => by subst hK; exact I.tuple_inj h1 h2, ?_, ?_⟩
  · rintro i h ⟨o, q, c, d⟩
    exact ⟨o, q, (fun v z => by rw [d] at z; cases z), fun z => by rw [c] at z; exact absurd z (by simp)⟩
  · rintro X hP hw hK hc pins s σ H xs i I hi hq
    subst hP hw hK
    obtain ⟨its, rv, p, hz⟩ := I.tuple hq
    have pl : s.heap.IsTuple a its.toArray := p
    obtain ⟨ob, qb, cb, _⟩ := id pl
    have D := Draws.tuple (prog := X.prog) (w := X.w) (A := X.A.in1) (I.ok.hd hc) it a (ne hi pl) its.toArray
    exact ⟨its, fun j h => h.IsTupleIter it a j ∧ h.IsTuple a its.toArray, a, ob, rv, qb, by rw [cb]; simp, by simpa using D, ⟨hi, pl⟩, fun _ _ z => z.1⟩
  · rintro X hP hw hK hc pins s σ H xs i I hi hq hx
    subst hP hw hK
    obtain ⟨its, rv, p, hz⟩ := I.tuple hq
    have pl : s.heap.IsTuple a its.toArray := p
    have hl := rv.length
    refine ⟨[it, a], fun _ h => h.IsTupleIter it a i ∧ h.IsTuple a its.toArray, ⟨fun _ h st => let ⟨o, q, _⟩ := st.1; ⟨o, q⟩, fun _ h h' st kp => ⟨st.1.at fun o q => kp it (by simp) o q, st.2.at fun o q => kp a (by simp) o q⟩, fun i s Q E hlt => absurd hlt (Nat.not_lt_zero _), fun s Q E st hE => ?_⟩, hi, pl⟩
    exact wpAny_nextOf_tuple_end (I.ok.hd hc) st.1 st.2 (by simp; omega) hE
end
end DL
namespace DL
variable [Wd]
open PySem L2 PySem.Spec PyProof.Rows
theorem callWith_typeKw {M : Model} {A : Around} {E : Value → Shared → Prop} {s : Shared} {env : Env} {pos : Pos} {T : String} {e : Expr} {rest : List Expr} {kws : List Keyword} {Q : Value → Shared → Prop}
    (h : wpAny M A (spliced (backTo pos (starEach (e :: rest) env))) (fun vs s₁ => wpAny M A (evalAll ((backToKw pos (keywordEach kws env)).map (·.2)))
      (fun kvs s₂ => wpAny M A (call (.type T) vs (((backToKw pos (keywordEach kws env)).filterMap (·.1)).zip kvs)) Q E s₂) E s₁) E s)
    (he : backTo pos (starEach (e :: rest) env) = (false, eval e env) :: backTo pos (starEach rest env) := by rfl)
    (hplain : (backTo pos (starEach (e :: rest) env)).any (·.1) = false := by rfl)
    (hall : (backToKw pos (keywordEach kws env)).all (·.1.isSome) = true := by rfl)
    (hkw : (backToKw pos (keywordEach kws env)).any (·.1.isNone) = false := by rfl) :
    wpAny M A (callWith pos (.type T) [] (backTo pos (starEach (e :: rest) env)) (backToKw pos (keywordEach kws env))) Q E s := by
  have key : ∀ {args : List (Bool × Sem Value)} {keywords : List (Option Str × Sem Value)}, args.any (·.1) = false → keywords.any (·.1.isNone) = false → wpAny M A (evalArgs (.type T) true args keywords) (fun a s₁ => wpAny M A (call (.type T) (([] : List Value) ++ a.pos) a.kw) Q E s₁) E s → wpAny M A (callWith pos (.type T) [] args keywords) Q E s := by
    intro args keywords hp hk h
    unfold callWith
    refine wpAny_bind (wpAny_holding (wpAny_mono h (fun a s₁ h₁ => wpAny_bind (wpAny_standAt ?_)) fun _ _ x => x))
    simp only [hp, hk, Bool.or_false]
    refine wpAny_bind (wpAny_pure ?_)
    exact wpAny_bind (wpAny_mono h₁ (fun r s₂ hr => wpAny_bind (wpAny_holding (wpAny_point (wpAny_pure hr)))) fun _ _ x => x)
  refine key hplain hkw ?_
  rw [he] at h ⊢
  exact evalArgs_kwB hall h
/-- the numbers beside the items -/
def enumL {α : Type} (k : Int) : List α → List (Int × α)
  | [] => []
  | x :: xs => (k, x) :: enumL (k + 1) xs
def prD (p : Int × D) : D := .tup [.int p.1, p.2]
theorem enumL_get {α : Type} : ∀ {xs : List α} {k : Int} {i : Nat}, (enumL k xs)[i]? = (xs[i]?).map fun x => (k + (i : Nat), x)
  | [], _, _ => rfl
  | x :: xs, k, 0 => by simp [enumL]
  | x :: xs, k, i + 1 => by
    show (enumL (k + 1) xs)[i]? = (xs[i]?).map _
    rw [enumL_get]
    have e : k + 1 + (i : Nat) = k + ((i + 1 : Nat) : Int) := by omega
    rw [e]
theorem enumL_len {α : Type} : ∀ {xs : List α} {k : Int}, (enumL k xs).length = xs.length
  | [], _ => rfl
  | x :: xs, k => congrArg (· + 1) enumL_len
theorem enumL_map {α β : Type} (f : α → β) : ∀ {xs : List α} {k : Int}, enumL k (xs.map f) = (enumL k xs).map fun p => (p.1, f p.2)
  | [], _ => rfl
  | x :: xs, k => by
    show (k, f x) :: enumL (k + 1) (xs.map f) = (k, f x) :: (enumL (k + 1) xs).map _
    rw [enumL_map f]
inductive IsN (M : Mem) : D → List D → (Mem → Prop) → Prop
  | lst {d : D} {ds : List D} {st : Mem → Prop} : IsL M d ds st → IsN M d ds st
  | tup (ds : List D) : IsN M (.tup ds) ds fun _ => True
theorem IsN.now {M : Mem} {d : D} {ds : List D} {st : Mem → Prop} (h : IsN M d ds st) : st M := by
  cases h with
  | lst h => exact h.now
  | tup => trivial
def iEn (k : Int) (de : DE) : DI := fun ρ M Q E => de ρ M (fun d M1 => ∃ ds st, IsN M1 d ds st ∧ Q ((enumL k ds).map prD) st M1) E
section
variable {X : Cx} {g : G} {W : WX} {pos p : Pos} {e : Expr} {de dk : DE}
def enQ (k : Int) (Q : List D → (Mem → Prop) → Mem → Prop) (ds : List D) (M1 : Mem) : Prop := match ds with
  | [d] => ∃ ds st, IsN M1 d ds st ∧ Q ((enumL k ds).map prD) st M1
  | _ => False
theorem enQ_one {k : Int} {Q : List D → (Mem → Prop) → Mem → Prop} {ds : List D} {M1 : Mem} (h : enQ k Q ds M1) : ∃ d, ds = [d] ∧ ∃ ds st, IsN M1 d ds st ∧ Q ((enumL k ds).map prD) st M1 := by
  unfold enQ at h
  split at h
  · exact ⟨_, rfl, h⟩
  · exact h.elim
theorem meets_enum1 {v : Value} {o : Obj} {H : Heap → Prop} (B : Begins v o H) :
    Meets (Builtin.«enumerate.__new__» ⟨[.type "enumerate", v], []⟩) (fun _ R s => H s.heap ∧
      R (.ok (.ret (.ref (s.heap.push o).objs.size))) { s with heap := (s.heap.push o).push { cls := .type "enumerate", data := .fields #[.none, .bool false, .ref s.heap.objs.size, rawInt 0, .none, .none] } }) :=
  .of_wp fun prog w A R s h => by
    obtain ⟨hp, g, d, tk, os⟩ := s; obtain ⟨h1, h⟩ := h
    have hsub := sub_enumerate
    have q1 : ∀ {A' : Around} {E : Value → Shared → Prop} {Q : Value → Shared → Prop}, Q (.ref hp.objs.size) ⟨hp.push o, g, d, tk, os⟩ → wpAny (model prog w) A' (pyIter v) Q E ⟨hp, g, d, tk, os⟩ :=
      fun q => B.iter prog w _ _ ⟨hp, g, d, tk, os⟩ _ h1 q
    wp_walk using q1
    refine wpAny_stack_any fun st => wpAny_pure ?_
    split
    · rename_i c _ _ _ _ _
      cases (c == Value.type "enumerate")
      · wp_walk using q1
        exact ⟨_, rfl, h⟩
      · wp_walk using q1
        exact ⟨_, rfl, h⟩
    · wp_walk using q1
      exact ⟨_, rfl, h⟩
theorem enum_begins0 {prog : Program} {w : World} {A : Around} {E : Value → Shared → Prop} {s : Shared} {v : Value} {o : Obj} {H : Heap → Prop} {Q : Value → Shared → Prop} (B : Begins v o H) (h1 : H s.heap)
    (h : ∀ h', IsEnum h' (s.heap.objs.size + 1) s.heap.objs.size 0 .none → h'.get? s.heap.objs.size = some o → h'.objs.size = s.heap.objs.size + 2 →
      (∀ b o, s.heap.get? b = some o → h'.get? b = some o) → Q (.ref (s.heap.objs.size + 1)) { s with heap := h' }) :
    wpAny (model prog w) A (call (.type "enumerate") [v]) Q E s := by
  refine callType_new F.called_enumerate (by decide) (F.typeCall_enumerate_1 _) (F.newCall_enumerate_1 _) (fun obj => F.args_object_init_2 obj _) F.entry_enumerate_new
    (meets_enum1 B) ⟨h1, ?_⟩
  have hz : (s.heap.push o).objs.size = s.heap.objs.size + 1 := Heap.size_push ..
  show _ ∧ _
  rw [hz]
  have he : IsEnum ((s.heap.push o).push { cls := .type "enumerate", data := .fields #[.none, .bool false, .ref s.heap.objs.size, rawInt 0, .none, .none] }) (s.heap.objs.size + 1) s.heap.objs.size 0 .none := by
    have := Heap.get?_push_size (s.heap.push o) (o := { cls := .type "enumerate", data := .fields #[.none, .bool false, .ref s.heap.objs.size, rawInt 0, .none, .none] }) rfl
    rw [hz] at this; exact this
  refine ⟨⟨_, he, rfl⟩, h _ he (Heap.get?_push_of_some _ (Heap.get?_push_size _ B.free)) (by rw [Heap.size_push, hz]) fun b o x => Heap.get?_push_of_some _ (Heap.get?_push_of_some _ x)⟩
theorem iEn_one {ρ : Rho} {M : Mem} {k : Int} {Q : List D → (Mem → Prop) → Mem → Prop} {E : XD} (q : iEn k de ρ M Q E) : dCons de dNil ρ M (enQ k Q) E := q
theorem yields_enL {F : Hp} {a : Addr} {ds : List D} {k : Int} {st : Mem → Prop} (hK : g.K = X.K) (hr : ∀ U F' M' H', Same F F' → Sta ⟨g.K, U⟩ F' M' H' → st M' → ∃ ys, SqL g.K H' a ys ∧ Reps g.K F' ys ds) : Yields g.K noH (ItN (fun H xs => SqL X.K H a xs) k) F ((enumL k ds).map prD) st := by
  refine ⟨fun _ _ e => (nomatch e), fun i d U F' M H _ s S h e => ?_, fun i U F' M H _ s S h e => ?_⟩
  · obtain ⟨ys, hq, r⟩ := hr U F' M H s S h
    rw [List.getElem?_map, enumL_get] at e
    cases ed : ds[i]? with
    | none => rw [ed] at e; cases e
    | some x =>
      rw [ed] at e
      cases e
      obtain ⟨v, hv, rv⟩ := r.get ed
      refine ⟨⟨ys, v, by rw [← hK]; exact hq, hv⟩, fun x' H' ⟨T, y, ex, hT, eH, hy⟩ => ?_⟩
      subst ex eH
      have y' := hy ys (by rw [← hK]; exact hq)
      rw [hv] at y'
      cases y'
      obtain ⟨s2, S2⟩ := S.newF (o := .tup [.int (k + (i : Nat)), v]) hT
      exact ⟨_, s2, S2, .tup upd_same (.cons (.int _) (.cons (rv.mono s2) .nil))⟩
  · obtain ⟨ys, hq, r⟩ := hr U F' M H s S h
    rw [List.length_map, enumL_len] at e
    exact ⟨ys, by rw [← hK]; exact hq, by rw [r.length]; exact e⟩
theorem yields_enT {F : Hp} {a : Addr} {ds : List D} {k : Int} {xs : List V} (hK : g.K = X.K) (hs : F a = some (.tup xs)) (r : Reps g.K F xs ds) : Yields g.K noH (ItN (fun H xs => SqT X.K H a xs) k) F ((enumL k ds).map prD) (fun _ => True) := by
  refine ⟨fun _ _ e => (nomatch e), fun i d U F' M H _ s S h e => ?_, fun i U F' M H _ s S h e => ?_⟩
  · have hq := S.sub.sqT (K := g.K) (sqT_mono s hs)
    rw [List.getElem?_map, enumL_get] at e
    cases ed : ds[i]? with
    | none => rw [ed] at e; cases e
    | some x =>
      rw [ed] at e
      cases e
      obtain ⟨v, hv, rv⟩ := r.get ed
      refine ⟨⟨xs, v, by rw [← hK]; exact hq, hv⟩, fun x' H' ⟨T, y, ex, hT, eH, hy⟩ => ?_⟩
      subst ex eH
      have y' := hy xs (by rw [← hK]; exact hq)
      rw [hv] at y'
      cases y'
      obtain ⟨s2, S2⟩ := S.newF (o := .tup [.int (k + (i : Nat)), v]) hT
      exact ⟨_, s2, S2, .tup upd_same (.cons (.int _) (.cons ((rv.mono s).mono s2) .nil))⟩
  · have hq := S.sub.sqT (K := g.K) (sqT_mono s hs)
    rw [List.length_map, enumL_len] at e
    exact ⟨xs, by rw [← hK]; exact hq, by rw [r.length]; exact e⟩
/-- what is behind the call of enumerate -/
theorem enum_end {elts : List Expr} {kk : Nat} {tpos : Pos} {pins : List (Addr × Obj)} {σ : L2.St} {H1 : Hp} {s1 : Shared} {M2 : Mem} {F2 : Hp} {d : D} {ds : List D} {st : Mem → Prop} {k : Int} {v : V} {u : Value} {R : It → Hp → Prop} (hK : g.K = X.K) (I1 : Inv X pins σ H1 s1) (S2 : Sta g F2 M2 H1) (r : Rep g.K F2 v d) (rv : RelV v u) (hi : IsN M2 d ds st)
    (kR : ∀ J, Yields g.K noH J F2 ((enumL k ds).map prD) st → R J H1) :
    (∃ (o : Obj) (HH : Heap → Prop), Begins u o HH ∧ HH s1.heap ∧ ∀ h', IsEnum h' (s1.heap.objs.size + 1) s1.heap.objs.size k .none → h'.get? s1.heap.objs.size = some o → h'.objs.size = s1.heap.objs.size + 2 → (∀ b o, s1.heap.get? b = some o → h'.get? b = some o) →
      wpAny (model X.prog X.w) X.A (pyIter (.ref (s1.heap.objs.size + 1))) (PIE X pins σ (.Tuple elts kk tpos) R) X.xe { s1 with heap := h' }) := by
  have ff : ∀ b ∈ [s1.heap.objs.size + 1, s1.heap.objs.size], FpOk X pins H1 b := fun b hb => by
    have e' : b = s1.heap.objs.size + 1 ∨ b = s1.heap.objs.size := by simpa using hb
    have hle : s1.heap.objs.size ≤ b := by
      rcases e' with z | z
      · rw [z]; exact Nat.le_add_right _ _
      · rw [z]; exact Nat.le_refl _
    exact I1.fpOk hle (I1.hok.fresh hle)
  cases hi with
  | lst hl =>
    obtain ⟨a, xs, ev, hq, r1, r2⟩ := hl.sq S2 r
    subst ev
    obtain rfl : u = Value.ref a := rv
    rw [hK] at hq
    obtain ⟨its, rv', p', hz⟩ := I1.list hq
    refine ⟨_, _, begins_list a its.toArray, p'.isList, fun h' he hit hsz hk => wpAny_pyIter_enum he ?_⟩
    exact ⟨s1.heap.objs.size + 1, _, _, _, H1, rfl, I1.kept (t' := s1.toks) hk, turnN k (s1.heap.objs.size + 1) (srcL a s1.heap.objs.size), ⟨⟨.none, by simpa using he⟩, ⟨_, hit, rfl, rfl⟩, Nat.succ_ne_self _⟩, ff, kR _ (yields_enL hK r2)⟩
  | tup =>
    cases r with
    | tup hs r =>
      obtain rfl : u = Value.ref _ := rv
      have hq := S2.sub.sqT (K := g.K) hs
      rw [hK] at hq
      obtain ⟨its, rv', p', hz⟩ := I1.tuple hq
      refine ⟨_, _, begins_tuple _ its.toArray, (show s1.heap.IsTuple _ its.toArray from p'), fun h' he hit hsz hk => wpAny_pyIter_enum he ?_⟩
      exact ⟨s1.heap.objs.size + 1, _, _, _, H1, rfl, I1.kept (t' := s1.toks) hk, turnN k (s1.heap.objs.size + 1) (srcT _ s1.heap.objs.size), ⟨⟨.none, by simpa using he⟩, ⟨_, hit, rfl, rfl⟩, Nat.succ_ne_self _⟩, ff, kR _ (yields_enT hK hs r)⟩
theorem di_enum {elts : List Expr} {kk : Nat} {tpos : Pos} (hK : g.K = X.K) (hg : Gl X "enumerate") (hm : X.mg "enumerate" = none) (ha : PE X e (liftE g W de)) (hs : starEach [e] X.env = [(false, eval e X.env)] := by rfl) :
    PI X (.Tuple elts kk tpos) (.Call (.Name "enumerate" p) [e] [] pos) (liftI g W (iEn 0 de)) := by
  refine ⟨fun pins s σ H R I ⟨ρ, M, F, Q, E, S, En, q, kQ, kE⟩ => ?_⟩
  have hA := da_cons ha (da_nil (g := g) (W := W)) hs
  refine Call_ (ld_blt I hg hm boot_enumerate (PyProof.Rows.callWith_type1 (thn (hA.run pos pins s σ H (fun vs H1 => ∃ M1 F1 d v, Same F F1 ∧ Sta g F1 M1 H1 ∧ vs = [v] ∧ Rep g.K F1 v d ∧ ∃ ds st, IsN M1 d ds st ∧ Q ((enumL 0 ds).map prD) st M1) I
    ⟨ρ, M, F, (enQ 0 Q), E, S, En, ?_, fun ds M1 F1 vs H1 z s S' r => ?_, kE⟩) fun us s1 ⟨vs, H1, I1, r1, M1, F1, d, v, s12, S1, ev, rv, ds, st, hi, z⟩ => ?_) hs rfl))
  · exact iEn_one q
  · obtain ⟨d, ed, z⟩ := enQ_one z
    subst ed
    cases r with
    | cons r rr => cases rr; exact ⟨M1, F1, d, _, s, S', rfl, r, z⟩
  · subst ev
    cases r1 with
    | cons rx rr =>
      cases rr
      obtain ⟨o, HH, B, hh, fin⟩ := enum_end (k := 0) (elts := elts) (kk := kk) (tpos := tpos) hK I1 S1 rv rx hi fun J Y => kQ _ _ M1 g.U noH F1 J H1 z (Same.r _) same_no s12 S1 Y
      exact enum_begins0 B hh fun h' he hit hsz hk => fin h' he hit hsz hk
theorem di_enumS {elts : List Expr} {kk j : Nat} {tpos kp cp : Pos} {k : Int} (hK : g.K = X.K) (h0 : 0 ≤ k) (h1 : k < 1000) (hg : Gl X "enumerate") (hm : X.mg "enumerate" = none) (ha : PE X e (liftE g W de)) (hs : starEach [e] X.env = [(false, eval e X.env)] := by rfl) (hs2 : backTo pos (starEach [e] X.env) = (false, eval e X.env) :: backTo pos (starEach [] X.env) := by rfl) (hpl : (backTo pos (starEach [e] X.env)).any (·.1) = false := by rfl) :
    PI X (.Tuple elts kk tpos) (.Call (.Name "enumerate" p) [e] [⟨some "start", .Constant (.int k) j cp, kp⟩] pos) (liftI g W (iEn k de)) := by
  refine ⟨fun pins s σ H R I ⟨ρ, M, F, Q, E, S, En, q, kQ, kE⟩ => ?_⟩
  have hA := da_cons ha (da_nil (g := g) (W := W)) hs
  have hk := pk_cons (nm := some "start") (kpos := kp) (pe_int (X := X) (i := k) (j := j) (pos := cp)) (pk_nil (X := X))
  refine wpAny_bind (ld_blt I hg hm boot_enumerate (callWith_typeKw (thn (hA.run pos pins s σ H (fun vs H1 => ∃ M1 F1 d v, Same F F1 ∧ Sta g F1 M1 H1 ∧ vs = [v] ∧ Rep g.K F1 v d ∧ ∃ ds st, IsN M1 d ds st ∧ Q ((enumL k ds).map prD) st M1) I
    ⟨ρ, M, F, (enQ k Q), E, S, En, ?_, fun ds M1 F1 vs H1 z s S' r => ?_, kE⟩) fun us s1 ⟨vs, H1, I1, r1, M1, F1, d, v, s12, S1, ev, rv, ds, st, hi, z⟩ => ?_) hs2 hpl))
  · exact iEn_one q
  · obtain ⟨d, ed, z⟩ := enQ_one z
    subst ed
    cases r with
    | cons r rr => cases rr; exact ⟨M1, F1, d, _, s, S', rfl, r, z⟩
  · subst ev
    cases r1 with
    | cons rx rr =>
      cases rr
      refine thn (hk.run pos pins s1 σ H1 (fun vs H2 => vs = [.int k] ∧ H2 = H1) I1 ⟨rfl, rfl⟩) fun ws s2 ⟨zs, H2, I2, rz, ez, eH⟩ => ?_
      subst ez eH
      cases rz with
      | cons rk rr =>
        cases rr
        obtain ⟨t, rfl⟩ := rk
        obtain ⟨o, HH, B, hh, fin⟩ := enum_end (k := k) (elts := elts) (kk := kk) (tpos := tpos) hK I2 S1 rv rx hi fun J Y => kQ _ _ M1 g.U noH F1 J _ z (Same.r _) same_no s12 S1 Y
        exact enum_begins_start B hh (by omega) (by omega) fun h' he hit hsz hk => fin h' he hit hsz hk
end
end DL
namespace DL
variable [Wd]
open PySem L2 PySem.Spec PyProof.Rows
/-! ### properties of own classes -/
section
variable {X : Cx} {g : G} {W : WX} {pos pos' : Pos} {e o : Expr} {es : List Expr} {de do_ : DE} {dA : DA} {f : Str} {p : Pos}
theorem cx_no {P : Program} {w : World} {outer : List PySem.Env} {H : Hp} {s s' : Shared} {er : Value} (h : L2.CX P w outer H s (fun _ _ _ => False) er s') : False := by
  obtain ⟨_, _, _, _, _, _, _, _, _, _, _, _, z⟩ := h
  exact z
def dProp (C : Addr) (sd : SpD) (de : DE) : DE := fun ρ M Q E => de ρ M (fun d M1 => ∃ es, IsO M1 d C es ∧ sd [d] M1 Q noE) E
theorem de_prop {k : Nat} {C q fa : Addr} {sd : SpD} (c : Cls X.K C) (hp : PropOf X.K C f q fa) (F : FnD X.prog X.w X.K X.mg X.base k fa sd) (hr : Room (k + 1) X.A) (hK : g.K = X.K) (he : PE X e (liftE g W de)) (hb : attributeBase e f X.env (eval e X.env) = eval e X.env := by rfl) :
    PE X (.Attribute e f pos) (liftE g W (dProp C sd de)) := by
  refine ⟨fun pins s σ H k I ⟨ρ, M, F1, Q, E, S, En, q, kQ, kE⟩ => ?_⟩
  obtain ⟨K0, U⟩ := g
  simp only at hK
  subst hK
  refine attr_of hb (thn (he.run pins s σ H (fun x H1 => ∃ M1 F2 d es, Same F1 F2 ∧ Sta ⟨X.K, U⟩ F2 M1 H1 ∧ Rep X.K F2 x d ∧ IsO M1 d C es ∧ sd [d] M1 Q noE) I ⟨ρ, M, F1, _, E, S, En, q, fun d M1 F2 v H1 ⟨es, h1, z⟩ s S' r => ⟨M1, F2, d, es, s, S', r, h1, z⟩, kE⟩)
    fun u s1 ⟨x, H1, I1, rx, M1, F2, d, es, s12, S1, rd, ho1, q1⟩ => ?_)
  obtain ⟨a, dx, kvs, rfl, ea, l, rr⟩ := ho1.to S1 rd
  obtain rfl : u = Value.ref a := rx
  obtain ⟨mA, O, _, _, _, _⟩ := ins_get I1.hok ea
  obtain ⟨od, J, _⟩ := O.look
  obtain ⟨rest, hrec⟩ := hp.rec_
  have I2 := I1.tok (s1.toks + 1)
  have hc : (PySem.W.clsIn X.K C).isSome = true := by
    obtain ⟨cd, hc, _⟩ := PySem.W.any_some c.hd
    rw [hc]
    rfl
  have hsp : spOf X.K sd [V.ref a] H1 k (fun _ _ _ => False) := ⟨U, M1, F2, [d], Q, noE, S1, .cons rd .nil, q1, fun d M' F' v H' z s S' r => kQ d M' F' v H' z (s12.t s) S' r, fun _ _ _ _ _ z => z.elim⟩
  refine PySem.W.get_bind I1.kIn J (PySem.W.plainGet_of (c.get f)).1 (PySem.W.findObj_data hc hp.at_ hp.get hp.tak) (PySem.W.plainGet_of (c.get f)).2 (wpAny_call (PySem.W.prop_get (s := { s1 with toks := s1.toks + 1 }) I1.kIn hrec ?_))
  refine codeAny_mono (F X.A.in1 X.stack { s1 with toks := s1.toks + 1 } H1 [.ref a] [.ref a] _ _ hr.in1 I2.env0.in1 (.cons rfl .nil) hsp) fun r s' hq => ?_
  cases r with
  | error er => exact (cx_no hq).elim
  | ok fl =>
    cases fl with
    | ret u =>
      obtain ⟨v, H', I3, rv, q3⟩ := I2.after hq
      show wpAny _ _ (handedOut u) _ _ _
      rw [PySem.W.handedOut_of (handed_of rv)]
      exact wpAny_pure ⟨v, H', I3, rv, q3⟩
    | next => exact False.elim hq
    | brk => exact False.elim hq
    | cont => exact False.elim hq
/-- o.f = e, f a property with a setter -/
structure PropSet (K : PySem.W.Frag) (C : Addr) (f : Str) (p g : Addr) : Prop where
  tak : PySem.W.takerIn K C f = some (some (.ref p))
  ty : PySem.W.typeIn K (.ref p) = some (.type "property")
  rec_ : ∃ a rest, PySem.W.recIn K p "property" = some (a :: .ref g :: rest)
def sPropS (C : Addr) (sd : SpD) (do_ de : DE) : DS := fun nx _ _ _ ex ρ M => de ρ M (fun d M1 => do_ ρ M1 (fun x M2 => ∃ es, IsO M2 x C es ∧ sd [x, d] M2 (fun _ M3 => nx ρ M3) (fun C dd M' => ex C dd ρ M')) (fun C dd M' => ex C dd ρ M')) (fun C dd M' => ex C dd ρ M')
theorem ds_propS {k : Nat} {C q fa : Addr} {sd : SpD} (c : Cls X.K C) (hp : PropSet X.K C f q fa) (F : FnD X.prog X.w X.K X.mg X.base k fa sd) (hr : Room (k + 2) X.A) (hK : g.K = X.K) (tk : Takes X W) (ho : PE X o (liftE g W do_)) (he : PE X e (liftE g W de)) (hs : swapsWith e (some (.Attribute o f pos')) pos.line X.env = pure false := by rfl) :
    PS X (.Assign [.Attribute o f pos'] e pos) (liftS g W (sPropS C sd do_ de)) := by
  refine ⟨fun pins s σ H D I ⟨ρ, M, F1, nx, rt, bk, ct, ex, S, En, q, k1, k2, k3, k4, k5⟩ => ?_⟩
  obtain ⟨K0, U⟩ := g
  simp only at hK
  subst hK
  refine plainObj_wpAny_Assign_Attribute (thn (he.run pins s σ H (fun y H1 => ∃ M1 F2 d, Same F1 F2 ∧ Sta ⟨X.K, U⟩ F2 M1 H1 ∧ Rep X.K F2 y d ∧ do_ ρ M1 (fun x M2 => ∃ es, IsO M2 x C es ∧ sd [x, d] M2 (fun _ M3 => nx ρ M3) (fun C dd M' => ex C dd ρ M')) (fun C dd M' => ex C dd ρ M')) I
    ⟨ρ, M, F1, _, _, S, En, q, fun d M1 F2 v H1 z s S' r => ⟨M1, F2, d, s, S', r, z⟩, fun C dd M' F' H' z s S' => k5 C dd ρ M' F' σ H' z s S' (En.mono s)⟩) fun u s1 ⟨y, H1, I1, ry, M1, F2, d, s12, S1, rd, q1⟩ => ?_) hs
  refine thn (ho.run pins s1 σ H1 (fun x H2 => ∃ M2 F3 xd es, Same F2 F3 ∧ Sta ⟨X.K, U⟩ F3 M2 H2 ∧ Rep X.K F3 x xd ∧ IsO M2 xd C es ∧ sd [xd, d] M2 (fun _ M3 => nx ρ M3) (fun C dd M' => ex C dd ρ M')) I1
    ⟨ρ, M1, F2, _, _, S1, En.mono s12, q1, fun d M1 F2 v H1 ⟨es, h1, z⟩ s S' r => ⟨M1, F2, d, es, s, S', r, h1, z⟩, fun C dd M' F' H' z s S' => k5 C dd ρ M' F' σ H' z (s12.t s) S' (En.mono (s12.t s))⟩) fun ov s2 ⟨x, H2, I2, rx, M2, F3, xd, es, s23, S2, rx2, ho2, q2⟩ => ?_
  obtain ⟨a, dx, kvs, rfl, ea, l, rr⟩ := ho2.to S2 rx2
  obtain rfl : ov = Value.ref a := rx
  obtain ⟨mA, O, _, _, _, _⟩ := ins_get I2.hok ea
  obtain ⟨od, J, _⟩ := O.look
  obtain ⟨ga, rest, hrec⟩ := hp.rec_
  have I3 := I2.tok (s2.toks + 1)
  have s13 := s12.t s23
  have hsp : spOf X.K sd [V.ref a, y] H2 (fun _ H3 => D.nx σ H3) (fun cls d H' => W cls d σ H') := ⟨U, M2, F3, [xd, d], _, _, S2, .cons rx2 (.cons (rd.mono s23) .nil), q2, fun d M' F' v H' z s S' r => k1 ρ M' F' σ H' z (s13.t s) S' (En.mono (s13.t s)),
    fun C dd M' F' H' z s S' => k5 C dd ρ M' F' σ H' z (s13.t s) S' (En.mono (s13.t s))⟩
  refine PySem.W.set_plain I2.kIn J c.sa (PySem.W.osa_descr (s := { s2 with toks := s2.toks + 1 }) PySem.W.KF.slot_pset I2.kIn J c.po hp.tak hp.ty (PySem.W.prop_set (s := { s2 with toks := s2.toks + 1 }) I2.kIn hrec ?_))
  refine codeAny_mono (F X.A.in1.in1 X.stack { s2 with toks := s2.toks + 1 } H2 [.ref a, u] [.ref a, y] _ _ hr.in1.in1 I3.env0.in1.in1 (.cons rfl (.cons ry .nil)) hsp) fun r s' hq => ?_
  cases r with
  | error er => exact tk er s' (XE.of_call I3 (fun _ _ _ h => h) hq)
  | ok fl =>
    cases fl with
    | ret u =>
      obtain ⟨v, H', I4, rv, q3⟩ := I3.after hq
      exact ⟨σ, H', I4, q3⟩
    | next => exact False.elim hq
    | brk => exact False.elim hq
    | cont => exact False.elim hq
/-! ### defs with a star parameter -/
def SpD.star (n : Nat) (sd : SpD) : SpD := fun ds M Q E => ∃ ws rest, ds = ws ++ rest ∧ ws.length = n ∧ rest.length ≤ sizeLine ∧ sd (ws ++ [.tup rest]) M Q E
theorem reps_split {K : PySem.W.Frag} {F : Hp} : ∀ {ds es : List D} {vs : List V}, Reps K F vs (ds ++ es) → ∃ v1 v2, vs = v1 ++ v2 ∧ Reps K F v1 ds ∧ Reps K F v2 es
  | [], _, vs, r => ⟨[], vs, rfl, .nil, r⟩
  | _ :: _, _, _, .cons a r => let ⟨v1, v2, e, r1, r2⟩ := reps_split r; ⟨_ :: v1, v2, by rw [e]; rfl, .cons a r1, r2⟩
end
section
variable {P : Program} {w : World} {K : PySem.W.Frag} {mg : Str → Option Value} {base : Heap}
theorem fnD_ofStar {x qual pv : Str} {st : Stmt} {f : Addr} {fd : FuncData} {N ps : List Str} {k : Nat} {sd : SpD} (Fu : Fun K x qual st f fd) (S : FnScope N (ps ++ [pv]) (defScope st))
    (hb : ∀ (kV doc pm : Value) (an : Option Addr) (cdv ct : Value) (us rest : List Value), us.length = ps.length → bindArgs (PySem.W.fnOf x qual (defArgs st) (defBody st) (defScope st) .none kV doc pm an cdv ct) ⟨us ++ rest, []⟩ = (newTuple rest >>= fun t => pure (ps.zip us ++ [(pv, t)])))
    (hbody : ∀ (cdv : Value) (A : Around) (outer : List PySem.Env) (s : Shared) (H : Hp) (U : Hp) (E : XK) (ds : List D) (M : Mem) (Qd : D → Mem → Prop) (Ed : XD), Room k (A.deeper (PyProof.Rows.envOfC qual (defScope st) s.heap.objs.size f cdv)) → sd ds M Qd Ed →
      ∃ body : DS, PSs (cxOf (L2.CX P w) P w K mg base N qual (defScope st) f cdv A outer s H E) (defBody st) (liftS ⟨K, U⟩ (fun cls d _ H => E cls d H) body) ∧
        body (fun _ M' => Qd .non M') Qd (fun _ _ => False) (fun _ _ => False) (fun C dd _ M' => Ed C dd M') (start0 N ds) M) : FnD P w K mg base (k + 1) f (SpD.star ps.length sd) := by
  obtain ⟨oc, od, kV, doc, pm, an, cdv, ct, osl, rfl, lk, hcd⟩ := Fu.ex
  refine FnR.imp (StX.fn_star (sp := spOf K sd) lk hcd S StX.cxUp (hb kV doc pm an cdv ct) fun A outer s H vs Q E hr h => ?_) fun vs H Q E h => ?_
  · obtain ⟨U, M, F, ds, Qd, Ed, St_, r, h, kQ, kE⟩ := h
    obtain ⟨body, hp, hq⟩ := hbody cdv A outer s H U E ds M Qd Ed hr h
    refine ⟨_, hp, start0 N ds, M, F, _, _, _, _, _, St_, env_start r, hq, ?_, ?_, ?_, ?_, ?_⟩
    · exact fun ρ' M' F' σ' H' z s S' En => kQ _ M' F' .non H' z s S' .non
    · exact kQ
    · exact fun ρ' M' F' σ' H' z s S' En => z.elim
    · exact fun ρ' M' F' σ' H' z s S' En => z.elim
    · exact fun C dd ρ' M' F' σ' H' z s S' En => kE C dd M' F' H' z s S'
  · obtain ⟨U, M, F, ds, Qd, Ed, S, r, ⟨ws, rest, ed, hl, hz, h⟩, kQ, kE⟩ := h
    subst ed
    obtain ⟨v1, v2, ev, r1, r2⟩ := reps_split r
    subst ev
    refine ⟨v1, v2, rfl, by rw [r1.length]; exact hl, by rw [r2.length]; exact hz, fun p hp => ?_⟩
    obtain ⟨s, S'⟩ := S.newF (o := .tup v2) hp
    exact ⟨U, M, _, _, Qd, Ed, S', (r1.mono s).append (.cons (.tup upd_same (r2.mono s)) .nil), h, fun d M' F' v H' z s' S'' r => kQ d M' F' v H' z (s.t s') S'' r, fun C dd M' F' H' z s' S'' => kE C dd M' F' H' z (s.t s') S''⟩
end
/-! ### starred arguments -/
section
variable {X : Cx} {g : G} {W : WX} {pos p sp_ : Pos} {e o : Expr} {es : List Expr} {de do_ : DE} {dA : DA} {x f : Str}
def dStar (de : DE) (dA : DA) : DA := fun ρ M Q E => de ρ M (fun d M1 => ∃ xs, IsS M1 d xs ∧ dA ρ M1 (fun ds M2 => Q (xs ++ ds) M2) E) E
theorem da_star (hK : g.K = X.K) (he : PE X e (liftE g W de)) (hr : PA X es (liftA g W dA)) (hs : starEach (.Starred e p :: es) X.env = (true, eval e X.env) :: starEach es X.env := by rfl) : PA X (.Starred e p :: es) (liftA g W (dStar de dA)) := by
  refine ⟨fun pos pins s σ H k I ⟨ρ, M, F, Q, E, S, En, q, kQ, kE⟩ => (StX.pa_star he hr hs).run pos pins s σ H k I ⟨ρ, M, F, _, E, S, En, q, fun d M1 F1 v H1 ⟨xs, hi, z⟩ s1 S1 r1 => ?_, kE⟩⟩
  obtain ⟨a, vs, ev, hq, rv⟩ := hi.to S1 r1
  rw [hK] at hq
  exact ⟨a, vs, ev, hq.symm, ρ, M1, F1, _, E, S1, En.mono s1, z, fun ds M2 F2 us H2 z s2 S2 r2 => kQ _ M2 F2 _ H2 z (s1.t s2) S2 ((rv.mono s2).append r2), fun C dd M2 F2 H2 q2 s2 S2 => kE C dd M2 F2 H2 q2 (s1.t s2) S2⟩
/-- C(*e) -/
theorem de_makeS1 {k : Nat} {C fa : Addr} {sd : SpD} (Mk_ : Mk X.K C fa) (F : FnD X.prog X.w X.K X.mg X.base k fa sd) (hr : Room (k + 1) X.A) (hg : Gl X x) (hm : X.mg x = some (.ref C)) (hK : g.K = X.K) (tk : Takes X W) (he : PE X e (liftE g W de))
    (hdb : (x == ("__debug__" : Str)) = false := by decide) (hst : starEach [.Starred e sp_] X.env = [(true, eval e X.env)] := by rfl) :
    PE X (.Call (.Name x p) [.Starred e sp_] [] pos) (liftE g W (dMake C sd (dStar de dNil))) := by
  refine ⟨fun pins s σ H k I ⟨ρ, M, F1, Q, E, S, En, q, kQ, kE⟩ => ?_⟩
  obtain ⟨K0, U⟩ := g
  simp only at hK
  subst hK
  refine wpAny_Call_Name_kw (ld_glob I hg hm ?_ hdb)
  refine PySem.W.callWith_S (h₀ := X.base) I.ok.mod.kin Mk_.kp (thn (he.run pins s σ H (fun v H1 => ∃ M1 F2 d xs, Same F1 F2 ∧ Sta ⟨X.K, U⟩ F2 M1 H1 ∧ Rep X.K F2 v d ∧ IsS M1 d xs ∧ ∀ x, (∀ m, (x, m) ∉ M1) → sd (.ptr x :: (xs ++ [])) ((x, .obj C []) :: M1) (fun d M2 => d = .non ∧ Q (.ptr x) M2) E) I
    ⟨ρ, M, F1, _, E, S, En, q, fun d M1 F2 v H1 ⟨xs, hi, z⟩ s S' r => ⟨M1, F2, d, xs, s, S', r, hi, z⟩, kE⟩) fun v s1 ⟨y, H1, I1, ry, M1, F2, d, xs, s12, S1, rd, hi, q1⟩ => ?_) hst
  obtain ⟨a, vs, ey, hq, rv⟩ := hi.to S1 rd
  subst ey
  obtain rfl : v = Value.ref a := ry
  refine StX.star_any I1 hq.symm fun us s2 I2 r2 => ⟨I2.kIn, ?_⟩
  refine run_makeD (Ex := fun cls d H' => W cls d σ H') Mk_ F hr tk (fun _ _ _ h => h) I2 r2 fun y dx h1 h2 h3 => ?_
  have q2 := q1 y (S1.fresh h1)
  rw [List.append_nil] at q2
  exact ⟨U, _, F2, _, _, E, sta_made S1 h1 h2 h3, .cons (.ptr y) rv, q2, fun d M' F' v H' ⟨ed, z⟩ s S' r => by
    subst ed
    cases r
    exact ⟨rfl, kQ _ M' F' _ H' z (s12.t s) S' (.ptr y)⟩, fun C dd M' F' H' z s S' => kE C dd M' F' H' z (s12.t s) S'⟩
/-- C(e, .., *e') -/
theorem de_makeS2 {k : Nat} {C fa : Addr} {sd : SpD} (Mk_ : Mk X.K C fa) (F : FnD X.prog X.w X.K X.mg X.base k fa sd) (hr : Room (k + 1) X.A) (hg : Gl X x) (hm : X.mg x = some (.ref C)) (hK : g.K = X.K) (tk : Takes X W) (ha : PA X (e :: es) (liftA g W dA))
    (hdb : (x == ("__debug__" : Str)) = false := by decide) (he : starEach (e :: es) X.env = (false, eval e X.env) :: starEach es X.env := by rfl) (hst : (backTo pos (starEach es X.env)).any (·.1) = true := by rfl) :
    PE X (.Call (.Name x p) (e :: es) [] pos) (liftE g W (dMake C sd dA)) := by
  refine ⟨fun pins s σ H k I ⟨ρ, M, F1, Q, E, S, En, q, kQ, kE⟩ => ?_⟩
  obtain ⟨K0, U⟩ := g
  simp only at hK
  subst hK
  refine wpAny_Call_Name_kw (ld_glob I hg hm ?_ hdb)
  refine PySem.W.callWith_S2 (h₀ := X.base) I.ok.mod.kin Mk_.kp (thn (ha.run pos pins s σ H (fun vs H1 => ∃ M1 F2 ds, Same F1 F2 ∧ Sta ⟨X.K, U⟩ F2 M1 H1 ∧ Reps X.K F2 vs ds ∧ ∀ x, (∀ m, (x, m) ∉ M1) → sd (.ptr x :: ds) ((x, .obj C []) :: M1) (fun d M2 => d = .non ∧ Q (.ptr x) M2) E) I
    ⟨ρ, M, F1, _, E, S, En, q, fun ds M1 F2 vs H1 z s S' r => ⟨M1, F2, ds, s, S', r, z⟩, kE⟩) fun us s1 ⟨vs, H1, I1, r, M1, F2, ds, s12, S1, r1, q1⟩ => ⟨I1.kIn, ?_⟩) he hst
  refine run_makeD (Ex := fun cls d H' => W cls d σ H') Mk_ F hr tk (fun _ _ _ h => h) I1 r fun y dx h1 h2 h3 => ?_
  exact ⟨U, _, F2, _, _, E, sta_made S1 h1 h2 h3, .cons (.ptr y) r1, q1 y (S1.fresh h1), fun d M' F' v H' ⟨ed, z⟩ s S' r => by
    subst ed
    cases r
    exact ⟨rfl, kQ _ M' F' _ H' z (s12.t s) S' (.ptr y)⟩, fun C dd M' F' H' z s S' => kE C dd M' F' H' z (s12.t s) S'⟩
/-- C() -/
theorem de_make0 {k : Nat} {C fa : Addr} {sd : SpD} (Mk_ : Mk X.K C fa) (F : FnD X.prog X.w X.K X.mg X.base k fa sd) (hr : Room (k + 1) X.A) (hg : Gl X x) (hm : X.mg x = some (.ref C)) (hK : g.K = X.K) (tk : Takes X W) (hdb : (x == ("__debug__" : Str)) = false := by decide) :
    PE X (.Call (.Name x p) [] [] pos) (liftE g W (dMake C sd dNil)) := by
  refine ⟨fun pins s σ H k I ⟨ρ, M, F1, Q, E, S, En, q, kQ, kE⟩ => ?_⟩
  obtain ⟨K0, U⟩ := g
  simp only at hK
  subst hK
  refine wpAny_Call_Name_kw (ld_glob I hg hm ?_ hdb)
  refine PySem.W.callWith_K0 I.kIn Mk_.kp ?_
  have q1 : ∀ x, (∀ m, (x, m) ∉ M) → sd [.ptr x] ((x, .obj C []) :: M) (fun d M2 => d = .non ∧ Q (.ptr x) M2) E := q
  refine run_makeD (us := []) (Ex := fun cls d H' => W cls d σ H') Mk_ F hr tk (fun _ _ _ h => h) I .nil fun y dx h1 h2 h3 => ?_
  exact ⟨U, _, F1, _, _, E, sta_made S h1 h2 h3, .cons (.ptr y) .nil, q1 y (S.fresh h1), fun d M' F' v H' ⟨ed, z⟩ s S' r => by
    subst ed
    cases r
    exact ⟨rfl, kQ _ M' F' _ H' z s S' (.ptr y)⟩, kE⟩
end
end DL
namespace DL
variable [Wd]
open PySem L2 PySem.Spec PyProof.Rows
/-! ### isinstance of any value, one class -/
inductive TyI (K : PySem.W.Frag) (M : Mem) : D → Value → Prop
  | non : TyI K M .non (.type "NoneType")
  | bl (b : Bool) : TyI K M (.bl b) (.type "bool")
  | int (i : Int) : TyI K M (.int i) (.type "int")
  | str (x : Str) : TyI K M (.str x) (.type "str")
  | lst {d : D} {ds : List D} {st : Mem → Prop} : IsL M d ds st → TyI K M d (.type "list")
  | tup (ds : List D) : TyI K M (.tup ds) (.type "tuple")
  | obj {d : D} {C : Addr} {es : List (Str × D)} : IsO M d C es → C8.InsC K C → TyI K M d (.ref C)
section
variable {X : Cx} {g : G} {W : WX} {F : Hp} {M : Mem} {H : Hp} {pos p : Pos} {e : Expr} {es : List Expr} {de : DE}
theorem sqL_ty {K : PySem.W.Frag} {a : Addr} {xs : List V} (h : SqL K H a xs) : TyX K H (.ref a) (.type "list") := by
  rcases h with (h | ⟨z, h⟩) | ⟨o, its, n, hk, hc, _⟩
  · exact .base (.lst h)
  · exact .base (.frz h)
  · exact .kList hk hc
theorem sqT_ty {K : PySem.W.Frag} {a : Addr} {xs : List V} (h : SqT K H a xs) : TyX K H (.ref a) (.type "tuple") := by
  rcases h with (h | ⟨z, h⟩) | ⟨o, its, n, hk, hc, _⟩
  · exact .base (.tup h)
  · exact .fTuple h
  · exact .kTuple hk hc
theorem TyI.to {v : V} {d : D} {t : Value} (h : TyI g.K M d t) (S : Sta g F M H) (r : Rep g.K F v d) : TyX g.K H v t := by
  cases h with
  | non => cases r; exact .base .non
  | bl => cases r; exact .base (.bl _)
  | int => cases r; exact .base (.int _)
  | str => cases r; exact .base (.str _)
  | lst h => obtain ⟨a, xs, ev, hq, _⟩ := h.sq S r; subst ev; exact sqL_ty hq
  | tup => cases r with | tup e r => exact sqT_ty (S.sub.sqT (K := g.K) e)
  | obj h c => obtain ⟨a, dx, kvs, ev, ha, _⟩ := h.to S r; subst ev; exact .base (.ins ha c.cl c.ha c.hn c.htk c.hm)
inductive IsiC (K : PySem.W.Frag) (M : Mem) (Q : D → Mem → Prop) : List D → Prop
  | mk {x c : D} {t u : Value} {b : Bool} : ClD c u → TyI K M x t → PySem.W.kitOne K t u = some b → Q (.bl b) M → IsiC K M Q [x, c]
abbrev rIsi (K : PySem.W.Frag) : DC := fun ds M Q => IsiC K M Q ds
theorem cd_isi (hK : g.K = X.K) : CallD X g (.builtin "isinstance") (rIsi X.K) := by
  intro pins s σ H vs us k I r h
  obtain ⟨F, M, ds, Q, S, r1, q, kQ⟩ := h
  obtain ⟨K0, U⟩ := g
  simp only at hK
  subst hK
  cases q with
  | mk hc ht hk q =>
    cases r1 with
    | cons r1 rn =>
      cases rn with
      | cons r2 rn =>
        cases rn
        have ty := ht.to S r1
        rename_i c t u b v1 v2
        have cv : ClsV v2 u := by
          cases hc with
          | own => cases r2; exact .own _
          | ty => cases r2; exact .ty _
        exact call_isi pins s σ H _ us k I r ⟨_, _, t, u, b, rfl, cv, ty, hk, kQ _ M F _ H q (Same.r F) S (.bl _)⟩
/-! ### operators of an own class -/
def rOwn (C : Addr) (sd : SpD) : DR2 := fun d e M Q => ∃ es es', IsO M d C es ∧ IsO M e C es' ∧ sd [d, e] M Q noE
def rOr (r r' : DR2) : DR2 := fun d e M Q => r d e M Q ∨ r' d e M Q
theorem od_or {f : Value → Value → Sem Value} {r r' : DR2} (h : OpD X g f r) (h' : OpD X g f r') : OpD X g f (rOr r r') := by
  intro pins s σ H x y v u k I rx ry q
  obtain ⟨F, M, d, e, Q, S, r1, r2, ar, kQ⟩ := q
  rcases ar with ar | ar
  · exact h pins s σ H x y v u k I rx ry ⟨F, M, d, e, Q, S, r1, r2, ar, kQ⟩
  · exact h' pins s σ H x y v u k I rx ry ⟨F, M, d, e, Q, S, r1, r2, ar, kQ⟩
theorem cmpBack {Q : Value → Shared → Prop} {v : V} {u : Value} {s : Shared} (r : RelV v u) (q : Q u s) : PySem.W.CmpBack Q u s := by
  cases v with
  | non => cases (show u = _ from r); exact q
  | bl b => cases (show u = _ from r); exact q
  | int i => obtain ⟨t, e⟩ := (show ∃ t, u = Value.int i t from r); subst e; exact q
  | str i => obtain ⟨t, e⟩ := (show ∃ t, u = Value.str i t from r); subst e; exact q
  | byt i => obtain ⟨t, e⟩ := (show ∃ t, u = Value.bytes i t from r); subst e; exact q
  | flt i => obtain ⟨t, e⟩ := (show ∃ t, u = Value.float i t from r); subst e; exact q
  | ref a => cases (show u = _ from r); exact q
  | ty n => cases (show u = _ from r); exact q
/-- a call of an own def at values, nothing raised -/
theorem run_own {k : Nat} {fa : Addr} {sd : SpD} {U : Hp} {Q : D → Mem → Prop} {kk : VK} {us : List Value} {vs : List V} {ds : List D} {pins : List (Addr × Obj)} {σ : L2.St} {s : Shared} {A : Around} {E : Value → Shared → Prop} {R : Value → Shared → Prop} (F : FnD X.prog X.w X.K X.mg X.base k fa sd) (hr : Room k A) (hA : Env0 X.prog X.w X.K X.mg X.base A X.stack s H)
    (I : Inv X pins σ H s) (r : Vals vs us) {F1 : Hp} (S : Sta ⟨X.K, U⟩ F1 M H) (rd : Reps X.K F1 vs ds) (q : sd ds M Q noE) (kQ : ∀ d M' F' v H', Q d M' → Same F1 F' → Sta ⟨X.K, U⟩ F' M' H' → Rep X.K F' v d → kk v H') (hR : ∀ v u H' s', Inv X pins σ H' s' → RelV v u → kk v H' → R u s') :
    wpAny (model X.prog X.w) A (call (.ref fa) us) R E s := by
  have hsp : spOf X.K sd vs H kk (fun _ _ _ => False) := ⟨U, M, F1, ds, Q, noE, S, rd, q, kQ, fun _ _ _ _ _ z => z.elim⟩
  refine wpAny_call (codeAny_mono (F A X.stack s H us vs _ _ hr hA r hsp) fun r s' hq => ?_)
  cases r with
  | error er => exact (cx_no hq).elim
  | ok fl =>
    cases fl with
    | ret u =>
      obtain ⟨v, H', I3, rv, q3⟩ := I.after hq
      exact hR v u H' s' I3 rv q3
    | next => exact False.elim hq
    | brk => exact False.elim hq
    | cont => exact False.elim hq
structure OwnOp (K : PySem.W.Frag) (C fa : Addr) (nm : Str) : Prop where
  at_ : PySem.W.findIn K (.ref C) nm = some (some (.ref fa))
  fn : PySem.W.isFn K (.ref fa) = true
  sf : PySem.W.selfFirst K C = true
theorem od_bin {op : Operator} {k : Nat} {C fa : Addr} {sd : SpD} (o : OwnOp X.K C fa (PySem.dunder op.info.2)) (F : FnD X.prog X.w X.K X.mg X.base k fa sd) (hr : Room k X.A) (hK : g.K = X.K) : OpD X g (binaryOp op) (rOwn C sd) := by
  intro pins s σ H x y v u kk I rx ry h
  obtain ⟨F1, M, d, e, Q, S, r1, r2, ⟨es, es', o1, o2, q⟩, kQ⟩ := h
  obtain ⟨K0, U⟩ := g
  simp only at hK
  subst hK
  obtain ⟨a, dx, kvs, rfl, ha, _⟩ := o1.to S r1
  obtain ⟨b, dy, kvs', rfl, hb, _⟩ := o2.to S r2
  obtain rfl : v = Value.ref a := rx
  obtain rfl : u = Value.ref b := ry
  obtain ⟨mA, J, _⟩ := ins_get I.hok ha
  obtain ⟨mB, J', _⟩ := ins_get I.hok hb
  obtain ⟨od, J, _⟩ := J.look
  obtain ⟨od', J', _⟩ := J'.look
  obtain ⟨m, hF⟩ := I.fr
  refine PySem.W.binop_K hF I.ok.mod.kin J J'.type o.sf o.at_ o.fn ?_
  exact run_own (vs := [.ref a, .ref b]) (R := PySem.W.CmpBack (EP X pins σ kk)) F hr I.env0 I (.cons rfl (.cons rfl .nil)) S (.cons r1 (.cons r2 .nil)) q kQ fun v u H' s' I' rv z => cmpBack rv ⟨v, H', I', rv, z⟩
theorem od_own {cop : CmpOp} {k : Nat} {C fa : Addr} {sd : SpD} (hcp : ∀ v u, compareOp cop v u = richCompare cop v u) (o : OwnOp X.K C fa (cmpInfo cop).2.1) (F : FnD X.prog X.w X.K X.mg X.base k fa sd) (hr : Room k X.A) (hK : g.K = X.K) : OpD X g (compareOp cop) (rOwn C sd) := by
  intro pins s σ H x y v u kk I rx ry h
  obtain ⟨F1, M, d, e, Q, S, r1, r2, ⟨es, es', o1, o2, q⟩, kQ⟩ := h
  obtain ⟨K0, U⟩ := g
  simp only at hK
  subst hK
  obtain ⟨a, dx, kvs, rfl, ha, _⟩ := o1.to S r1
  obtain ⟨b, dy, kvs', rfl, hb, _⟩ := o2.to S r2
  obtain rfl : v = Value.ref a := rx
  obtain rfl : u = Value.ref b := ry
  obtain ⟨mA, J, _⟩ := ins_get I.hok ha
  obtain ⟨mB, J', _⟩ := ins_get I.hok hb
  obtain ⟨od, J, _⟩ := J.look
  obtain ⟨od', J', _⟩ := J'.look
  obtain ⟨m, hF⟩ := I.fr
  rw [hcp]
  refine PySem.W.cmp_K (tb := .ref C) hr.units0 hF I.ok.mod.kin J J'.type (by simp [PySem.W.notFirst]) o.at_ o.fn ?_
  exact run_own (vs := [.ref a, .ref b]) (R := PySem.W.CmpBack (EP X pins σ kk)) F hr I.env0 I (.cons rfl (.cons rfl .nil)) S (.cons r1 (.cons r2 .nil)) q kQ fun v u H' s' I' rv z => cmpBack rv ⟨v, H', I', rv, z⟩
/-! ### the protocol's built-ins over an own class -/
/-- len(o) -/
inductive LenO (C : Addr) (sd : SpD) (M : Mem) (Q : D → Mem → Prop) : List D → Prop
  | mk {d : D} {es : List (Str × D)} : IsO M d C es → sd [d] M (fun z M' => ∃ n : Nat, z = .int (n : Nat) ∧ n < 2 ^ 62 ∧ Q z M') noE → LenO C sd M Q [d]
def rLenO (C : Addr) (sd : SpD) : DC := fun ds M Q => LenC M Q ds ∨ LenO C sd M Q ds
theorem cd_lenO {k : Nat} {C fa : Addr} {sd : SpD} (hw : X.w = Wd.w) (o : OwnOp X.K C fa "__len__") (F : FnD X.prog X.w X.K X.mg X.base k fa sd) (hr : Room (k + 1) X.A) (hK : g.K = X.K) : CallD X g (.builtin "len") (rLenO C sd) := by
  intro pins s σ H vs us kk I r h
  obtain ⟨F1, M, ds, Q, S, r1, q, kQ⟩ := h
  rcases q with q | q
  · exact cd_len hw hK pins s σ H vs us kk I r ⟨F1, M, ds, Q, S, r1, q, kQ⟩
  obtain ⟨K0, U⟩ := g
  simp only at hK
  subst hK
  cases q with
  | mk o1 q =>
    cases r1 with
    | cons r1 rn =>
      cases rn
      obtain ⟨a, dx, kvs, rfl, ha, _⟩ := o1.to S r1
      cases r with
      | cons rx rr =>
        cases rr
        obtain rfl : _ = Value.ref a := rx
        obtain ⟨mA, J, _⟩ := ins_get I.hok ha
        obtain ⟨od, J, _⟩ := J.look
        obtain ⟨m, hF⟩ := I.fr
        refine PySem.W.len_K hF I.ok.mod.kin J o.at_ o.fn ?_
        refine run_own (vs := [.ref a]) (A := X.A.in1) (kk := fun v H' => ∃ n : Nat, v = .int (n : Nat) ∧ n < 2 ^ 62 ∧ kk v H') F hr.in1 I.env0.in1 I (.cons rfl .nil) S (.cons r1 .nil) q (fun d M' F' v H' ⟨n, ez, hn, z⟩ s S' r => ?_) fun v u H' s' I' rv ⟨n, ev, hn, z⟩ => ?_
        · subst ez
          have z' := kQ _ M' F' v H' z s S' r
          cases r
          exact ⟨n, rfl, hn, z'⟩
        · subst ev
          obtain ⟨t, rfl⟩ := (show ∃ t, u = Value.int _ t from rv)
          exact ⟨⟨by omega, by omega⟩, .int (n : Nat), H', I'.tok _, ⟨_, rfl⟩, z⟩
/-- x in o -/
def rInO (neg : Bool) (C : Addr) (sd : SpD) : DR2 := fun d e M Q => ∃ es, IsO M e C es ∧ sd [e, d] M (fun z M' => ∃ b, z = .bl b ∧ Q (.bl (b != neg)) M') noE
theorem od_inO {k : Nat} {C fa : Addr} {sd : SpD} (o : OwnOp X.K C fa "__contains__") (F : FnD X.prog X.w X.K X.mg X.base k fa sd) (hr : Room k X.A) (hK : g.K = X.K) : OpD X g (compareOp .In) (rInO false C sd) := by
  intro pins s σ H x y v u kk I rx ry h
  obtain ⟨F1, M, d, e, Q, S, r1, r2, ⟨es, o1, q⟩, kQ⟩ := h
  obtain ⟨K0, U⟩ := g
  simp only at hK
  subst hK
  obtain ⟨a, dx, kvs, rfl, ha, _⟩ := o1.to S r2
  obtain rfl : u = Value.ref a := ry
  obtain ⟨mA, J, _⟩ := ins_get I.hok ha
  obtain ⟨od, J, _⟩ := J.look
  obtain ⟨m, hF⟩ := I.fr
  refine PySem.W.in_K hF I.ok.mod.kin J o.at_ o.fn ?_
  refine run_own (vs := [.ref a, x]) (kk := fun v H' => ∃ b, v = .bl b ∧ kk (.bl b) H') F hr I.env0 I (.cons rfl (.cons rx .nil)) S (.cons r2 (.cons r1 .nil)) q (fun d M' F' v H' ⟨b, ez, z⟩ s S' r => ?_) fun v u H' s' I' rv ⟨b, ev, z⟩ => ?_
  · subst ez
    rw [ne_false] at z
    cases r
    exact ⟨b, rfl, kQ _ M' F' _ H' z s S' (.bl _)⟩
  · subst ev
    obtain rfl : u = Value.bool b := rv
    exact wpAny_truthy_bool ⟨.bl b, H', I', rfl, z⟩
theorem od_notInO {k : Nat} {C fa : Addr} {sd : SpD} (o : OwnOp X.K C fa "__contains__") (F : FnD X.prog X.w X.K X.mg X.base k fa sd) (hr : Room k X.A) (hK : g.K = X.K) : OpD X g (compareOp .NotIn) (rInO true C sd) := by
  intro pins s σ H x y v u kk I rx ry h
  obtain ⟨F1, M, d, e, Q, S, r1, r2, ⟨es, o1, q⟩, kQ⟩ := h
  obtain ⟨K0, U⟩ := g
  simp only at hK
  subst hK
  obtain ⟨a, dx, kvs, rfl, ha, _⟩ := o1.to S r2
  obtain rfl : u = Value.ref a := ry
  obtain ⟨mA, J, _⟩ := ins_get I.hok ha
  obtain ⟨od, J, _⟩ := J.look
  obtain ⟨m, hF⟩ := I.fr
  refine PySem.W.notIn_K hF I.ok.mod.kin J o.at_ o.fn ?_
  refine run_own (vs := [.ref a, x]) (kk := fun v H' => ∃ b, v = .bl b ∧ kk (.bl (!b)) H') F hr I.env0 I (.cons rfl (.cons rx .nil)) S (.cons r2 (.cons r1 .nil)) q (fun d M' F' v H' ⟨b, ez, z⟩ s S' r => ?_) fun v u H' s' I' rv ⟨b, ev, z⟩ => ?_
  · subst ez
    rw [ne_true] at z
    cases r
    exact ⟨b, rfl, kQ _ M' F' _ H' z s S' (.bl _)⟩
  · subst ev
    obtain rfl : u = Value.bool b := rv
    exact wpAny_truthy_bool ⟨.bl (!b), H', I', rfl, z⟩
end
end DL
namespace DL
variable [Wd]
open PySem L2 PySem.Spec PyProof.Rows
section
variable {M : Mem} {K : PySem.W.Frag} {ds : List D} {Qd : D → Mem → Prop} {Ed : XD}
/-! ### Grammar.__init__ -/
theorem ord_le : ∀ (xs as : List Str), (xs.foldl (fun a x => if x ∈ a then a else a ++ [x]) as).length ≤ as.length + xs.length
  | [], as => Nat.le_refl _
  | x :: xs, as => by
    rw [List.foldl_cons, List.length_cons]
    have ih := ord_le xs (if x ∈ as then as else as ++ [x])
    by_cases h : x ∈ as
    · rw [if_pos h] at ih ⊢; omega
    · rw [if_neg h] at ih ⊢
      rw [List.length_append] at ih
      simp at ih
      omega
theorem ord_len {xs : List Str} (h : ¬ (ordS xs).length < xs.length) : xs.Nodup := by
  have key : ∀ (xs as : List Str), as.Nodup → ¬ (xs.foldl (fun a x => if x ∈ a then a else a ++ [x]) as).length < as.length + xs.length → (as ++ xs).Nodup := by
    intro xs
    induction xs with
    | nil => intro as h _; simpa using h
    | cons x xs ih =>
      intro as hn h
      rw [List.foldl_cons, List.length_cons] at h
      by_cases hx : x ∈ as
      · rw [if_pos hx] at h
        have := ord_le xs as
        omega
      · rw [if_neg hx] at h
        have := ih (as ++ [x]) (List.nodup_append.mpr ⟨hn, by simp, fun a ha b hb e => hx (by rw [← List.mem_singleton.mp hb, ← e]; exact ha)⟩) (by rw [List.length_append]; simp; omega)
        simpa using this
  have := key xs [] List.nodup_nil (by simpa [ordS] using h)
  simpa using this
theorem ord_mem {x : Str} {xs : List Str} (h : x ∈ xs) : x ∈ ordS xs := by
  have key : ∀ (xs as : List Str), x ∈ as ∨ x ∈ xs → x ∈ xs.foldl (fun a x => if x ∈ a then a else a ++ [x]) as := by
    intro xs
    induction xs with
    | nil => intro as h; simpa using h
    | cons y ys ih =>
      intro as h
      rw [List.foldl_cons]
      refine ih _ ?_
      rcases h with h | h
      · left
        by_cases q : y ∈ as
        · rw [if_pos q]; exact h
        · rw [if_neg q]; exact List.mem_append_left _ h
      · rcases List.mem_cons.mp h with h | h
        · subst h
          left
          by_cases q : x ∈ as
          · rw [if_pos q]; exact q
          · rw [if_neg q]; simp
        · exact .inr h
  exact key xs [] (.inr h)
def dGram (K : PySem.W.Frag) (cB : Addr) (sdO sdF sdK sdS sdB : SpD) : DS := sSeq (sAsg (dLc (iAny (dVar 2)) (.tp [5, 6, 7]) (dYes) (dTup (dCons (dVar 5) (dCons (dVar 6) (dCons (dCB rTuple (dCons (dVar 7) (dNil))) (dNil))))) [5, 6, 7]) (gNm 4)) (sSeq (sAsg (dCall sdO (dCons (dLc (iAny (dVar 4)) (.nm 9) (dYes) (dOp rIx (dVar 9) (dC (.int 1))) [9]) (dNil))) (gNm 8)) (sSeq (sDrop (dCall sdF (dCons (dVar 1) (dNil)))) (sSeq (sDrop (dCall sdK (dCons (dVar 4) (dCons (dVar 8) (dNil))))) (sSeq (sIf (dAnd (dB (dOp rIsn (dVar 3) (dC .non))) (dB (dOp rNin (dVar 3) (dVar 8)))) (sRaise cB sdB (dCons (dC (.str ("root" : Str))) (dNil))) (sNext)) (sSeq (sAsg (dZK K (dCall sdS (dCons (dVar 4) (dNil)))) (gNm 10)) (sSeq (sIf (dB (dOp rLt (dCB rLen (dCons (dVar 10) (dNil))) (dCB rLen (dCons (dVar 4) (dNil))))) (sRaise cB sdB (dCons (dC (.str ("finite" : Str))) (dNil))) (sNext)) (sSeq (sFldD K (dVar 0) (dCB rTuple (dCons (dVar 1) (dNil))) "fields") (sSeq (sFldD K (dVar 0) (dCB rTuple (dCons (dLc (iAny (dVar 4)) (.nm 9) (dYes) (dOp rIx (dVar 9) (dC (.int 0))) [9]) (dNil))) "kinds") (sSeq (sFldD K (dVar 0) (dCB rTuple (dCons (dVar 8) (dNil))) "families") (sSeq (sFldD K (dVar 0) (dIf (dB (dOp rIs (dVar 3) (dC .non))) (dOp rIx (dVar 8) (dC (.int 0))) (dVar 3)) "root") (sSeq (sFldD K (dVar 0) (dDe (iAny (dVar 4)) (.nm 9) (dYes) (dOp rIx (dVar 9) (dC (.int 0))) (dOp rIx (dVar 9) (dC (.int 1))) [9]) "_families") (sSeq (sFldD K (dVar 0) (dDe (iAny (dVar 4)) (.nm 9) (dYes) (dOp rIx (dVar 9) (dC (.int 0))) (dOp rIx (dVar 9) (dC (.int 2))) [9]) "_children") (sFldD K (dVar 0) (dZK K (dVar 10)) "_sizes")))))))))))))
def rowsD (ps : List (Kd × D)) : List D := ps.map fun p => .tup [.str p.1.n, .str p.1.f, p.2]
def rootD : Option Str → D
  | none => .non
  | some s => .str s
def famsOf (rs : List Kd) : List Str := ordS (rs.map (·.f))
/-- the fields of a made grammar -/
def gramD (xs : List Str) (rs : List Kd) (root : Option Str) (S : Tab) : List (Str × D) :=
  [("fields", .tup (xs.map .str)), ("kinds", .tup (rs.map fun r => .str r.n)), ("families", .tup ((famsOf rs).map .str)), ("root", .str (root.getD ((famsOf rs).headD ""))),
   ("_families", .dic (rs.foldl (fun a r => putD a (.inr r.n) (.str r.f)) [])), ("_children", .dic (rs.foldl (fun a r => putD a (.inr r.n) (.tup (r.ch.map .str))) [])), ("_sizes", .dic (emb S))]
def fieldsErr (xs : List Str) : Option (Bool × Str) := if 6 < xs.length then some (false, "fields") else if (ordS xs).length < xs.length then some (true, "fields") else none
def rootBad (rs : List Kd) : Option Str → Bool
  | none => false
  | some s => decide (s ∉ famsOf rs)
def spGram (cG cL cB : Addr) : SpD := fun ds M Q E => ∃ (q : Addr) (a b : D) (root : Option Str) (xs : List Str) (ps : List (Kd × D)), ds = [.ptr q, a, b, rootD root] ∧ (q, MO.obj cG []) ∈ M ∧ Nd M ∧ IsS M a (xs.map .str) ∧ xs.length ≤ 1000 ∧ IsS M b (rowsD ps) ∧ ps.length ≤ 1000 ∧ (∀ p ∈ ps, IsS M p.2 (p.1.ch.map .str)) ∧
  Out E cL cB M (Out E cL cB M (if rootBad (ps.map (·.1)) root = true then Errs E cB "part" "root" M else
    ∀ (S : Tab) M', Nd M' → (∃ L, Szs (ps.map (·.1)) S L ∧ ∀ r ∈ ps.map (·.1), Settled S L r) →
      (S.length < ps.length → Fr [] M M' → Errs E cB "part" "finite" M') ∧ (¬ S.length < ps.length → (q, MO.obj cG (gramD xs (ps.map (·.1)) root S)) ∈ M' → Fr [q] M M' → Q .non M')) (kindsErr (ps.map (·.1)) (famsOf (ps.map (·.1))))) (fieldsErr xs)
structure GrOk (K : PySem.W.Frag) (C : Addr) : Prop where
  f1 : FldOk K C "fields"
  f2 : FldOk K C "kinds"
  f3 : FldOk K C "families"
  f4 : FldOk K C "root"
  f5 : FldOk K C "_families"
  f6 : FldOk K C "_children"
  f7 : FldOk K C "_sizes"
theorem pureGram {cG cL cB : Addr} {y0 y1 y2 y3 y4 y5 y6 y7 y8 y9 y10 : Str} (T : GrOk K cG) (h : spGram cG cL cB ds M Qd Ed) :
    dGram K cB spOrder (spChkF cL cB) (spChkK cL cB) spLeast (spErr cB "part") (fun _ M' => Qd .non M') Qd (fun _ _ => False) (fun _ _ => False) (fun C dd _ M' => Ed C dd M') (start0 [y0, y1, y2, y3, y4, y5, y6, y7, y8, y9, y10] ds) M := by
  obtain ⟨q, a, b, root, xs, ps, rfl, hq, nd, ha, hxs, hb, hps, hch, out⟩ := h
  obtain ⟨st, hi, hst⟩ := isS_I hb
  unfold dGram
  walk_at "dl"
  refine ⟨_, st, hi, lt_line (by unfold rowsD; rw [List.length_map]; omega), lc_mapT (fun p : Kd × D => .tup [.str p.1.n, .str p.1.f, p.2]) (fun p => kdD p.1) (fun p => [.str p.1.n, .str p.1.f, p.2]) hst (fun p hp => ⟨rfl, rfl, fun P1 h1 => ?_⟩) (.inl ?_)⟩
  · walk_at "dl"
    refine tup_of (hch p hp) ?_
    walk_at "dl"
    exact ⟨len_le_line (n := 3), h1⟩
  have er : (ps.map fun p => kdD p.1) = (ps.map (·.1)).map kdD := by rw [List.map_map]; rfl
  rw [er]
  have hrl : (ps.map (·.1)).length = ps.length := List.length_map ..
  rw [← hrl] at hps out
  generalize hrs : ps.map (·.1) = rs at hps out hrl
  have irow : ∀ M', IsI M' (.lst (rs.map kdD)) (rs.map kdD) fun _ => True := fun _ => .lst (.lst _)
  have hsz : (rs.map kdD).length < sizeLine := lt_line (by rw [List.length_map]; omega)
  walk_at "dl"
  refine ⟨_, _, irow _, hsz, lc_map kdD (fun r => .str r.f) trivial (fun r _ P1 h1 => ?_) (.inl ?_)⟩
  · walk_at "dl"
    exact ixt1 h1
  walk_at "dl"
  refine ⟨_, rs.map (·.f), rfl, by rw [List.map_map]; exact .lst _, by rw [List.length_map]; exact hps, ?_⟩
  walk_at "dl"
  refine ⟨a, xs, rfl, ha, nd, hxs, fun h6 => ?_, fun h6 ho => ?_, fun h6 ho => ?_⟩
  · rw [show fieldsErr xs = (some (false, ("fields" : Str)) : Option (Bool × Str)) from if_pos h6] at out
    exact out
  · rw [show fieldsErr xs = (some (true, ("fields" : Str)) : Option (Bool × Str)) from (if_neg (show ¬ 6 < xs.length by omega)).trans (if_pos ho)] at out
    exact out
  rw [show fieldsErr xs = none from (if_neg (show ¬ 6 < xs.length by omega)).trans (if_neg ho)] at out
  walk_at "dl"
  refine ⟨.lst (rs.map kdD), .lst ((famsOf rs).map .str), rs, famsOf rs, rfl, .lst _, .lst _, nd, hps, ?_⟩
  cases ek : kindsErr rs (famsOf rs) with
  | some e =>
    have out2 : Out Ed cL cB M _ (kindsErr rs (famsOf rs)) := out
    rw [ek] at out2
    obtain ⟨bb, s⟩ := e
    cases bb <;> exact out2
  | none =>
    have out2 : Out Ed cL cB M _ (kindsErr rs (famsOf rs)) := out
    rw [ek] at out2
    have ek' := ek
    unfold kindsErr at ek'
    split at ek'
    · cases ek'
    rename_i e1
    split at ek'
    · cases ek'
    rename_i e2
    split at ek'
    · cases ek'
    rename_i e3
    have h0 : ¬ rs.length = 0 := fun z => e1 (.inl z)
    have hnd : (rs.map (·.n)).Nodup := ord_len (by rw [List.length_map]; exact fun z => e1 (.inr z))
    have h3 : ∀ r ∈ rs, r.ch.length ≤ 3 := fun r hr => Nat.le_of_not_lt fun z => e3 (List.any_eq_true.mpr ⟨r, hr, decide_eq_true z⟩)
    have out3 : if rootBad rs root = true then Errs Ed cB "part" "root" M else _ := out2
    unfold Out
    -- the root
    walk_at "dl"
    have hroot : ∀ (ρ : Rho) (k : Bool → Mem → Prop) (E : XD), at_ ρ 3 = some (rootD root) → at_ ρ 8 = some (.lst ((famsOf rs).map .str)) → k (rootBad rs root) M → if (isN (rootD root) != true) = true then dB (dOp rNin (dVar 3) (dVar 8)) ρ M k E else k false M := by
      intro ρ k E h3 h8 hk
      cases root with
      | none => exact g_iff' rfl hk
      | some s =>
        refine g_ift rfl ?_
        refine g_B (g_op (g_var h3 (g_var h8 (nin_strs (.lst _) ?_))))
        walk_at "dl"
        rw [show (decide (s ∈ famsOf rs) != true) = decide (s ∉ famsOf rs) by by_cases z : s ∈ famsOf rs <;> simp [z]]
        exact hk
    refine hroot _ _ _ rfl rfl ?_
    cases erb : rootBad rs root with
    | true =>
      rw [erb, if_pos rfl] at out3
      refine g_ift rfl ?_
      refine g_raise ?_ fun Q Q' hQ z => hQ _ _ z
      walk_at "dl"
      exact ⟨_, rfl, nd, out3⟩
    | false =>
    rw [erb, if_neg Bool.false_ne_true] at out3
    refine g_iff' rfl ?_
    have h8 : rs.length ≤ 8 := Nat.le_of_not_lt e2
    walk_at "dl"
    refine ⟨_, rs, rfl, .lst _, nd, h8, hnd, h3, fun S p M1 hp hm nd1 f1 hS => ?_⟩
    -- the sizes, frozen
    obtain ⟨M2, U2⟩ := del_ex nd1 hm
    refine ⟨_, M2, .one U2.up rfl, ?_⟩
    have f2 : Fr [] M M2 := fun a m ha hm' => U2.fr _ _ (not_mem1 fun e => hp m (by rw [← e]; exact hm')) (f1 _ _ ha hm')
    obtain ⟨o1, o2⟩ := out3 S M2 U2.nd hS
    have hq2 := f2 _ _ (by simp) hq
    walk_at "dl"
    refine LenC.dic (.dic _) ?_
    walk_at "dl"
    refine isS_len (.lst _) ?_
    walk_at "dl"
    have ls : (emb S).length = S.length := List.length_map ..
    by_cases hfin : S.length < rs.length
    · refine g_ift (by rw [ls, List.length_map]; simp; omega) ?_
      refine g_raise ?_ fun Q Q' hQ z => hQ _ _ z
      walk_at "dl"
      exact ⟨_, rfl, U2.nd, o1 hfin f2⟩
    refine g_iff' (by rw [ls, List.length_map]; simp; omega) ?_
    -- the fields
    walk_at "dl"
    refine tup_of (isS_fr ha f2 (by simp)) ?_
    walk_at "dl"
    refine fld_new U2.nd hq2 T.f1 .nil (by simp) fun M3 U3 => ?_
    walk_at "dl"
    refine ⟨_, _, irow _, hsz, lc_map kdD (fun r => .str r.n) trivial (fun r _ P1 h1 => ?_) (.inl ?_)⟩
    · walk_at "dl"
      exact ixt0 h1
    walk_at "dl"
    refine tup_of (.lst _) ?_
    walk_at "dl"
    refine fld_new U3.nd U3.at_ T.f2 (by walk_at "nof") (by simp) fun M4 U4 => ?_
    walk_at "dl"
    refine tup_of (.lst _) ?_
    walk_at "dl"
    refine fld_new U4.nd U4.at_ T.f3 (by walk_at "nof") (by simp) fun M5 U5 => ?_
    walk_at "dl"
    have hrt : ∀ (ρ : Rho) (k : D → Mem → Prop) (E : XD), at_ ρ 3 = some (rootD root) → at_ ρ 8 = some (.lst ((famsOf rs).map .str)) → k (.str (root.getD ((famsOf rs).headD ""))) M5 → if (isN (rootD root) != false) = true then dOp rIx (dVar 8) (dC (.int 0)) ρ M5 k E else dVar 3 ρ M5 k E := by
      intro ρ k E h3 h8 hk
      cases root with
      | some s => exact g_iff' rfl (g_var h3 hk)
      | none =>
        refine g_ift rfl (g_op (g_var h8 (g_c ?_)))
        have hpos : 0 < (famsOf rs).length := by
          cases rs with
          | nil => exact absurd rfl h0
          | cons r rs =>
            have : r.f ∈ famsOf (r :: rs) := ord_mem (by simp)
            exact List.length_pos_of_mem this
        cases ef : famsOf rs with
        | nil => rw [ef] at hpos; cases hpos
        | cons f fs =>
          rw [ef] at hk
          exact ixq_lst (e := .str f) atI0 hk
    refine hrt _ _ _ rfl rfl ?_
    walk_at "dl"
    refine fld_new U5.nd U5.at_ T.f4 (by walk_at "nof") (by simp) fun M6 U6 => ?_
    walk_at "dl"
    refine .inl ?_
    walk_at "dl"
    refine ⟨_, _, irow _, hsz, dc_map kdD (fun r => .inr r.n) (fun r => .str r.f) trivial (fun _ _ => ⟨fun P1 h1 => ?_, fun P1 h1 => ?_⟩) (.inl ?_)⟩
    · walk_at "dl"
      exact ixt0 h1
    · walk_at "dl"
      exact ixt1 h1
    walk_at "dl"
    refine fld_new U6.nd U6.at_ T.f5 (by walk_at "nof") (by simp) fun M7 U7 => ?_
    walk_at "dl"
    refine .inl ?_
    walk_at "dl"
    refine ⟨_, _, irow _, hsz, dc_map kdD (fun r => .inr r.n) (fun r => .tup (r.ch.map .str)) trivial (fun _ _ => ⟨fun P1 h1 => ?_, fun P1 h1 => ?_⟩) (.inl ?_)⟩
    · walk_at "dl"
      exact ixt0 h1
    · walk_at "dl"
      exact ixt2 h1
    walk_at "dl"
    refine fld_new U7.nd U7.at_ T.f6 (by walk_at "nof") (by simp) fun M8 U8 => ?_
    walk_at "dl"
    refine ⟨_, _, .refl, ?_⟩
    walk_at "dl"
    refine fld_new U8.nd U8.at_ T.f7 (by walk_at "nof") (by simp) fun M9 U9 => ?_
    obtain ⟨_, o2⟩ := out3 S M9 U9.nd hS
    refine o2 hfin ?_ (((((((f2.mono (by simp)).trans U3.fr).trans U4.fr).trans U5.fr).trans U6.fr).trans U7.fr).trans (U8.fr.trans U9.fr))
    exact U9.at_
end
end DL
namespace DL
variable [Wd]
open PySem L2 PySem.Spec PyProof.Rows
/-! ### more steps -/
section
variable {ρ : Rho} {M : Mem} {E : XD} {K : PySem.W.Frag}
theorem g_try {body : DS} {hds : List HdD} {nx : NX} {rt : D → Mem → Prop} {bk ct : NX} {ex : XR} (q : body nx rt bk ct (hGo K nx rt bk ct ex hds) ρ M) : sTry K body hds nx rt bk ct ex ρ M := q
theorem g_prop {C : Addr} {sd : SpD} {de : DE} {Q : D → Mem → Prop} (q : de ρ M (fun d M1 => ∃ es, IsO M1 d C es ∧ sd [d] M1 Q noE) E) : dProp C sd de ρ M Q E := q
theorem g_propS {C : Addr} {sd : SpD} {do_ de : DE} {nx : NX} {rt : D → Mem → Prop} {bk ct : NX} {ex : Addr → Addr → Rho → Mem → Prop} (q : de ρ M (fun d M1 => do_ ρ M1 (fun x M2 => ∃ es, IsO M2 x C es ∧ sd [x, d] M2 (fun _ M3 => nx ρ M3) (fun C dd M' => ex C dd ρ M')) (fun C dd M' => ex C dd ρ M')) (fun C dd M' => ex C dd ρ M')) : sPropS C sd do_ de nx rt bk ct ex ρ M := q
theorem g_star {de : DE} {dA : DA} {Q : List D → Mem → Prop} (q : de ρ M (fun d M1 => ∃ xs, IsS M1 d xs ∧ dA ρ M1 (fun ds M2 => Q (xs ++ ds) M2) E) E) : dStar de dA ρ M Q E := q
theorem g_xf {a C dd : Addr} {n : Str} {de : DE} {Q : D → Mem → Prop} (q : de ρ M (fun d M' => ∃ es d', d = .ptr a ∧ XfC K C ∧ PySem.W.findIn K (.ref C) n = some none ∧ (dd, MO.xd es) ∈ M' ∧ Has es n d' ∧ Q d' M') E) : dXf K a C dd n de ρ M Q E := q
/-- one address, one thing -/
theorem nd_at {a : Addr} {m m' : MO} (nd : Nd M) (h : (a, m) ∈ M) (h' : (a, m') ∈ M) : m = m' := by
  unfold Nd at nd
  induction M with
  | nil => cases h
  | cons p r ih =>
    rw [List.map_cons] at nd
    have hn := List.nodup_cons.mp nd
    rcases List.mem_cons.mp h with z | z
    · rcases List.mem_cons.mp h' with w | w
      · rw [← w] at z; cases z; rfl
      · subst z; exact absurd (List.mem_map.mpr ⟨_, w, rfl⟩) hn.1
    · rcases List.mem_cons.mp h' with w | w
      · subst w; exact absurd (List.mem_map.mpr ⟨_, z, rfl⟩) hn.1
      · exact ih hn.2 z w
theorem no_lst {q C : Addr} {es : List (Str × D)} (nd : Nd M) (h : (q, MO.obj C es) ∈ M) : ∀ p ∈ [q], ∀ ys, (p, MO.lst ys) ∉ M := by
  intro p hp ys hm
  rw [List.mem_singleton.mp hp] at hm
  cases nd_at nd h hm
theorem atI3 {α : Type} {x y z w : α} {xs : List α} : atI (x :: y :: z :: w :: xs) 3 = some w := atI_nat' (j := 3) rfl rfl
end
end DL
local macro_rules | `(tactic| walk_at "dl") => `(tactic| repeat (first | (with_reducible first | refine DL.g_seq ?_ | refine DL.g_asg ?_ | refine DL.g_sif ?_ | refine DL.g_ret ?_ | refine DL.g_retN ?_ | refine DL.g_drop ?_ | refine DL.g_next ?_ | refine DL.g_cont ?_ | refine DL.g_brk ?_ | refine DL.g_sfor ?_ | refine DL.g_op ?_ | refine DL.g_c ?_ | refine DL.g_nil ?_ | refine DL.g_cons ?_ | refine DL.g_cb ?_ | refine DL.g_call ?_ | refine DL.g_tup ?_ | refine DL.g_lst ?_ | refine DL.g_B ?_ | refine DL.g_not ?_ | refine DL.g_and ?_ | refine DL.g_or ?_ | refine DL.g_if ?_ | refine DL.g_bl ?_ | refine DL.g_in ?_ | refine DL.g_nm ?_ | refine DL.g_fld ?_ | refine DL.IntB.int ?_ | refine DL.AddR.int ?_ | refine DL.SubR.int ?_ | refine DL.EqR.int ?_ | refine DL.EqR.str ?_ | refine DL.EqR.bl ?_ | refine DL.IntC.int ?_ | refine DL.IsR.non ?_ | refine DL.g_lc ?_ | refine DL.g_lc2 ?_ | refine DL.g_dc ?_ | refine DL.g_iany ?_ | refine DL.g_iitm ?_ | refine DL.g_irg1 ?_ | refine DL.g_sl ?_ | refine DL.g_onone ?_ | refine DL.g_osome ?_ | refine DL.g_con ?_ | refine DL.g_bm ?_ | refine DL.g_andV ?_ | refine DL.g_orV ?_ | refine DL.g_notV ?_ | refine DL.g_make ?_ | refine DL.g_meth ?_ | refine DL.g_listint ?_ | refine DL.g_fldS ?_ | refine DL.g_gsub ?_ | refine DL.g_zK ?_ | refine DL.g_try ?_ | refine DL.g_prop ?_ | refine DL.g_propS ?_ | refine DL.g_star ?_ | refine DL.g_xf ?_) | (refine DL.g_var (by first | assumption | rfl) ?_)))
namespace DL
variable [Wd]
open PySem L2 PySem.Spec PyProof.Rows
end DL
namespace DL
variable [Wd]
open PySem L2 PySem.Spec PyProof.Rows
/-! ### keywords behind the positional values -/
abbrev kwF : List Value → List Value → List Value := fun us ws => us ++ ws
abbrev kwV : List V → List V → List V := fun vs zs => vs ++ zs
abbrev kwD : List D → List D → List D := fun ds ez => ds ++ ez
theorem kwD_ok {K : PySem.W.Frag} : ∀ (F : L2.Hp) (vs zs : List V) (ds ez : List D), Reps K F vs ds → Reps K F zs ez → Reps K F (kwV vs zs) (kwD ds ez) := fun _ _ _ _ _ r1 r2 => r1.append r2
end DL
namespace DL
variable [Wd]
open PySem L2 PySem.Spec PyProof.Rows
/-! ### a made grammar and its methods -/
section
variable {M : Mem} {K : PySem.W.Frag} {ds : List D} {Qd : D → Mem → Prop} {Ed : XD}
theorem fold_put (v : Kd → D) {rs : List Kd} (h : (rs.map (·.n)).Nodup) : rs.foldl (fun a r => putD a (Sum.inr r.n : Key) (v r)) [] = rs.map fun r => (Sum.inr r.n, v r) := by
  have key : ∀ (rs done : List Kd), ((done ++ rs).map (·.n)).Nodup → rs.foldl (fun a r => putD a (Sum.inr r.n : Key) (v r)) (done.map fun r => (Sum.inr r.n, v r)) = (done ++ rs).map fun r => (Sum.inr r.n, v r) := by
    intro rs
    induction rs with
    | nil => intro done _; simp
    | cons r rs ih =>
      intro done h
      rw [List.foldl_cons, put_new_key]
      · have := ih (done ++ [r]) (by simpa using h)
        rw [List.map_append] at this
        simpa using this
      · intro e he
        obtain ⟨q, hq, rfl⟩ := List.mem_map.mp he
        intro z
        rw [List.map_append, List.map_cons] at h
        exact (List.nodup_append.mp h).2.2 q.n (List.mem_map.mpr ⟨q, hq, rfl⟩) r.n List.mem_cons_self (Sum.inr.inj z)
  exact key rs [] h
theorem look_rows (v : Kd → D) : ∀ {rs : List Kd}, (rs.map (·.n)).Nodup → ∀ {r : Kd}, r ∈ rs → lookD (rs.map fun r => ((Sum.inr r.n : Key), v r)) (.inr r.n) = some (v r)
  | q :: rs, h, r, hr => by
    rw [List.map_cons, List.nodup_cons] at h
    unfold lookD
    rw [List.map_cons, List.find?_cons]
    rcases List.mem_cons.mp hr with e | e
    · subst e; simp
    · have : ¬ (Sum.inr q.n : Key) = Sum.inr r.n := fun z => h.1 (by rw [Sum.inr.inj z]; exact List.mem_map.mpr ⟨r, e, rfl⟩)
      simp only [this, decide_false]
      exact look_rows v h.2 e
/-- a grammar of these fields and rows, made -/
structure Gm (M : Mem) (g : D) (cG : Addr) (xs : List Str) (rs : List Kd) (root : Option Str) (S : Tab) : Prop where
  at_ : IsO M g cG (gramD xs rs root S)
  nd : (rs.map (·.n)).Nodup
  l8 : rs.length ≤ 8
  sz : ∃ L, Szs rs S L ∧ ∀ r ∈ rs, Settled S L r
  full : ¬ S.length < rs.length
theorem Gm.size {g : D} {cG : Addr} {xs : List Str} {rs : List Kd} {root : Option Str} {S : Tab} (G : Gm M g cG xs rs root S) {r : Kd} (hr : r ∈ rs) : ∃ n, getN S r.n = some n ∧ Fewest rs r n := by
  obtain ⟨L, z, h⟩ := G.sz
  have hk : r.n ∈ S.map (·.1) := by
    apply Classical.byContradiction
    intro hn
    have : (r.n :: S.map (·.1)).length ≤ (rs.map (·.n)).length := nodup_le (List.nodup_cons.mpr ⟨hn, z.kS⟩) fun x hx => by
      rcases List.mem_cons.mp hx with e | e
      · rw [e]; exact List.mem_map.mpr ⟨r, hr, rfl⟩
      · obtain ⟨n, en⟩ := get_key e
        obtain ⟨r', hr', e', _⟩ := z.sS _ n en
        rw [← e']; exact List.mem_map.mpr ⟨r', hr', rfl⟩
    rw [List.length_cons, List.length_map, List.length_map] at this
    exact G.full (by omega)
  obtain ⟨n, en⟩ := get_key hk
  exact ⟨n, en, (sizes_least G.nd z h hr).1 n en⟩
theorem Gm.mono {M' : Mem} {g : D} {cG : Addr} {xs : List Str} {rs : List Kd} {root : Option Str} {S : Tab} (G : Gm M g cG xs rs root S) {ps : List Addr} (f : Fr ps M M') (h : ∀ p, g = .ptr p → p ∉ ps) : Gm M' g cG xs rs root S := by
  refine ⟨?_, G.nd, G.l8, G.sz, G.full⟩
  have a := G.at_
  cases a with
  | obj => exact .obj _ _
  | ptr hm => exact .ptr (f _ _ (h _ rfl) hm)
/-- a finite grammar: every kind is the root of some tree -/
theorem full_of {rs : List Kd} {S L : Tab} (nd : (rs.map (·.n)).Nodup) (z : Szs rs S L) (h : ∀ r ∈ rs, Settled S L r) (ht : ∀ r ∈ rs, ∃ m, Trs rs r.ch m) : ¬ S.length < rs.length := by
  have : (rs.map (·.n)).length ≤ (S.map (·.1)).length := nodup_le nd fun x hx => by
    obtain ⟨r, hr, rfl⟩ := List.mem_map.mp hx
    obtain ⟨n, en⟩ := (sizes_least nd z h hr).2 (ht r hr)
    apply Classical.byContradiction
    intro hn
    unfold getN at en
    cases e : S.find? fun p => decide (p.1 = r.n) with
    | none => rw [e] at en; cases en
    | some p =>
      have h1 := List.mem_of_find?_eq_some e
      have h2 := List.find?_some e
      exact hn (List.mem_map.mpr ⟨p, h1, by simpa using h2⟩)
  rw [List.length_map, List.length_map] at this
  omega
section
variable {cG cU : Addr} {g : D} {xs : List Str} {rs : List Kd} {root : Option Str} {S : Tab} {x : Str}
theorem has_fields : Has (gramD xs rs root S) "fields" (.tup (xs.map .str)) := .head
theorem has_kinds : Has (gramD xs rs root S) "kinds" (.tup (rs.map fun r => .str r.n)) := .tail (by decide) .head
theorem has_families : Has (gramD xs rs root S) "families" (.tup ((famsOf rs).map .str)) := .tail (by decide) (.tail (by decide) .head)
theorem has_root : Has (gramD xs rs root S) "root" (.str (root.getD ((famsOf rs).headD ""))) := .tail (by decide) (.tail (by decide) (.tail (by decide) .head))
theorem has_fam (nd : (rs.map (·.n)).Nodup) : Has (gramD xs rs root S) "_families" (.dic (rs.map fun r => (.inr r.n, .str r.f))) := by
  unfold gramD
  rw [fold_put (fun r => .str r.f) nd, fold_put (fun r => .tup (r.ch.map .str)) nd]
  exact .tail (by decide) (.tail (by decide) (.tail (by decide) (.tail (by decide) .head)))
theorem has_ch (nd : (rs.map (·.n)).Nodup) : Has (gramD xs rs root S) "_children" (.dic (rs.map fun r => (.inr r.n, .tup (r.ch.map .str)))) := by
  unfold gramD
  rw [fold_put (fun r => .str r.f) nd, fold_put (fun r => .tup (r.ch.map .str)) nd]
  exact .tail (by decide) (.tail (by decide) (.tail (by decide) (.tail (by decide) (.tail (by decide) .head))))
theorem has_sz : Has (gramD xs rs root S) "_sizes" (.dic (emb S)) := .tail (by decide) (.tail (by decide) (.tail (by decide) (.tail (by decide) (.tail (by decide) (.tail (by decide) .head)))))
theorem no_meth {m : Str} (h : m ∉ (["fields", "kinds", "families", "root", "_families", "_children", "_sizes"] : List Str)) : NoF m (gramD xs rs root S) := by
  simp only [List.mem_cons, not_or] at h
  obtain ⟨h1, h2, h3, h4, h5, h6, h7, _⟩ := h
  exact .cons (Ne.symm h1) (.cons (Ne.symm h2) (.cons (Ne.symm h3) (.cons (Ne.symm h4) (.cons (Ne.symm h5) (.cons (Ne.symm h6) (.cons (Ne.symm h7) .nil))))))
def namesOf (rs : List Kd) : List Str := rs.map (·.n)
theorem names_str (rs : List Kd) : (rs.map fun r => D.str r.n) = (namesOf rs).map .str := by unfold namesOf; rw [List.map_map]; rfl
/-- _check_kind -/
def dChk1 (K : PySem.W.Frag) (cU : Addr) (sdU : SpD) : DS := sIf (dB (dOp rNin (dVar 1) (dFld K (dVar 0) "kinds"))) (sRaise cU sdU (dCons (dVar 1) (dNil))) (sNext)
def spChk1 (cG cU : Addr) : SpD := fun ds M Q E => ∃ g xs rs root S x, ds = [g, .str x] ∧ IsO M g cG (gramD xs rs root S) ∧ Nd M ∧ (x ∉ namesOf rs → Errs E cU "name" x M) ∧ (x ∈ namesOf rs → Q .non M)
theorem pureChk1 {y0 y1 : Str} (T : GrOk K cG) (h : spChk1 cG cU ds M Qd Ed) : dChk1 K cU (spErr cU "name") (fun _ M' => Qd .non M') Qd (fun _ _ => False) (fun _ _ => False) (fun C dd _ M' => Ed C dd M') (start0 [y0, y1] ds) M := by
  obtain ⟨g, xs, rs, root, S, x, rfl, hg, nd, k1, k2⟩ := h
  unfold dChk1
  walk_at "dl"
  refine ⟨_, _, _, hg, T.f2, has_kinds, ?_⟩
  rw [names_str]
  refine nin_strs (.tup _) ?_
  walk_at "dl"
  by_cases hx : x ∈ namesOf rs
  · refine g_iff' (by simp [hx]) ?_
    walk_at "dl"
    exact k2 hx
  · refine g_ift (by simp [hx]) ?_
    refine g_raise ?_ fun Q Q' hQ ⟨d, e, z⟩ => ⟨d, e, hQ _ _ z⟩
    walk_at "dl"
    exact ⟨_, rfl, nd, k1 hx⟩
/-- family_of, children_of, kind_size: what stands for the kind in a dict of the grammar -/
def dKindQ (K : PySem.W.Frag) (cG : Addr) (sdC : SpD) (f : Str) : DS := sSeq (sDrop (dMeth cG "_check_kind" sdC (dVar 0) (dCons (dVar 1) (dNil)))) (sRet (dOp rIx (dFld K (dVar 0) f) (dVar 1)))
def spKindQ (cG cU : Addr) (v : Tab → Kd → D → Prop) : SpD := fun ds M Q E => ∃ g xs rs root S x, ds = [g, .str x] ∧ Gm M g cG xs rs root S ∧ Nd M ∧ (x ∉ namesOf rs → Errs E cU "name" x M) ∧ ∀ r ∈ rs, r.n = x → ∀ d, v S r d → Q d M
theorem pureKindQ {y0 y1 f : Str} {v : Tab → Kd → D → Prop} (T : GrOk K cG) (fo : FldOk K cG f)
    (hv : ∀ (xs : List Str) (rs : List Kd) (root : Option Str) (S : Tab), (rs.map (·.n)).Nodup → (∀ r ∈ rs, ∃ n, getN S r.n = some n) → ∃ es, Has (gramD xs rs root S) f (.dic es) ∧ ∀ r ∈ rs, ∃ d, lookD es (.inr r.n) = some d ∧ v S r d)
    (h : spKindQ cG cU v ds M Qd Ed) : dKindQ K cG (spChk1 cG cU) f (fun _ M' => Qd .non M') Qd (fun _ _ => False) (fun _ _ => False) (fun C dd _ M' => Ed C dd M') (start0 [y0, y1] ds) M := by
  obtain ⟨g, xs, rs, root, S, x, rfl, G, nd, k1, k2⟩ := h
  unfold dKindQ
  walk_at "dl"
  refine ⟨_, G.at_, no_meth (by decide +kernel), ?_⟩
  walk_at "dl"
  refine ⟨g, xs, rs, root, S, x, rfl, G.at_, nd, k1, fun hx => ?_⟩
  obtain ⟨r, hr, rfl⟩ := List.mem_map.mp hx
  obtain ⟨es, h1, h2⟩ := hv xs rs root S G.nd fun r hr => (G.size hr).imp fun n h => h.1
  obtain ⟨d, h3, h4⟩ := h2 r hr
  walk_at "dl"
  refine ⟨_, _, _, G.at_, fo, h1, ?_⟩
  walk_at "dl"
  exact .dic (k := .inr r.n) (.dic es) h3 (k2 r hr rfl d h4)
abbrev vFam : Tab → Kd → D → Prop := fun _ r d => d = .str r.f
abbrev vCh : Tab → Kd → D → Prop := fun _ r d => d = .tup (r.ch.map .str)
abbrev vSz : Tab → Kd → D → Prop := fun S r d => ∃ n, getN S r.n = some n ∧ d = .int (n : Nat)
theorem hv_fam (xs : List Str) (rs : List Kd) (root : Option Str) (S : Tab) (nd : (rs.map (·.n)).Nodup) (_ : ∀ r ∈ rs, ∃ n, getN S r.n = some n) : ∃ es, Has (gramD xs rs root S) "_families" (.dic es) ∧ ∀ r ∈ rs, ∃ d, lookD es (.inr r.n) = some d ∧ vFam S r d := ⟨_, has_fam nd, fun r hr => ⟨_, look_rows _ nd hr, rfl⟩⟩
theorem hv_ch (xs : List Str) (rs : List Kd) (root : Option Str) (S : Tab) (nd : (rs.map (·.n)).Nodup) (_ : ∀ r ∈ rs, ∃ n, getN S r.n = some n) : ∃ es, Has (gramD xs rs root S) "_children" (.dic es) ∧ ∀ r ∈ rs, ∃ d, lookD es (.inr r.n) = some d ∧ vCh S r d := ⟨_, has_ch nd, fun r hr => ⟨_, look_rows _ nd hr, rfl⟩⟩
theorem hv_sz (xs : List Str) (rs : List Kd) (root : Option Str) (S : Tab) (nd : (rs.map (·.n)).Nodup) (h : ∀ r ∈ rs, ∃ n, getN S r.n = some n) : ∃ es, Has (gramD xs rs root S) "_sizes" (.dic es) ∧ ∀ r ∈ rs, ∃ d, lookD es (.inr r.n) = some d ∧ vSz S r d := ⟨_, has_sz, fun r hr => by
  obtain ⟨n, hn⟩ := h r hr
  exact ⟨_, by rw [look_emb, hn]; rfl, n, hn, rfl⟩⟩
/-- kinds_of -/
def dKindsOf (K : PySem.W.Frag) (cU : Addr) (sdU : SpD) : DS := sSeq (sIf (dB (dOp rNin (dVar 1) (dFld K (dVar 0) "families"))) (sRaise cU sdU (dCons (dVar 1) (dNil))) (sNext)) (sRet (dCB rTuple (dCons (dLc (iAny (dFld K (dVar 0) "kinds")) (.nm 2) (dB (dOp rEq (dOp rIx (dFld K (dVar 0) "_families") (dVar 2)) (dVar 1))) (dVar 2) [2]) (dNil))))
def kindsOf (rs : List Kd) (x : Str) : List Kd := rs.filter fun r => decide (r.f = x)
def spKindsOf (cG cU : Addr) : SpD := fun ds M Q E => ∃ g xs rs root S x, ds = [g, .str x] ∧ Gm M g cG xs rs root S ∧ Nd M ∧ (x ∉ famsOf rs → Errs E cU "name" x M) ∧ (x ∈ famsOf rs → Q (.tup ((kindsOf rs x).map fun r => .str r.n)) M)
theorem pureKindsOf {y0 y1 y2 : Str} (T : GrOk K cG) (h : spKindsOf cG cU ds M Qd Ed) : dKindsOf K cU (spErr cU "name") (fun _ M' => Qd .non M') Qd (fun _ _ => False) (fun _ _ => False) (fun C dd _ M' => Ed C dd M') (start0 [y0, y1, y2] ds) M := by
  obtain ⟨g, xs, rs, root, S, x, rfl, G, nd, k1, k2⟩ := h
  unfold dKindsOf
  walk_at "dl"
  refine ⟨_, _, _, G.at_, T.f3, has_families, ?_⟩
  refine nin_strs (.tup _) ?_
  walk_at "dl"
  by_cases hx : x ∈ famsOf rs
  · refine g_iff' (by simp [hx]) ?_
    walk_at "dl"
    refine ⟨_, _, _, G.at_, T.f2, has_kinds, ?_⟩
    walk_at "dl"
    refine ⟨_, _, .tup _, lt_line (by rw [List.length_map]; have := G.l8; omega), lc_if (fun r : Kd => .str r.n) (fun r => .str r.n) (fun r => decide (r.f = x)) trivial (fun r hr P1 h1 => ?_) (fun r _ _ P1 h1 => ?_) (.inl ?_)⟩
    · walk_at "dl"
      refine ⟨_, _, _, G.at_, T.f5, has_fam G.nd, ?_⟩
      walk_at "dl"
      refine .dic (k := .inr r.n) (.dic _) (look_rows _ G.nd hr) ?_
      walk_at "dl"
      rw [ne_false]
      exact h1
    · walk_at "dl"
      exact h1
    walk_at "dl"
    refine tup_of (.lst _) ?_
    exact k2 hx
  · refine g_ift (by simp [hx]) ?_
    refine g_raise ?_ fun Q Q' hQ ⟨d, e, z⟩ => ⟨d, e, hQ _ _ z⟩
    walk_at "dl"
    exact ⟨_, rfl, nd, k1 hx⟩
/-- least_size -/
def dLeastOf (K : PySem.W.Frag) (cG : Addr) (sdK : SpD) : DS := sRet (dCB rMin (dCons (dLc (iAny (dZK K (dMeth cG "kinds_of" sdK (dVar 0) (dCons (dVar 1) (dNil))))) (.nm 2) (dYes) (dCB rInt (dCons (dOp rIx (dFld K (dVar 0) "_sizes") (dVar 2)) (dNil))) [2]) (dNil)))
def spLeastOf (cG cU : Addr) : SpD := fun ds M Q E => ∃ g xs rs root S x, ds = [g, .str x] ∧ Gm M g cG xs rs root S ∧ Nd M ∧ (x ∉ famsOf rs → Errs E cU "name" x M) ∧ (x ∈ famsOf rs → ∀ n : Nat, (∃ r ∈ rs, r.f = x ∧ getN S r.n = some n) → (∀ r ∈ rs, r.f = x → ∀ m, getN S r.n = some m → n ≤ m) → Q (.int (n : Nat)) M)
theorem ord_sub {x : Str} {xs : List Str} (h : x ∈ ordS xs) : x ∈ xs := by
  have key : ∀ (xs as : List Str), x ∈ xs.foldl (fun a x => if x ∈ a then a else a ++ [x]) as → x ∈ as ∨ x ∈ xs := by
    intro xs
    induction xs with
    | nil => intro as h; exact .inl h
    | cons y ys ih =>
      intro as h
      rw [List.foldl_cons] at h
      rcases ih _ h with h | h
      · by_cases q : y ∈ as
        · rw [if_pos q] at h; exact .inl h
        · rw [if_neg q] at h
          rcases List.mem_append.mp h with h | h
          · exact .inl h
          · rw [List.mem_singleton.mp h]; exact .inr List.mem_cons_self
      · exact .inr (List.mem_cons_of_mem _ h)
  rcases key xs [] h with h | h
  · cases h
  · exact h
theorem fam_kind {rs : List Kd} {x : Str} (h : x ∈ famsOf rs) : ∃ r ∈ rs, r.f = x := by
  obtain ⟨r, hr, e⟩ := List.mem_map.mp (ord_sub h)
  exact ⟨r, hr, e⟩
theorem pureLeastOf {y0 y1 y2 : Str} (T : GrOk K cG) (h : spLeastOf cG cU ds M Qd Ed) : dLeastOf K cG (spKindsOf cG cU) (fun _ M' => Qd .non M') Qd (fun _ _ => False) (fun _ _ => False) (fun C dd _ M' => Ed C dd M') (start0 [y0, y1, y2] ds) M := by
  obtain ⟨g, xs, rs, root, S, x, rfl, G, nd, k1, k2⟩ := h
  unfold dLeastOf
  walk_at "dl"
  refine ⟨_, G.at_, no_meth (by decide +kernel), ?_⟩
  walk_at "dl"
  refine ⟨g, xs, rs, root, S, x, rfl, G, nd, k1, fun hx => ?_⟩
  refine ⟨_, _, .refl, ?_⟩
  have hk : ∀ r ∈ kindsOf rs x, r ∈ rs ∧ r.f = x := fun r hr => by simpa [kindsOf] using List.mem_filter.mp hr
  refine ⟨_, _, .tup _, lt_line (by rw [List.length_map]; have := G.l8; have := List.length_filter_le (fun r : Kd => decide (r.f = x)) rs; unfold kindsOf; omega), lc_map (fun r : Kd => .str r.n) (fun r => .int ((getN S r.n).getD 0 : Nat)) trivial (fun r hr P1 h1 => ?_) (.inl ?_)⟩
  · obtain ⟨n, hn, _⟩ := G.size (hk r hr).1
    walk_at "dl"
    refine ⟨_, _, _, G.at_, T.f7, has_sz, ?_⟩
    walk_at "dl"
    refine .dic (k := .inr r.n) (.dic _) (by rw [look_emb, hn]; rfl) ?_
    walk_at "dl"
    rw [hn] at h1
    exact h1
  walk_at "dl"
  refine .lst (ns := (kindsOf rs x).map fun r => ((getN S r.n).getD 0 : Nat)) (by rw [List.map_map]; exact .lst _) ?_ fun m hm hmin => ?_
  · obtain ⟨r, hr, e⟩ := fam_kind hx
    rw [List.length_map]
    exact List.length_pos_of_mem (List.mem_filter.mpr ⟨hr, by simpa using e⟩)
  · obtain ⟨r, hr, rfl⟩ := List.mem_map.mp hm
    obtain ⟨n, hn, _⟩ := G.size (hk r hr).1
    simp only [hn, Option.getD_some] at hmin ⊢
    refine k2 hx n ⟨r, (hk r hr).1, (hk r hr).2, hn⟩ fun r' hr' e' m' hm' => ?_
    have := hmin ((getN S r'.n).getD 0 : Nat) (List.mem_map.mpr ⟨r', List.mem_filter.mpr ⟨hr', by simpa using e'⟩, rfl⟩)
    rw [hm'] at this
    exact Int.ofNat_le.mp this
end
end
end DL
namespace DL
variable [Wd]
open PySem L2 PySem.Spec PyProof.Rows
/-! ### the kinds that a law draws -/
section
variable {M : Mem} {K : PySem.W.Frag} {ds : List D} {Qd : D → Mem → Prop} {Ed : XD}
/-- a comprehension whose values change what stands -/
theorem lc_chg {α : Type} {ρ : Rho} {st : Mem → Prop} {de : DE} {j : Nat} {Q : List D → Mem → Prop} (g : α → D) (I : List D → Mem → Prop) (hst : ∀ acc M, I acc M → st M) : ∀ {xs done : List α} {acc : List D} {M : Mem}, acc.length = done.length →
    (∀ i x acc M, (done ++ xs)[i]? = some x → acc.length = i → I acc M → ∀ P1 : D → Mem → Prop, (∀ d M', I (acc ++ [d]) M' → P1 d M') → de (put ρ j (some (g x))) M P1 noE) → (∀ acc M, acc.length = (done ++ xs).length → I acc M → Q acc M) → I acc M → goC (.nm j) dYes de st ρ Q (xs.map g) acc M
  | [], done, acc, M, hl, _, hd, h0 => ⟨hst _ _ h0, hd _ _ (by rw [List.append_nil]; exact hl) h0⟩
  | x :: xs, done, acc, M, hl, hs, hd, h0 => by
    have e : done ++ x :: xs = (done ++ [x]) ++ xs := by simp
    have key : de (put ρ j (some (g x))) M (fun d M3 => goC (.nm j) dYes de st ρ Q (xs.map g) (acc ++ [d]) M3) noE :=
      hs done.length x acc M (by simp) hl h0 _ fun d M' h' => lc_chg g I hst (done := done ++ [x]) (by simp [hl]) (by rw [← e]; exact hs) (by rw [← e]; exact hd) h'
    exact ⟨hst _ _ h0, @g_t _ _ (goC (.nm j) dYes de st ρ Q (xs.map g) acc M) key⟩
/-- a row as the laws write it -/
def kdL (r : Kd) : D := .tup [.str r.n, .str r.f, .lst (r.ch.map .str)]
theorem trs_all {rs : List Kd} : ∀ {ch : List Str}, (∀ c ∈ ch, ∃ m, Tr rs c m) → ∃ m, Trs rs ch m
  | [], _ => ⟨_, .nil⟩
  | c :: ch, h => by
    obtain ⟨a, ha⟩ := h c List.mem_cons_self
    obtain ⟨b, hb⟩ := trs_all fun z hz => h z (List.mem_cons_of_mem _ hz)
    exact ⟨_, .cons ha hb⟩
/-- kinds as _law_kinds draws them -/
structure KOk (fs : List Str) (rs : List Kd) (e w : Nat) : Prop where
  len : rs.length ≤ fs.length + e
  nd : (rs.map (·.n)).Nodup
  nm : ∀ r ∈ rs, NameOk r.n
  fam : ∀ r ∈ rs, r.f ∈ fs
  cov : ∀ f ∈ fs, ∃ r ∈ rs, r.f = f
  cl : ∀ r ∈ rs, r.ch.length ≤ w
  ch : ∀ r ∈ rs, ∀ c ∈ r.ch, c ∈ fs
  tr : ∀ f ∈ fs, ∃ m, Tr rs f m
theorem KOk.trs {fs : List Str} {rs : List Kd} {e w : Nat} (k : KOk fs rs e w) : ∀ r ∈ rs, ∃ m, Trs rs r.ch m := fun r hr => trs_all fun c hc => k.tr c (k.ch r hr c hc)
/-- before they are turned round: row i has family i, and children of the families before -/
structure KRow (fs ns : List Str) (w : Nat) (rs : List Kd) : Prop where
  nm : rs.map (·.n) = ns.take rs.length
  fam : ∀ r ∈ rs, r.f ∈ fs
  own : ∀ i r, rs[i]? = some r → i < fs.length → fs[i]? = some r.f
  cl : ∀ r ∈ rs, r.ch.length ≤ w
  ch : ∀ i r, rs[i]? = some r → ∀ c ∈ r.ch, c ∈ fs.take i
theorem KRow.push {fs ns : List Str} {w : Nat} {rs : List Kd} (k : KRow fs ns w rs) {r : Kd} (h1 : ns[rs.length]? = some r.n) (h2 : r.f ∈ fs) (h3 : rs.length < fs.length → fs[rs.length]? = some r.f) (h4 : r.ch.length ≤ w) (h5 : ∀ c ∈ r.ch, c ∈ fs.take rs.length) : KRow fs ns w (rs ++ [r]) := by
  have at_ : ∀ i q, (rs ++ [r])[i]? = some q → rs[i]? = some q ∨ (i = rs.length ∧ q = r) := by
    intro i q h
    by_cases hi : i < rs.length
    · rw [List.getElem?_append_left hi] at h; exact .inl h
    · rw [List.getElem?_append_right (by omega)] at h
      have : i - rs.length = 0 := by
        have := (List.getElem?_eq_some_iff.mp h).1
        simp at this
        omega
      rw [this] at h
      cases h
      exact .inr ⟨by omega, rfl⟩
  have mem : ∀ q ∈ rs ++ [r], q ∈ rs ∨ q = r := fun q h => by simpa using h
  refine ⟨?_, fun q hq => ?_, fun i q hq hi => ?_, fun q hq => ?_, fun i q hq => ?_⟩
  · rw [List.map_append, k.nm, List.length_append, List.length_cons, List.length_nil, Nat.zero_add, List.take_succ, h1]
    rfl
  · rcases mem q hq with h | h
    · exact k.fam q h
    · rw [h]; exact h2
  · rcases at_ i q hq with h | ⟨h, h'⟩
    · exact k.own i q h hi
    · rw [h, h']; exact h3 (by omega)
  · rcases mem q hq with h | h
    · exact k.cl q h
    · rw [h]; exact h4
  · rcases at_ i q hq with h | ⟨h, h'⟩
    · exact k.ch i q h
    · rw [h, h']; exact h5
theorem KRow.done {fs ns : List Str} {e w c : Nat} {rs : List Kd} (k : KRow fs ns w rs) (hn : ns.Nodup) (ho : ∀ x ∈ ns, NameOk x) (h1 : fs.length ≤ rs.length) (h2 : rs.length ≤ fs.length + e) : KOk fs (rs.drop c ++ rs.take c) e w := by
  have perm : (rs.drop c ++ rs.take c).Perm rs := by
    refine List.perm_append_comm.trans ?_
    rw [List.take_append_drop]
  have mem : ∀ r, r ∈ rs.drop c ++ rs.take c ↔ r ∈ rs := fun r => perm.mem_iff
  have own : ∀ f ∈ fs, ∃ (i : Nat) (r : Kd), fs[i]? = some f ∧ rs[i]? = some r ∧ r.f = f := by
    intro f hf
    obtain ⟨i, hi, e⟩ := List.getElem_of_mem hf
    have hi' : i < rs.length := by omega
    refine ⟨i, rs[i], by rw [← e]; simp [hi], by simp [hi'], ?_⟩
    have := k.own i rs[i] (by simp [hi']) hi
    rw [List.getElem?_eq_getElem hi, e] at this
    exact (Option.some.inj this).symm
  have chf : ∀ r ∈ rs, ∀ c ∈ r.ch, c ∈ fs := fun r hr c hc => by
    obtain ⟨i, hi, e⟩ := List.getElem_of_mem hr
    exact List.mem_of_mem_take (k.ch i r (by rw [← e]; simp [hi]) c hc)
  refine ⟨by rw [perm.length_eq]; exact h2, ?_, fun r hr => ?_, fun r hr => k.fam r ((mem r).mp hr), fun f hf => ?_, fun r hr => k.cl r ((mem r).mp hr), fun r hr => chf r ((mem r).mp hr), ?_⟩
  · refine (perm.map _).nodup_iff.mpr ?_
    rw [k.nm]
    exact List.Nodup.sublist (List.take_sublist _ _) hn
  · have : r.n ∈ ns.take rs.length := by rw [← k.nm]; exact List.mem_map.mpr ⟨r, (mem r).mp hr, rfl⟩
    exact ho _ (List.mem_of_mem_take this)
  · obtain ⟨i, r, _, h, e⟩ := own f hf
    exact ⟨r, (mem r).mpr (List.mem_of_getElem? h), e⟩
  · have key : ∀ (n i : Nat) (f : Str), i < n → fs[i]? = some f → ∃ m, Tr (rs.drop c ++ rs.take c) f m := by
      intro n
      induction n with
      | zero => intro i f hi; omega
      | succ n ih =>
        intro i f hi hf
        have hlt := (List.getElem?_eq_some_iff.mp hf).1
        have hlt' : i < rs.length := by omega
        have hr : rs[i]? = some rs[i] := by simp [hlt']
        have e := k.own i _ hr hlt
        rw [hf] at e
        obtain ⟨m, hm⟩ : ∃ m, Trs (rs.drop c ++ rs.take c) rs[i].ch m := trs_all fun z hz => by
          obtain ⟨j, hj, ez⟩ := List.getElem_of_mem (k.ch i _ hr z hz)
          rw [List.length_take] at hj
          rw [List.getElem_take] at ez
          exact ih j z (by omega) (by rw [← ez]; simp)
        rw [Option.some.inj e]
        exact ⟨_, .mk ((mem _).mpr (List.mem_of_getElem? hr)) hm⟩
    intro f hf
    obtain ⟨i, hi, e⟩ := List.getElem_of_mem hf
    exact key (i + 1) i f (by omega) (by rw [← e]; simp [hi])
def dKinds (sdD sdN : SpD) (K : PySem.W.Frag) : DS := sSeq (sAsg (dOp rAdd (dCB rLen (dCons (dVar 1) (dNil))) (dCall sdD (dCons (dVar 0) (dCons (dOp rAdd (dVar 2) (dC (.int 1))) (dNil))))) (gNm 4)) (sSeq (sAsg (dZK K (dCall sdN (dCons (dVar 0) (dCons (dVar 4) (dNil))))) (gNm 5)) (sSeq (sAsg (dLst (dNil)) (gNm 6)) (sSeq (sFor (iRg1 (dCons (dVar 4) (dNil))) (gNm 7) (sSeq (sAsg (dIf (dB (dOp rLt (dVar 7) (dCB rLen (dCons (dVar 1) (dNil))))) (dOp rIx (dVar 1) (dVar 7)) (dOp rIx (dVar 1) (dCall sdD (dCons (dVar 0) (dCons (dCB rLen (dCons (dVar 1) (dNil))) (dNil)))))) (gNm 8)) (sSeq (sAsg (dCB rMin (dCons (dVar 7) (dCons (dCB rInt (dCons (dCB rLen (dCons (dVar 1) (dNil))) (dNil))) (dNil)))) (gNm 9)) (sSeq (sAsg (dLst (dNil)) (gNm 10)) (sSeq (sIf (dB (dOp rGt (dVar 9) (dC (.int 0)))) (sAsg (dLc (iRg1 (dCons (dCall sdD (dCons (dVar 0) (dCons (dOp rAdd (dVar 3) (dC (.int 1))) (dNil)))) (dNil))) (.nm 11) (dYes) (dOp rIx (dVar 1) (dCall sdD (dCons (dVar 0) (dCons (dVar 9) (dNil))))) [11]) (gNm 10)) (sNext)) (sDrop (dBM "list" rApp (dVar 6) (dCons (dTup (dCons (dOp rIx (dVar 5) (dVar 7)) (dCons (dVar 8) (dCons (dVar 10) (dNil))))) (dNil))))))))) (sSeq (sAsg (dCall sdD (dCons (dVar 0) (dCons (dVar 4) (dNil)))) (gNm 12)) (sRet (dOp rAdd (dSl (dVar 6) (oSome (dVar 12)) (oNone)) (dSl (dVar 6) (oNone) (oSome (dVar 12)))))))))
def spKinds : SpD := fun ds M Q _ => ∃ (p c : Addr) (fs : List Str) (e w b : Nat), ds = [.ptr p, .lst (fs.map .str), .int e, .int w] ∧ 1 ≤ fs.length ∧ fs.length ≤ 6 ∧ e ≤ 10 ∧ w ≤ 10 ∧ Nd M ∧ b < 1000000 ∧ Src p c b M ∧ ∀ rs M', KOk fs rs e w → Nd M' → Src p c (b + 300) M' → Fr [p, c] M M' → Q (.lst (rs.map kdL)) M'
theorem cut_low {α : Type} (f : α → D) (xs : List α) (n : Nat) : DL.cutD (xs.map f) (some (n : Int)) none = (xs.drop n).map f := by
  unfold DL.cutD
  rw [HT.sIx_nat, show HT.sIx (xs.map f).length (xs.map f).length none = (xs.map f).length from rfl, List.length_map, List.map_drop]
  by_cases h : n ≤ xs.length
  · rw [Nat.min_eq_left h, List.take_of_length_le (by rw [List.length_drop, List.length_map]; omega)]
  · rw [Nat.min_eq_right (by omega), List.drop_of_length_le (by rw [List.length_map]; omega), List.drop_of_length_le (by rw [List.length_map]; omega), List.take_nil]
theorem cut_up {α : Type} (f : α → D) (xs : List α) (n : Nat) : DL.cutD (xs.map f) none (some (n : Int)) = (xs.take n).map f := by
  rw [cut_nat]
  by_cases h : n ≤ xs.length
  · rw [Nat.min_eq_left h]
  · rw [Nat.min_eq_right (by omega), List.take_of_length_le (Nat.le_refl _), List.take_of_length_le (by omega)]
theorem pureKinds {y0 y1 y2 y3 y4 y5 y6 y7 y8 y9 y10 y11 y12 : Str} (h : spKinds ds M Qd Ed) : dKinds spDraw spNames K (fun _ M' => Qd .non M') Qd (fun _ _ => False) (fun _ _ => False) (fun C dd _ M' => Ed C dd M') (start0 [y0, y1, y2, y3, y4, y5, y6, y7, y8, y9, y10, y11, y12] ds) M := by
  obtain ⟨p, c, fs, e, w, b, rfl, hf1, hf6, he, hw, nd, hb, S, kQ⟩ := h
  unfold dKinds
  walk_at "dl"
  refine isS_len (.lst _) ?_
  rw [List.length_map]
  walk_at "dl"
  refine spDraw_of (by omega) (by omega) nd (by omega) S fun r1 M1 a1 b1 nd1 S1 f1 => ?_
  walk_at "dl"
  obtain ⟨n, hn⟩ : ∃ n : Nat, (fs.length : Int) + r1 = n := ⟨(fs.length + r1.toNat), by omega⟩
  rw [hn]
  refine ⟨p, c, _, n, rfl, by omega, nd1, by omega, S1, fun ns a M2 hns hnn hno nd2 S2 ha2 hap hac hm2 f2 => ?_⟩
  obtain ⟨M3, U3⟩ := del_ex nd2 hm2
  refine ⟨_, M3, .one U3.up rfl, ?_⟩
  have S3 := S2.fr U3.fr (not_mem1 (Ne.symm hap)) (not_mem1 (Ne.symm hac))
  have f3 : Fr [p, c] M M3 := fun x m hx hm => by
    have h1 := f2 _ _ hx (f1 _ _ hx hm)
    exact U3.fr _ _ (not_mem1 fun e => ha2 m (by rw [← e]; exact f1 _ _ hx hm)) h1
  walk_at "dl"
  refine ⟨len_le_line (n := 0), .inr fun h hh => ?_⟩
  walk_at "dl"
  refine ⟨by omega, by omega, ?_⟩
  have hpc : p ≠ h ∧ c ≠ h := by
    obtain ⟨_, _, _, _, _, h1, h2, _⟩ := S3.ex
    exact ⟨fun e => hh _ (by rw [← e]; exact h1), fun e => hh _ (by rw [← e]; exact h2)⟩
  let P : Nat → Rho → Mem → Prop := fun k ρ M' => ∃ rs : List Kd, (∃ x7 x8 x9 x10 x11 x12, ρ = [some (.ptr p), some (.lst (fs.map .str)), some (.int e), some (.int w), some (.int n), some (.lst (ns.map .str)), some (.ptr h), x7, x8, x9, x10, x11, x12]) ∧ rs.length = k ∧ KRow fs ns w rs ∧
    Nd M' ∧ Src p c (b + 6 + 15 * k) M' ∧ (h, MO.lst (rs.map kdL)) ∈ M' ∧ Fr [p, c, h] M M'
  have fr0 : Fr [p, c, h] M ((h, MO.lst []) :: M3) := fun x m hx hm => List.mem_cons_of_mem _ (f3 x m (fun z => hx (by rcases List.mem_cons.mp z with e | e <;> simp_all)) hm)
  refine goF_inv P (fun _ _ _ _ => trivial) (fun k d ρ M' hd hP go hgo => ?_) (fun ρ M' hP => ?_) ⟨[], ⟨_, _, _, _, _, _, rfl⟩, rfl, ⟨rfl, by simp, by simp, by simp, by simp⟩, nd_new hh U3.nd, (S3.fr (ps := []) Fr.refl.cons (by simp) (by simp)).more (by omega), List.mem_cons_self, fr0⟩
  · obtain ⟨rs, ⟨x7, x8, x9, x10, x11, x12, rfl⟩, hl, kr, nd', S', hm, f'⟩ := hP
    unfold rng at hd
    obtain ⟨hk, ed⟩ : k < n ∧ d = .int (k : Int) := by
      have hlt := (List.getElem?_eq_some_iff.mp hd).1
      rw [List.length_map, List.length_range] at hlt
      rw [List.getElem?_map, List.getElem?_range hlt] at hd
      refine ⟨by omega, ?_⟩
      have := Option.some.inj hd
      rw [← this]
      show D.int (0 + (k : Int)) = _
      rw [Int.zero_add]
    subst ed
    walk_at "dl"
    refine isS_len (.lst _) ?_
    rw [List.length_map]
    walk_at "dl"
    -- the family
    have hfam : ∀ (ρ : Rho) (R : D → Mem → Prop) (E : XD), at_ ρ 0 = some (.ptr p) → at_ ρ 1 = some (.lst (fs.map .str)) → at_ ρ 7 = some (.int (k : Int)) →
        (∀ (f : Str) M'', f ∈ fs → (k < fs.length → fs[k]? = some f) → Nd M'' → Src p c (b + 6 + 15 * k + 1) M'' → (h, MO.lst (rs.map kdL)) ∈ M'' → Fr [p, c, h] M M'' → R (.str f) M'') →
        if decide ((k : Int) < (fs.length : Nat)) = true then dOp rIx (dVar 1) (dVar 7) ρ M' R E else dOp rIx (dVar 1) (dCall spDraw (dCons (dVar 0) (dCons (dCB rLen (dCons (dVar 1) dNil)) dNil))) ρ M' R E := by
      intro ρ R E h0 h1 h7 kR
      by_cases hlt : k < fs.length
      · refine g_ift (by simpa using hlt) ?_
        refine g_op (g_var h1 (g_var h7 ?_))
        refine ixq_lst (atI_nat' (j := k) (x := .str fs[k]) rfl (by rw [List.getElem?_map]; simp [hlt])) ?_
        exact kR _ _ (List.getElem_mem hlt) (fun _ => by simp [hlt]) nd' (S'.more (by omega)) hm f'
      · refine g_iff' (by simpa using hlt) ?_
        refine g_op (g_var h1 (g_call (g_cons (g_var h0 (g_cons (g_cb (g_cons (g_var h1 (g_nil (isS_len (.lst _) (g_nil ?_)))))))))))
        rw [List.length_map]
        refine spDraw_of (by omega) (by omega) nd' (by omega) S' fun r2 M4 a2 b2 nd4 S4 f4 => ?_
        have hlt2 : r2.toNat < fs.length := by omega
        refine ixq_lst (atI_nat' (j := r2.toNat) (x := .str fs[r2.toNat]) (by omega) (by rw [List.getElem?_map]; simp [hlt2])) ?_
        exact kR _ _ (List.getElem_mem hlt2) (fun z => absurd z hlt) nd4 (S4.more (by omega)) (f4 _ _ (not_mem2 (Ne.symm hpc.1) (Ne.symm hpc.2)) hm) (fun x m hx hmm => f4 _ _ (fun z => hx (by rcases List.mem_cons.mp z with e | e <;> simp_all)) (f' _ _ hx hmm))
    refine hfam _ _ _ rfl rfl rfl fun f M4 hf hfk nd4 S4 hm4 f4 => ?_
    walk_at "dl"
    refine isS_len (.lst _) ?_
    rw [List.length_map]
    walk_at "dl"
    refine .two ?_
    obtain ⟨kn, hkn, hkn2⟩ : ∃ kn : Nat, (if (fs.length : Int) < (k : Int) then ((fs.length : Nat) : Int) else (k : Int)) = kn ∧ (kn = k ∨ kn = fs.length) ∧ kn ≤ k ∧ kn ≤ fs.length := by
      by_cases z : (fs.length : Int) < (k : Int)
      · exact ⟨fs.length, by rw [if_pos z], .inr rfl, by omega, Nat.le_refl _⟩
      · exact ⟨k, by rw [if_neg z], .inl rfl, Nat.le_refl _, by omega⟩
    rw [hkn]
    walk_at "dl"
    refine ⟨len_le_line (n := 0), .inl ?_⟩
    walk_at "dl"
    -- the row is appended
    have app : ∀ (ch : List Str) (ρ : Rho) (M5 : Mem), ch.length ≤ w → (∀ c ∈ ch, c ∈ fs.take k) → Nd M5 → Src p c (b + 6 + 15 * k + 13) M5 → (h, MO.lst (rs.map kdL)) ∈ M5 → Fr [p, c, h] M M5 → (∃ x11 x12, ρ = [some (.ptr p), some (.lst (fs.map .str)), some (.int e), some (.int w), some (.int n), some (.lst (ns.map .str)), some (.ptr h), some (.int (k : Int)), some (.str f), some (.int (kn : Int)), some (.lst (ch.map .str)), x11, x12]) →
        dBM "list" rApp (dVar 6) (dCons (dTup (dCons (dOp rIx (dVar 5) (dVar 7)) (dCons (dVar 8) (dCons (dVar 10) dNil)))) dNil) ρ M5 (fun _ M' => go ρ M') (fun _ _ _ => False) := by
      rintro ch ρ M5 hcl hch nd5 S5 hm5 f5 ⟨x11, x12, rfl⟩
      walk_at "dl"
      refine ⟨.lst (.ptr hm5), ?_⟩
      walk_at "dl"
      have hkn' : k < ns.length := by omega
      refine ixq_lst (atI_nat' (j := k) (x := .str ns[k]) rfl (by rw [List.getElem?_map]; simp [hkn'])) ?_
      walk_at "dl"
      refine ⟨len_le_line (n := 3), ?_⟩
      walk_at "dl"
      obtain ⟨M6, U6⟩ := upd_ex (n := .lst (rs.map kdL ++ [kdL ⟨ns[k], f, ch⟩])) nd5 hm5
      refine .ptr U6.up (lt_line (by rw [List.length_map]; omega)) (hgo _ _ ⟨rs ++ [⟨ns[k], f, ch⟩], ⟨_, _, _, _, _, _, rfl⟩, by rw [List.length_append, hl]; rfl, kr.push (by rw [hl]; simp [hkn']) hf (by rw [hl]; exact hfk) hcl (by rw [hl]; exact hch), U6.nd, (S5.fr U6.fr (not_mem1 hpc.1) (not_mem1 hpc.2)).more (by omega), by rw [List.map_append]; exact U6.at_, ?_⟩)
      exact fun x m hx hmm => U6.fr _ _ (fun z => hx (by simp_all)) (f5 _ _ hx hmm)
    by_cases hk0 : (0 : Int) < kn
    · refine g_ift (by simpa using hk0) ?_
      walk_at "dl"
      refine spDraw_of (by omega) (by omega) nd4 (by omega) S4 fun r5 M5 a5 b5 nd5 S5 f5 => ?_
      walk_at "dl"
      refine ⟨by omega, by omega, ?_⟩
      have fh := not_mem2 (Ne.symm hpc.1) (Ne.symm hpc.2)
      have frt : ∀ {M M' M'' : Mem}, Fr [p, c, h] M M' → Fr [p, c] M' M'' → Fr [p, c, h] M M'' := fun f f' x m hx hmm => f' _ _ (fun z => hx (by rcases List.mem_cons.mp z with e | e <;> simp_all)) (f _ _ hx hmm)
      unfold rng
      refine ⟨lt_line (by rw [List.length_map, List.length_range]; omega), lc_chg (fun i : Nat => D.int (0 + (i : Int))) (fun acc M6 => ∃ ch : List Str, acc = ch.map .str ∧ (∀ c ∈ ch, c ∈ fs.take k) ∧ Nd M6 ∧ Src p c (b + 6 + 15 * k + 2 + acc.length) M6 ∧ (h, MO.lst (rs.map kdL)) ∈ M6 ∧ Fr [p, c, h] M M6) (fun _ _ _ => trivial) (done := []) rfl (fun i x acc M6 hx hal I P1 hP1 => ?_) (fun acc M6 hal I => .inl ?_) ⟨[], rfl, by simp, nd5, S5, f5 _ _ fh hm4, frt f4 f5⟩⟩
      · obtain ⟨ch, rfl, hch, nd6, S6, hm6, f6⟩ := I
        have hi : i < r5.toNat := by
          have := (List.getElem?_eq_some_iff.mp hx).1
          simpa using this
        rw [hal] at S6
        walk_at "dl"
        refine spDraw_of hk0 (by omega) nd6 (by omega) S6 fun r7 M7 a7 b7 nd7 S7 f7 => ?_
        have hlt7 : r7.toNat < fs.length := by omega
        refine ixq_lst (atI_nat' (j := r7.toNat) (x := .str fs[r7.toNat]) (by omega) (by rw [List.getElem?_map]; simp [hlt7])) ?_
        refine hP1 _ _ ⟨ch ++ [fs[r7.toNat]], by rw [List.map_append]; rfl, fun z hz => ?_, nd7, S7.more (by rw [List.length_append, hal]; simp; omega), f7 _ _ fh hm6, frt f6 f7⟩
        rcases List.mem_append.mp hz with e | e
        · exact hch z e
        · rw [List.mem_singleton.mp e]
          rw [List.mem_take_iff_getElem]
          exact ⟨r7.toNat, by omega, rfl⟩
      · obtain ⟨ch, rfl, hch, nd6, S6, hm6, f6⟩ := I
        rw [List.nil_append, List.length_range, List.length_map] at hal
        exact g_nm (g_drop (app ch _ _ (by omega) hch nd6 (S6.more (by rw [List.length_map, hal]; omega)) hm6 f6 ⟨_, _, rfl⟩))
    · refine g_iff' (by simpa using hk0) ?_
      exact g_next (g_drop (app [] _ _ (by simp) (by simp) nd4 (S4.more (by omega)) hm4 f4 ⟨_, _, rfl⟩))
  · obtain ⟨rs, ⟨x7, x8, x9, x10, x11, x12, rfl⟩, hl, kr, nd', S', hm, f'⟩ := hP
    unfold rng at hl S'
    rw [List.length_map, List.length_range] at hl S'
    walk_at "dl"
    refine spDraw_of (by omega) (by omega) nd' (by omega) S' fun r2 M4 a2 b2 nd4 S4 f4 => ?_
    have hm4 := f4 _ _ (not_mem2 (Ne.symm hpc.1) (Ne.symm hpc.2)) hm
    obtain ⟨cu, hcu⟩ : ∃ cu : Nat, r2 = cu := ⟨r2.toNat, by omega⟩
    subst hcu
    walk_at "dl"
    refine .lst (.ptr hm4) (.inl ?_)
    rw [cut_low]
    walk_at "dl"
    refine .lst (.ptr hm4) (.inl ?_)
    rw [cut_up]
    walk_at "dl"
    refine .lst (.lst _) (.lst _) (len_le_line (by rw [List.length_map, List.length_map, List.length_drop, List.length_take]; omega)) (.inl ?_)
    rw [← List.map_append]
    refine kQ _ _ (kr.done hnn hno (by omega) (by omega)) nd4 (S4.more (by omega)) fun x m hx hmm => ?_
    exact f4 _ _ hx (f' _ _ (fun z => by
      rcases List.mem_cons.mp z with e | z
      · exact hx (by rw [e]; exact List.mem_cons_self)
      rcases List.mem_cons.mp z with e | z
      · exact hx (by rw [e]; exact List.mem_cons_of_mem _ List.mem_cons_self)
      · rw [List.mem_singleton.mp z] at hmm hx
        exact hh _ (f3 _ _ hx hmm)) hmm)
end
end DL
namespace DL
variable [Wd]
open PySem L2 PySem.Spec PyProof.Rows
/-! ### helpers of the laws -/
section
variable {ρ : Rho} {M : Mem} {E : XD} {K : PySem.W.Frag}
theorem g_makeK {C : Addr} {n m : Nat} {sd : SpD} {gD : List D → List D → List D} {dA dK : DA} {Q : D → Mem → Prop} (q : dA ρ M (fun ds M1 => dK ρ M1 (fun es M2 => ds.length = n ∧ es.length = m ∧ ∀ x, (∀ m, (x, m) ∉ M2) → sd (gD (.ptr x :: ds) es) ((x, .obj C []) :: M2) (fun d M3 => d = .non ∧ Q (.ptr x) M3) E) E) E) : dMakeK C n m sd gD dA dK ρ M Q E := q
theorem g_ival {de : DE} {Q : List D → (Mem → Prop) → Mem → Prop} (q : de ρ M (fun d M' => ∃ xs, d = .dic xs ∧ Q (xs.map fun kv => kv.2) (fun _ => True) M') E) : iVal de ρ M Q E := q
theorem g_ien {k : Int} {de : DE} {Q : List D → (Mem → Prop) → Mem → Prop} (q : de ρ M (fun d M1 => ∃ ds st, IsN M1 d ds st ∧ Q ((enumL k ds).map prD) st M1) E) : iEn k de ρ M Q E := q
theorem g_irg2 {dA : DA} {Q : List D → (Mem → Prop) → Mem → Prop} (q : dA ρ M (fun ds M' => ∃ i j : Int, ds = [.int i, .int j] ∧ (-(2 ^ 62) ≤ i ∧ i < 2 ^ 62 ∧ -(2 ^ 62) ≤ j ∧ j < 2 ^ 62) ∧ Q (rng i (j - i).toNat) (fun _ => True) M') E) : iRg2 dA ρ M Q E := q
theorem ne_free {x : Addr} (hx : Free x M) {b : Addr} {m : MO} (h : (b, m) ∈ M) : b ≠ x := fun e => hx m (by rw [← e]; exact h)
theorem src_ne {p c x : Addr} {b : Nat} (S : Src p c b M) (hx : Free x M) : p ≠ x ∧ c ≠ x := by
  obtain ⟨_, _, _, _, _, h1, h2, _⟩ := S.ex
  exact ⟨ne_free hx h1, ne_free hx h2⟩
theorem fr_under {x : Addr} {m : MO} {M' : Mem} (f : Fr [x] ((x, m) :: M) M') (hx : Free x M) : Fr [x] M M' := fun a z ha hz => f a z ha (List.mem_cons_of_mem _ hz)
/-- what was made and frozen leaves all as it was -/
theorem fr_gone {x : Addr} {m : MO} {M' M'' : Mem} (f : Fr [x] ((x, m) :: M) M') (hx : Free x M) (u : Fr [x] M' M'') : Fr [] M M'' := fun a z _ hz => u _ _ (not_mem1 (ne_free hx hz)) (f _ _ (not_mem1 (ne_free hx hz)) (List.mem_cons_of_mem _ hz))
theorem src_more {p c : Addr} {b : Nat} {M' : Mem} (S : Src p c b M) (f : Fr [] M M') : Src p c b M' := S.fr f (by simp) (by simp)
theorem tup_ok {xs : List Str} (h : ∀ x ∈ xs, PyData.strOk x = true) : okD 60 (.tup (xs.map .str)) = true := by
  have : okD 60 (.lst (xs.map .str)) = true := strs_ok h
  exact this
theorem str_ok {x : Str} (h : PyData.strOk x = true) : okD 60 (.str x) = true := h
theorem strs_ok' {n : Nat} {xs : List Str} (h : ∀ x ∈ xs, PyData.strOk x = true) : okD (n + 1) (.lst (xs.map .str)) = true := by
  show (xs.map D.str).all (okD n) = true
  rw [List.all_map, List.all_eq_true]
  intro x hx
  cases n <;> exact h x hx
theorem strs_ok'' {n : Nat} {xs : List Str} (h : ∀ x ∈ xs, PyData.strOk x = true) : okD (n + 1) (.tup (xs.map .str)) = true := strs_ok' h
theorem kdL_ok {n : Nat} {r : Kd} (h1 : PyData.strOk r.n = true) (h2 : PyData.strOk r.f = true) (h3 : ∀ c ∈ r.ch, PyData.strOk c = true) : okD (n + 2) (kdL r) = true := by
  show ([D.str r.n, D.str r.f, D.lst (r.ch.map .str)].all (okD (n + 1))) = true
  rw [List.all_cons, List.all_cons, List.all_cons, strs_ok' h3]
  show (PyData.strOk r.n && (PyData.strOk r.f && _)) = true
  rw [h1, h2]
  rfl
theorem kdLs_ok {rs : List Kd} (h : ∀ r ∈ rs, PyData.strOk r.n = true ∧ PyData.strOk r.f = true ∧ ∀ c ∈ r.ch, PyData.strOk c = true) : okD 60 (.lst (rs.map kdL)) = true := by
  show (rs.map kdL).all (okD 59) = true
  rw [List.all_map, List.all_eq_true]
  intro r hr
  obtain ⟨h1, h2, h3⟩ := h r hr
  exact kdL_ok (n := 57) h1 h2 h3
theorem hu64s {k : Nat} {A A' : Around} (hr : Room k A) (e : A'.units = A.units := by rfl) : A'.units + 64 < cLine := by rw [e]; exact hu64 hr
theorem hu65s {k : Nat} {A A' : Around} (hr : Room k A) (e : A'.units = A.units := by rfl) : A'.units + 65 < cLine := by rw [e]; exact hu65 hr
/-- after a test both ways lead on -/
theorem g_join {k : Bool} {t u : DS} {nx : NX} {rt : D → Mem → Prop} {bk ct : NX} {ex : Addr → Addr → Rho → Mem → Prop} (C : Rho → Mem → Prop) (ht : ∀ nx' : NX, (∀ ρ' M', C ρ' M' → nx' ρ' M') → if k = true then t nx' rt bk ct ex ρ M else u nx' rt bk ct ex ρ M) (hn : ∀ ρ' M', C ρ' M' → nx ρ' M') : if k = true then t nx rt bk ct ex ρ M else u nx rt bk ct ex ρ M := ht nx hn
theorem far {x : Str} (h : NameOk x) : x ≠ "unknownname" := fun e => by
  have := h.l2
  rw [e] at this
  exact absurd this (by decide +kernel)
/-- all([..]) of what is true each time -/
theorem all_true {n j : Nat} {de : DE} {Q : D → Mem → Prop} (hn : n ≤ 1000) (nd : Nd M) (h : ∀ (i : Nat), i < n → ∀ M', Nd M' → Fr [] M M' → ∀ P1 : D → Mem → Prop, (∀ M'', Nd M'' → Fr [] M' M'' → P1 (.bl true) M'') → de (put ρ j (some (.int (0 + (i : Int))))) M' P1 noE) (hQ : ∀ M', Nd M' → Fr [] M M' → Q (.bl true) M') :
    (rng 0 n).length < sizeLine ∧ goC (.nm j) dYes de (fun _ => True) ρ (fun acc M2 => NewL acc M2 (fun d M' => rAll [d] M' Q)) (rng 0 n) [] M := by
  unfold rng
  refine ⟨lt_line (by rw [List.length_map, List.length_range]; omega), lc_chg (fun i : Nat => D.int (0 + (i : Int))) (fun acc M6 => acc = (List.replicate acc.length true).map .bl ∧ Nd M6 ∧ Fr [] M M6) (fun _ _ _ => trivial) (done := []) rfl (fun i x acc M6 hx hal ⟨ea, nd6, f6⟩ P1 hP1 => ?_) (fun acc M6 hal ⟨ea, nd6, f6⟩ => .inl ?_) ⟨rfl, nd, Fr.refl⟩⟩
  · rw [List.nil_append] at hx
    have hi := (List.getElem?_eq_some_iff.mp hx).1
    rw [List.length_range] at hi
    rw [List.getElem?_range hi] at hx
    cases hx
    refine h i hi M6 nd6 f6 P1 fun M'' nd' f' => hP1 _ _ ⟨?_, nd', f6.trans f'⟩
    rw [List.length_append, List.length_cons, List.length_nil, List.replicate_succ', List.map_append, ← ea]
    rfl
  · refine .lst (bs := List.replicate acc.length true) (by rw [← ea]; exact .lst _) ?_
    have : (List.replicate acc.length true).all id = true := by rw [List.all_eq_true]; intro b hb; exact (List.mem_replicate.mp hb).2
    have e := hQ M6 nd6 f6
    simpa [this] using e
end
end DL
local macro_rules | `(tactic| walk_at "dl") => `(tactic| repeat (first | (with_reducible first | refine DL.g_seq ?_ | refine DL.g_asg ?_ | refine DL.g_sif ?_ | refine DL.g_ret ?_ | refine DL.g_retN ?_ | refine DL.g_drop ?_ | refine DL.g_next ?_ | refine DL.g_cont ?_ | refine DL.g_brk ?_ | refine DL.g_sfor ?_ | refine DL.g_op ?_ | refine DL.g_c ?_ | refine DL.g_nil ?_ | refine DL.g_cons ?_ | refine DL.g_cb ?_ | refine DL.g_call ?_ | refine DL.g_tup ?_ | refine DL.g_lst ?_ | refine DL.g_B ?_ | refine DL.g_not ?_ | refine DL.g_and ?_ | refine DL.g_or ?_ | refine DL.g_if ?_ | refine DL.g_bl ?_ | refine DL.g_in ?_ | refine DL.g_nm ?_ | refine DL.g_fld ?_ | refine DL.IntB.int ?_ | refine DL.AddR.int ?_ | refine DL.SubR.int ?_ | refine DL.EqR.int ?_ | refine DL.EqR.str ?_ | refine DL.EqR.bl ?_ | refine DL.IntC.int ?_ | refine DL.IsR.non ?_ | refine DL.g_lc ?_ | refine DL.g_lc2 ?_ | refine DL.g_dc ?_ | refine DL.g_iany ?_ | refine DL.g_iitm ?_ | refine DL.g_irg1 ?_ | refine DL.g_sl ?_ | refine DL.g_onone ?_ | refine DL.g_osome ?_ | refine DL.g_con ?_ | refine DL.g_bm ?_ | refine DL.g_andV ?_ | refine DL.g_orV ?_ | refine DL.g_notV ?_ | refine DL.g_make ?_ | refine DL.g_meth ?_ | refine DL.g_listint ?_ | refine DL.g_fldS ?_ | refine DL.g_gsub ?_ | refine DL.g_zK ?_ | refine DL.g_try ?_ | refine DL.g_prop ?_ | refine DL.g_propS ?_ | refine DL.g_star ?_ | refine DL.g_xf ?_ | refine DL.g_makeK ?_ | refine DL.g_ival ?_ | refine DL.g_ien ?_ | refine DL.g_irg2 ?_) | (refine DL.g_var (by first | assumption | rfl) ?_)))
namespace DL
variable [Wd]
open PySem L2 PySem.Spec PyProof.Rows
end DL
namespace DL
variable [Wd]
open PySem L2 PySem.Spec PyProof.Rows
/-! ### grammars that are not refused -/
section
variable {M : Mem} {K : PySem.W.Frag}
theorem nodup_one : ∀ {rs : List Kd}, (rs.map (·.n)).Nodup → ∀ {r r' : Kd}, r ∈ rs → r' ∈ rs → r.n = r'.n → r = r'
  | q :: rs, nd, r, r', hr, hr', e => by
    rw [List.map_cons, List.nodup_cons] at nd
    rcases List.mem_cons.mp hr with e1 | e1
    · rcases List.mem_cons.mp hr' with e2 | e2
      · rw [e1, e2]
      · exact absurd (List.mem_map.mpr ⟨r', e2, by rw [← e, e1]⟩) nd.1
    · rcases List.mem_cons.mp hr' with e2 | e2
      · exact absurd (List.mem_map.mpr ⟨r, e1, by rw [e, e2]⟩) nd.1
      · exact nodup_one nd.2 e1 e2 e
theorem ordS_nodup (xs : List Str) : (ordS xs).Nodup := by
  have key : ∀ (xs as : List Str), as.Nodup → (xs.foldl (fun a x => if x ∈ a then a else a ++ [x]) as).Nodup := by
    intro xs
    induction xs with
    | nil => intro as h; exact h
    | cons y ys ih =>
      intro as h
      rw [List.foldl_cons]
      refine ih _ ?_
      by_cases q : y ∈ as
      · rw [if_pos q]; exact h
      · rw [if_neg q]
        exact List.nodup_append.mpr ⟨h, by simp, fun a ha b hb e => q (by rw [← List.mem_singleton.mp hb, ← e]; exact ha)⟩
  exact key xs [] List.nodup_nil
theorem KOk.fams {fs : List Str} {rs : List Kd} {e w : Nat} (k : KOk fs rs e w) : ∀ f, f ∈ famsOf rs ↔ f ∈ fs := fun f => ⟨fun h => by obtain ⟨r, hr, rfl⟩ := fam_kind h; exact k.fam r hr, fun h => by obtain ⟨r, hr, rfl⟩ := k.cov f h; exact ord_mem (List.mem_map.mpr ⟨r, hr, rfl⟩)⟩
theorem KOk.famsLen {fs : List Str} {rs : List Kd} {e w : Nat} (k : KOk fs rs e w) : (famsOf rs).length ≤ fs.length := nodup_le (ordS_nodup _) fun x hx => (k.fams x).mp hx
theorem KOk.noErr {fs : List Str} {rs : List Kd} {e w : Nat} (k : KOk fs rs e w) (h0 : fs ≠ []) (h3 : fs.length ≤ 3) (h8 : fs.length + e ≤ 8) (hw : w ≤ 3) : kindsErr rs (famsOf rs) = none := by
  have hpos : rs.length ≠ 0 := fun z => by
    cases fs with
    | nil => exact h0 rfl
    | cons f fs =>
      obtain ⟨r, hr, _⟩ := k.cov f List.mem_cons_self
      rw [List.length_eq_zero_iff.mp z] at hr
      cases hr
  have := k.len
  have hf := k.famsLen
  unfold kindsErr
  rw [if_neg (fun z => z.elim hpos fun z => by rw [ord_nodup k.nd, List.length_map] at z; omega), if_neg (by omega), if_neg, if_neg (by omega), if_neg]
  · rw [Bool.not_eq_true, List.any_eq_false]
    intro r hr z
    obtain ⟨c, hc, hc2⟩ := List.any_eq_true.mp z
    exact (of_decide_eq_true hc2) ((k.fams c).mpr (k.ch r hr c hc))
  · rw [Bool.not_eq_true, List.any_eq_false]
    intro r hr z
    have := of_decide_eq_true z
    have := k.cl r hr
    omega
/-- Grammar(..) of kinds that are fine -/
theorem gram_ok {cG cL cB q : Addr} {a b : D} {root : Option Str} {xs fs : List Str} {ps : List (Kd × D)} {e w : Nat} {Q : D → Mem → Prop} {E : XD} (hq : (q, MO.obj cG []) ∈ M) (nd : Nd M) (ha : IsS M a (xs.map .str)) (hx : xs.length ≤ 6) (hxn : xs.Nodup) (hb : IsS M b (rowsD ps)) (hch : ∀ p ∈ ps, IsS M p.2 (p.1.ch.map .str))
    {rs : List Kd} (hrs : ps.map (·.1) = rs) (k : KOk fs rs e w) (h0 : fs ≠ []) (h3 : fs.length ≤ 3) (h8 : fs.length + e ≤ 8) (hw : w ≤ 3) (hroot : ∀ s, root = some s → s ∈ fs)
    (fin : ∀ S M', (q, MO.obj cG (gramD xs rs root S)) ∈ M' → Gm M' (.ptr q) cG xs rs root S → Nd M' → Fr [q] M M' → Q .non M') : spGram cG cL cB [.ptr q, a, b, rootD root] M Q E := by
  subst hrs
  have hl : ps.length ≤ 8 := by have := k.len; rw [List.length_map] at this; omega
  refine ⟨q, a, b, root, xs, ps, rfl, hq, nd, ha, by omega, hb, by omega, hch, ?_⟩
  rw [show fieldsErr xs = none from (if_neg (show ¬ 6 < xs.length by omega)).trans (if_neg (by rw [ord_nodup hxn]; omega)), k.noErr h0 h3 h8 hw]
  unfold Out
  have hrb : rootBad (ps.map (·.1)) root = false := by
    cases root with
    | none => rfl
    | some s =>
      have := (k.fams s).mpr (hroot s rfl)
      show decide (s ∉ famsOf (ps.map (·.1))) = false
      simp only [this, not_true_eq_false, decide_false]
  refine g_iff' hrb ?_
  rintro S M5 nd5 ⟨L, hz, hS⟩
  have full := full_of k.nd hz hS k.trs
  rw [List.length_map] at full
  refine ⟨fun z => absurd z full, fun _ h5 f5 => fin S M5 h5 ⟨.ptr h5, k.nd, by rw [List.length_map]; exact hl, ⟨L, hz, hS⟩, by rw [List.length_map]; exact full⟩ nd5 f5⟩
/-- the one kind that some laws take -/
theorem only_ok {n f : Str} (hn : NameOk n) : KOk [f] [⟨n, f, []⟩] 0 0 := by
  refine ⟨by simp, by simp, fun r hr => ?_, fun r hr => ?_, fun g hg => ⟨_, List.mem_cons_self, (List.mem_singleton.mp hg).symm⟩, fun r hr => ?_, fun r hr => ?_, fun g hg => ?_⟩
  · rw [List.mem_singleton.mp hr]; exact hn
  · rw [List.mem_singleton.mp hr]; exact List.mem_cons_self
  · rw [List.mem_singleton.mp hr]; exact Nat.le_refl _
  · rw [List.mem_singleton.mp hr]; simp
  · rw [List.mem_singleton.mp hg]; exact ⟨_, .mk List.mem_cons_self .nil⟩
theorem rowsD_kdD (rs : List Kd) : rowsD (rs.map fun r => (r, D.tup (r.ch.map .str))) = rs.map kdD := by unfold rowsD; rw [List.map_map]; rfl
theorem rowsD_kdL (rs : List Kd) : rowsD (rs.map fun r => (r, D.lst (r.ch.map .str))) = rs.map kdL := by unfold rowsD; rw [List.map_map]; rfl
theorem fst_map (f : Kd → D) (rs : List Kd) : (rs.map fun r => (r, f r)).map (·.1) = rs := by rw [List.map_map]; exact List.map_id _
end
end DL
namespace DL
variable [Wd]
open PySem L2 PySem.Spec PyProof.Rows
/-! ### statements and bodies, as the laws draw them -/
section
variable {M : Mem} {K : PySem.W.Frag} {ds : List D} {Qd : D → Mem → Prop} {Ed : XD}
abbrev rIns : DM := fun d ds M Q => InsM M Q d ds
inductive Stm where
  | call (c : Nat) (w : Str)
  | set (p : Nat) (f : Str) (rs : List (Nat × Str))
def rdD (r : Nat × Str) : D := .tup [.int (r.1 : Nat), .str r.2]
def stD : Stm → D
  | .call c w => .tup [.str "call", .int (c : Nat), .str w]
  | .set p f rs => .tup [.str "set", .int (p : Nat), .str f, .tup (rs.map rdD)]
def stL : Stm → D
  | .call c w => .tup [.str "call", .int (c : Nat), .str w]
  | .set p f rs => .tup [.str "set", .int (p : Nat), .str f, .lst (rs.map rdD)]
def StOk (fs ns : List Str) (w : Nat) : Stm → Prop
  | .call c x => 1 ≤ c ∧ c ≤ w ∧ x ∈ ns
  | .set p f rs => p ≤ w ∧ f ∈ fs ∧ rs.length ≤ 4 ∧ ∀ r ∈ rs, r.1 ≤ w ∧ r.2 ∈ fs
theorem draw_nat {p c : Addr} {many : Int} {n b : Nat} {Q : D → Mem → Prop} {E : XD} (hm : many = (n : Int)) (h0 : 0 < n) (h1 : n < 1000) (nd : Nd M) (hb : b < 100000000) (S : Src p c b M) (k : ∀ (r : Nat) M', r < n → Nd M' → Src p c (b + 1) M' → Fr [p, c] M M' → Q (.int (r : Nat)) M') : spDraw [.ptr p, .int many] M Q E := by
  refine spDraw_of (by omega) (by omega) nd hb S fun r M' a1 a2 nd' S' f' => ?_
  have := k r.toNat M' (by omega) nd' S' f'
  rwa [Int.toNat_of_nonneg a1] at this
theorem ix_map {α : Type} {Q : D → Mem → Prop} (f : α → D) {xs : List α} {i : Nat} (h : i < xs.length) (q : Q (f xs[i]) M) : IxQ M Q (.lst (xs.map f)) (.int (i : Nat)) := ixq_lst (atI_nat' (j := i) (x := f xs[i]) rfl (by rw [List.getElem?_map]; simp [h])) q
theorem rng_at {lo : Int} {n k : Nat} {d : D} (h : (rng lo n)[k]? = some d) : k < n ∧ d = .int (lo + (k : Int)) := by
  unfold rng at h
  have hlt := (List.getElem?_eq_some_iff.mp h).1
  rw [List.length_map, List.length_range] at hlt
  rw [List.getElem?_map, List.getElem?_range hlt] at h
  exact ⟨hlt, (Option.some.inj h).symm⟩
theorem rng_len {lo : Int} {n : Nat} : (rng lo n).length = n := by unfold rng; rw [List.length_map, List.length_range]
theorem fr_sub {ps qs : List Addr} {M' : Mem} (f : Fr ps M M') (h : ∀ p ∈ ps, p ∈ qs) : Fr qs M M' := fun a m ha hm => f _ _ (fun z => ha (h _ z)) hm
theorem ins_step {h : Addr} {bd : List Stm} {s : Stm} {i : Nat} {Q : D → Mem → Prop} (nd : Nd M) (hm : (h, MO.lst (bd.map stD)) ∈ M) (hl : bd.length ≤ 1000) (hi : i < 1000000) (k : ∀ (bd' : List Stm) M', bd'.length = bd.length + 1 → (∀ x ∈ bd', x ∈ bd ∨ x = s) → (h, MO.lst (bd'.map stD)) ∈ M' → Nd M' → Fr [h] M M' → Q .non M') : rIns (.ptr h) [.int (i : Nat), stD s] M Q := by
  obtain ⟨M', U⟩ := upd_ex (n := .lst ((bd.map stD).take ((i : Int)).toNat ++ [stD s] ++ (bd.map stD).drop ((i : Int)).toNat)) nd hm
  refine .ptr U.up (lt_line (by rw [List.length_map]; omega)) (by omega) (by omega) (k (bd.take i ++ [s] ++ bd.drop i) M' ?_ (fun x hx => ?_) ?_ U.nd U.fr)
  · rw [List.length_append, List.length_append, List.length_take, List.length_drop]
    simp
    omega
  · rcases List.mem_append.mp hx with e | e
    · rcases List.mem_append.mp e with e | e
      · exact .inl (List.mem_of_mem_take e)
      · exact .inr (List.mem_singleton.mp e)
    · exact .inl (List.mem_of_mem_drop e)
  · have e := U.at_
    rw [Int.toNat_natCast] at e
    rw [List.map_append, List.map_append, List.map_take, List.map_drop]
    exact e
/-- _law_listed -/
def dListed (K : PySem.W.Frag) : DS := sSeq (sIf (dB (dOp rEq (dOp rIx (dVar 0) (dC (.int 0))) (dC (.str ("call" : Str))))) (sRet (dZK K (dVar 0))) (sNext)) (sRet (dTup (dCons (dOp rIx (dVar 0) (dC (.int 0))) (dCons (dOp rIx (dVar 0) (dC (.int 1))) (dCons (dOp rIx (dVar 0) (dC (.int 2))) (dCons (dCB rList (dCons (dOp rIx (dVar 0) (dC (.int 3))) (dNil))) (dNil)))))))
def spListed : SpD := fun ds M Q _ => ∃ s : Stm, ds = [stD s] ∧ Q (stL s) M
theorem pureListed {y0 : Str} (h : spListed ds M Qd Ed) : dListed K (fun _ M' => Qd .non M') Qd (fun _ _ => False) (fun _ _ => False) (fun C dd _ M' => Ed C dd M') (start0 [y0] ds) M := by
  obtain ⟨s, rfl, q⟩ := h
  unfold dListed
  cases s with
  | call c w =>
    walk_at "dl"
    refine ixt0 ?_
    walk_at "dl"
    refine g_ift (by decide +kernel) ?_
    walk_at "dl"
    exact ⟨_, _, .refl, q⟩
  | set p f rs =>
    walk_at "dl"
    refine ixt0 ?_
    walk_at "dl"
    refine g_iff' (by decide +kernel) ?_
    walk_at "dl"
    refine ixt0 ?_
    walk_at "dl"
    refine ixt1 ?_
    walk_at "dl"
    refine ixt2 ?_
    walk_at "dl"
    refine ixq_tup atI3 ?_
    walk_at "dl"
    refine .seq (.tup _) (.inl ?_)
    walk_at "dl"
    exact ⟨len_le_line (n := 4), q⟩
/-- _law_set -/
def dSet (sdD : SpD) : DS := sSeq (sAsg (dOp rIx (dLst (dCons (dC (.int 0)) (dCons (dC (.int 1)) (dCons (dC (.int 2)) (dCons (dC (.int 1)) (dCons (dC (.int 0)) (dCons (dC (.int 1)) (dCons (dC (.int 3)) (dCons (dC (.int 4)) (dNil)))))))))) (dCall sdD (dCons (dVar 0) (dCons (dC (.int 8)) (dNil))))) (gNm 3)) (sSeq (sAsg (dLc (iRg1 (dCons (dVar 3) (dNil))) (.nm 5) (dYes) (dTup (dCons (dCall sdD (dCons (dVar 0) (dCons (dOp rAdd (dVar 1) (dC (.int 1))) (dNil)))) (dCons (dOp rIx (dVar 2) (dCall sdD (dCons (dVar 0) (dCons (dCB rLen (dCons (dVar 2) (dNil))) (dNil))))) (dNil)))) [5]) (gNm 4)) (sRet (dTup (dCons (dC (.str ("set" : Str))) (dCons (dCall sdD (dCons (dVar 0) (dCons (dOp rAdd (dVar 1) (dC (.int 1))) (dNil)))) (dCons (dOp rIx (dVar 2) (dCall sdD (dCons (dVar 0) (dCons (dCB rLen (dCons (dVar 2) (dNil))) (dNil))))) (dCons (dCB rTuple (dCons (dVar 4) (dNil))) (dNil))))))))
def spSet : SpD := fun ds M Q _ => ∃ (p c : Addr) (w b : Nat) (fs : List Str), ds = [.ptr p, .int (w : Nat), .lst (fs.map .str)] ∧ 1 ≤ fs.length ∧ fs.length ≤ 100 ∧ w ≤ 10 ∧ Nd M ∧ b < 1000000 ∧ Src p c b M ∧ ∀ s M', (∀ ns, StOk fs ns w s) → Nd M' → Src p c (b + 11) M' → Fr [p, c] M M' → Q (stD s) M'
theorem pureSet {y0 y1 y2 y3 y4 y5 : Str} (h : spSet ds M Qd Ed) : dSet spDraw (fun _ M' => Qd .non M') Qd (fun _ _ => False) (fun _ _ => False) (fun C dd _ M' => Ed C dd M') (start0 [y0, y1, y2, y3, y4, y5] ds) M := by
  obtain ⟨p, c, w, b, fs, rfl, h1, h2, hw, nd, hb, S, kQ⟩ := h
  unfold dSet
  walk_at "dl"
  refine ⟨len_le_line (n := 8), .inl ?_⟩
  walk_at "dl"
  refine draw_nat (n := 8) rfl (by decide) (by decide) nd (by omega) S fun r1 M1 b1 nd1 S1 f1 => ?_
  obtain ⟨m, hm, hm4⟩ : ∃ m : Nat, atI [D.int 0, D.int 1, D.int 2, D.int 1, D.int 0, D.int 1, D.int 3, D.int 4] (r1 : Int) = some (.int (m : Nat)) ∧ m ≤ 4 := by
    have : r1 = 0 ∨ r1 = 1 ∨ r1 = 2 ∨ r1 = 3 ∨ r1 = 4 ∨ r1 = 5 ∨ r1 = 6 ∨ r1 = 7 := by omega
    rcases this with rfl | rfl | rfl | rfl | rfl | rfl | rfl | rfl
    · exact ⟨0, rfl, by decide⟩
    · exact ⟨1, rfl, by decide⟩
    · exact ⟨2, rfl, by decide⟩
    · exact ⟨1, rfl, by decide⟩
    · exact ⟨0, rfl, by decide⟩
    · exact ⟨1, rfl, by decide⟩
    · exact ⟨3, rfl, by decide⟩
    · exact ⟨4, rfl, by decide⟩
  refine ixq_lst hm ?_
  walk_at "dl"
  refine ⟨by omega, by omega, ?_⟩
  unfold rng
  refine ⟨lt_line (by rw [List.length_map, List.length_range]; omega), lc_chg (fun i : Nat => D.int (0 + (i : Int))) (fun acc M6 => ∃ rs : List (Nat × Str), acc = rs.map rdD ∧ (∀ r ∈ rs, r.1 ≤ w ∧ r.2 ∈ fs) ∧ Nd M6 ∧ Src p c (b + 1 + 2 * acc.length) M6 ∧ Fr [p, c] M M6) (fun _ _ _ => trivial) (done := []) rfl (fun i x acc M6 hx hal I P1 hP1 => ?_) (fun acc M6 hal I => .inl ?_) ⟨[], rfl, by simp, nd1, S1, f1⟩⟩
  · obtain ⟨rs, rfl, hrs, nd6, S6, f6⟩ := I
    have hi : i < m := by
      have := (List.getElem?_eq_some_iff.mp hx).1
      simpa using this
    rw [hal] at S6
    walk_at "dl"
    refine draw_nat (n := w + 1) (by omega) (by omega) (by omega) nd6 (by omega) S6 fun r7 M7 b7 nd7 S7 f7 => ?_
    walk_at "dl"
    refine isS_len (.lst _) ?_
    rw [List.length_map]
    walk_at "dl"
    refine draw_nat (n := fs.length) rfl (by omega) (by omega) nd7 (by omega) S7 fun r8 M8 b8 nd8 S8 f8 => ?_
    refine ix_map .str b8 ?_
    walk_at "dl"
    refine ⟨len_le_line (n := 2), hP1 _ _ ⟨rs ++ [(r7, fs[r8])], by rw [List.map_append]; rfl, fun r hr => ?_, nd8, S8.more (by rw [List.length_append, hal]; simp; omega), (f6.trans f7).trans f8⟩⟩
    rcases List.mem_append.mp hr with e | e
    · exact hrs r e
    · rw [List.mem_singleton.mp e]
      exact ⟨by show r7 ≤ w; omega, List.getElem_mem b8⟩
  obtain ⟨rs, rfl, hrs, nd6, S6, f6⟩ := I
  have hl : rs.length = m := by
    rw [List.nil_append, List.length_range, List.length_map] at hal
    omega
  rw [List.length_map] at S6
  walk_at "dl"
  refine draw_nat (n := w + 1) (by omega) (by omega) (by omega) nd6 (by omega) S6 fun r7 M7 b7 nd7 S7 f7 => ?_
  walk_at "dl"
  refine isS_len (.lst _) ?_
  rw [List.length_map]
  walk_at "dl"
  refine draw_nat (n := fs.length) rfl (by omega) (by omega) nd7 (by omega) S7 fun r8 M8 b8 nd8 S8 f8 => ?_
  refine ix_map .str b8 ?_
  walk_at "dl"
  refine tup_of (.lst _) ?_
  walk_at "dl"
  exact ⟨len_le_line (n := 4), kQ (.set r7 fs[r8] rs) M8 (fun _ => ⟨by omega, List.getElem_mem b8, by omega, hrs⟩) nd8 (S8.more (by omega)) ((f6.trans f7).trans f8)⟩
end
end DL
namespace DL
variable [Wd]
open PySem L2 PySem.Spec PyProof.Rows
/-! ### _law_body -/
section
variable {M : Mem} {K : PySem.W.Frag} {ds : List D} {Qd : D → Mem → Prop} {Ed : XD}
/-- what stands while a body is drawn -/
structure BI (p c h : Addr) (fs ns : List Str) (w b n : Nat) (bd : List Stm) (M0 M : Mem) : Prop where
  nd : Nd M
  src : Src p c b M
  hm : (h, MO.lst (bd.map stD)) ∈ M
  ok : ∀ s ∈ bd, StOk fs ns w s
  len : bd.length ≤ n
  fr : Fr [p, c, h] M0 M
  ne : p ≠ h ∧ c ≠ h
section
variable {p c h : Addr} {fs ns : List Str} {w b b' n : Nat} {bd : List Stm} {M0 M' : Mem}
theorem BI.draw (I : BI p c h fs ns w b n bd M0 M) (nd : Nd M') (S : Src p c b' M') (f : Fr [p, c] M M') : BI p c h fs ns w b' n bd M0 M' :=
  ⟨nd, S, f _ _ (not_mem2 (Ne.symm I.ne.1) (Ne.symm I.ne.2)) I.hm, I.ok, I.len, I.fr.trans (fr_sub f (by simp)), I.ne⟩
theorem BI.more (I : BI p c h fs ns w b n bd M0 M) {n' : Nat} (hb : b ≤ b') (hn : n ≤ n') : BI p c h fs ns w b' n' bd M0 M := ⟨I.nd, I.src.more hb, I.hm, I.ok, Nat.le_trans I.len hn, I.fr, I.ne⟩
theorem BI.ins (I : BI p c h fs ns w b n bd M0 M) (hn : n ≤ 900) {s : Stm} (hs : StOk fs ns w s) {i : Nat} (hi : i < 1000000) {Q : D → Mem → Prop} (k : ∀ bd' M', BI p c h fs ns w b (n + 1) bd' M0 M' → Q .non M') : rIns (.ptr h) [.int (i : Nat), stD s] M Q := by
  refine ins_step I.nd I.hm (by have := I.len; omega) hi fun bd' M' hl hx hm nd f => k bd' M' ⟨nd, I.src.fr f (not_mem1 I.ne.1) (not_mem1 I.ne.2), hm, fun x hxx => ?_, by have := I.len; omega, I.fr.trans (fr_sub f (by simp)), I.ne⟩
  rcases hx x hxx with e | e
  · exact I.ok x e
  · rw [e]; exact hs
end
def dBody (sdD sdS : SpD) (K : PySem.W.Frag) : DS := sSeq (sAsg (dCB rLen (dCons (dOp rIx (dVar 1) (dC (.int 2))) (dNil))) (gNm 6)) (sSeq (sAsg (dLc (iRg1 (dCons (dOp rMod (dCB rInt (dCons (dOp rAdd (dC (.int 1)) (dCall sdD (dCons (dVar 0) (dCons (dC (.int 3)) (dNil))))) (dNil))) (dC (.int 3))) (dNil))) (.nm 8) (dYes) (dZK K (dCall sdS (dCons (dVar 0) (dCons (dVar 6) (dCons (dVar 2) (dNil)))))) [8]) (gNm 7)) (sSeq (sIf (dB (dOp rEq (dVar 5) (dCB rLen (dCons (dVar 3) (dNil))))) (sSeq (sFor (iRg1 (dCons (dIf (dB (dOp rGt (dVar 6) (dC (.int 0)))) (dCall sdD (dCons (dVar 0) (dCons (dC (.int 4)) (dNil)))) (dC (.int 0))) (dNil))) (gNm 8) (sSeq (sAsg (dTup (dCons (dC (.str ("call" : Str))) (dCons (dOp rAdd (dC (.int 1)) (dCall sdD (dCons (dVar 0) (dCons (dVar 6) (dNil))))) (dCons (dOp rIx (dVar 3) (dCall sdD (dCons (dVar 0) (dCons (dCB rLen (dCons (dVar 3) (dNil))) (dNil))))) (dNil))))) (gNm 9)) (sDrop (dBM "list" rIns (dVar 7) (dCons (dCall sdD (dCons (dVar 0) (dCons (dOp rAdd (dCB rLen (dCons (dVar 7) (dNil))) (dC (.int 1))) (dNil)))) (dCons (dVar 9) (dNil))))))) (sRet (dZK K (dVar 7)))) (sNext)) (sSeq (sFor (iRg2 (dCons (dC (.int 1)) (dCons (dIf (dB (dOp rNe (dVar 4) (dVar 5))) (dOp rAdd (dVar 6) (dC (.int 1))) (dC (.int 1))) (dNil)))) (gNm 10) (sSeq (sAsg (dCall sdD (dCons (dVar 0) (dCons (dC (.int 4)) (dNil)))) (gNm 11)) (sSeq (sAsg (dOp rIx (dVar 3) (dVar 4)) (gNm 12)) (sSeq (sIf (dB (dOp rEq (dVar 11) (dC (.int 2)))) (sAsg (dOp rIx (dVar 3) (dCall sdD (dCons (dVar 0) (dCons (dCB rLen (dCons (dVar 3) (dNil))) (dNil))))) (gNm 12)) (sNext)) (sIf (dB (dOp rLt (dVar 11) (dC (.int 3)))) (sDrop (dBM "list" rIns (dVar 7) (dCons (dCall sdD (dCons (dVar 0) (dCons (dOp rAdd (dCB rLen (dCons (dVar 7) (dNil))) (dC (.int 1))) (dNil)))) (dCons (dTup (dCons (dC (.str ("call" : Str))) (dCons (dVar 10) (dCons (dVar 12) (dNil))))) (dNil))))) (sNext)))))) (sSeq (sIf (dAnd (dB (dOp rNe (dVar 4) (dVar 5))) (dAnd (dB (dOp rGe (dVar 5) (dC (.int 0)))) (dAnd (dB (dOp rGt (dVar 6) (dC (.int 0)))) (dB (dOp rEq (dCall sdD (dCons (dVar 0) (dCons (dC (.int 2)) (dNil)))) (dC (.int 1))))))) (sDrop (dBM "list" rIns (dVar 7) (dCons (dCall sdD (dCons (dVar 0) (dCons (dOp rAdd (dCB rLen (dCons (dVar 7) (dNil))) (dC (.int 1))) (dNil)))) (dCons (dTup (dCons (dC (.str ("call" : Str))) (dCons (dOp rAdd (dC (.int 1)) (dCall sdD (dCons (dVar 0) (dCons (dVar 6) (dNil))))) (dCons (dOp rIx (dVar 3) (dVar 5)) (dNil))))) (dNil))))) (sNext)) (sRet (dZK K (dVar 7)))))))
def spBody : SpD := fun ds M Q _ => ∃ (p c : Addr) (r : Kd) (fs ns : List Str) (turn b : Nat) (quiet : Int), ds = [.ptr p, kdL r, .lst (fs.map .str), .lst (ns.map .str), .int (turn : Nat), .int quiet] ∧ 1 ≤ fs.length ∧ fs.length ≤ 100 ∧ r.ch.length ≤ 3 ∧ turn < ns.length ∧ ns.length ≤ 100 ∧ quiet ≤ ns.length ∧ Nd M ∧ b < 900000 ∧ Src p c b M ∧
  ∀ (bd : List Stm) M', (∀ s ∈ bd, StOk fs ns r.ch.length s) → bd.length ≤ 6 → Nd M' → Src p c (b + 50) M' → Fr [p, c] M M' → Q (.lst (bd.map stD)) M'
theorem pureBody {y0 y1 y2 y3 y4 y5 y6 y7 y8 y9 y10 y11 y12 : Str} (h : spBody ds M Qd Ed) : dBody spDraw spSet K (fun _ M' => Qd .non M') Qd (fun _ _ => False) (fun _ _ => False) (fun C dd _ M' => Ed C dd M') (start0 [y0, y1, y2, y3, y4, y5, y6, y7, y8, y9, y10, y11, y12] ds) M := by
  obtain ⟨p, c, r, fs, ns, turn, b, quiet, rfl, h1, h2, hw, ht, hn, hq, nd, hb, S, kQ⟩ := h
  unfold dBody
  walk_at "dl"
  refine ixt2 ?_
  walk_at "dl"
  refine isS_len (.lst _) ?_
  rw [List.length_map]
  generalize r.ch.length = w at hw kQ
  walk_at "dl"
  refine draw_nat (n := 3) rfl (by decide) (by decide) nd (by omega) S fun r1 M1 b1 nd1 S1 f1 => ?_
  walk_at "dl"
  refine ModR.int (by decide) ?_
  obtain ⟨m, hm, hm2⟩ : ∃ m : Nat, (1 + (r1 : Int)) % 3 = m ∧ m ≤ 2 := ⟨((1 + r1) % 3), by omega, by omega⟩
  rw [hm]
  walk_at "dl"
  refine ⟨by omega, by omega, ?_⟩
  unfold rng
  refine ⟨lt_line (by rw [List.length_map, List.length_range]; omega), lc_chg (fun i : Nat => D.int (0 + (i : Int))) (fun acc M6 => ∃ bd : List Stm, acc = bd.map stD ∧ (∀ s ∈ bd, StOk fs ns w s) ∧ Nd M6 ∧ Src p c (b + 1 + 11 * acc.length) M6 ∧ Fr [p, c] M M6) (fun _ _ _ => trivial) (done := []) rfl (fun i x acc M6 hx hal I P1 hP1 => ?_) (fun acc M6 hal I => .inr fun h hh => ?_) ⟨[], rfl, by simp, nd1, S1, f1⟩⟩
  · obtain ⟨bd, rfl, hbd, nd6, S6, f6⟩ := I
    have hi : i < m := by
      have := (List.getElem?_eq_some_iff.mp hx).1
      simpa using this
    rw [hal] at S6
    walk_at "dl"
    refine ⟨p, c, w, _, fs, rfl, h1, h2, by omega, nd6, by omega, S6, fun s M7 hs nd7 S7 f7 => ?_⟩
    refine ⟨_, _, .refl, hP1 _ _ ⟨bd ++ [s], by rw [List.map_append]; rfl, fun z hz => ?_, nd7, S7.more (by rw [List.length_append, hal]; simp; omega), f6.trans f7⟩⟩
    rcases List.mem_append.mp hz with e | e
    · exact hbd z e
    · rw [List.mem_singleton.mp e]; exact hs ns
  obtain ⟨bd, rfl, hbd, nd6, S6, f6⟩ := I
  have hl : bd.length = m := by
    rw [List.nil_append, List.length_range, List.length_map] at hal
    omega
  rw [List.length_map, hl] at S6
  have nh := src_ne S6 hh
  have I7 : BI p c h fs ns w (b + 23) 2 bd M ((h, MO.lst (bd.map stD)) :: M6) := ⟨nd_new hh nd6, (S6.fr (ps := []) Fr.refl.cons (by simp) (by simp)).more (by omega), List.mem_cons_self, hbd, by omega, (fr_sub f6 (by simp)).trans Fr.refl.cons, nh⟩
  generalize (h, MO.lst (bd.map stD)) :: M6 = M7 at I7
  -- the end
  have fin : ∀ (bd : List Stm) (n : Nat) (ρ : Rho) (M' : Mem) (E : XD), n ≤ 6 → BI p c h fs ns w (b + 50) n bd M M' → at_ ρ 7 = some (.ptr h) → dZK K (dVar 7) ρ M' Qd E := by
    intro bd n ρ M' E hn I h7
    obtain ⟨M'', U⟩ := del_ex I.nd I.hm
    refine g_zK (g_var h7 ⟨_, M'', .one U.up rfl, kQ bd M'' I.ok (by have := I.len; omega) U.nd (I.src.fr U.fr (not_mem1 nh.1) (not_mem1 nh.2)) fun x z hx hz => ?_⟩)
    have hxh := ne_free hh (f6 _ _ hx hz)
    exact U.fr _ _ (not_mem1 hxh) (I.fr _ _ (fun e => by
      rcases List.mem_cons.mp e with e | e
      · exact hx (by rw [e]; exact List.mem_cons_self)
      rcases List.mem_cons.mp e with e | e
      · exact hx (by rw [e]; exact List.mem_cons_of_mem _ List.mem_cons_self)
      · exact hxh (List.mem_singleton.mp e)) hz)
  walk_at "dl"
  refine isS_len (.lst _) ?_
  rw [List.length_map]
  walk_at "dl"
  by_cases hql : quiet = (ns.length : Nat)
  · refine g_ift (by simp [hql]) ?_
    walk_at "dl"
    have hmany : ∀ (ρ : Rho) (R : D → Mem → Prop) (E : XD), at_ ρ 0 = some (.ptr p) → (∀ (m : Nat) M'', m ≤ 3 → (0 < m → 0 < w) → BI p c h fs ns w (b + 24) 2 bd M M'' → R (.int (m : Nat)) M'') → if decide ((0 : Int) < (w : Nat)) = true then dCall spDraw (dCons (dVar 0) (dCons (dC (.int 4)) dNil)) ρ M7 R E else dC (.int 0) ρ M7 R E := by
      intro ρ R E h0 kR
      by_cases hw0 : 0 < w
      · refine g_ift (by simpa using hw0) (g_call (g_cons (g_var h0 (g_cons (g_c (g_nil ?_))))))
        exact draw_nat (n := 4) rfl (by decide) (by decide) I7.nd (by omega) I7.src fun r2 M8 b2 nd8 S8 f8 => kR r2 M8 (by omega) (fun _ => hw0) (I7.draw nd8 S8 f8)
      · exact g_iff' (by simpa using hw0) (kR 0 M7 (by omega) (by omega) (I7.more (by omega) (by omega)))
    refine hmany _ _ _ rfl fun m2 M8 hm2 hmw I8 => ?_
    walk_at "dl"
    refine ⟨by omega, by omega, ?_⟩
    let P : Nat → Rho → Mem → Prop := fun i ρ M' => ∃ bd, (∃ x8 x9 x10 x11 x12, ρ = [some (.ptr p), some (kdL r), some (.lst (fs.map .str)), some (.lst (ns.map .str)), some (.int (turn : Nat)), some (.int quiet), some (.int (w : Nat)), some (.ptr h), x8, x9, x10, x11, x12]) ∧ BI p c h fs ns w (b + 24 + 3 * i) (2 + i) bd M M'
    refine goF_inv P (fun _ _ _ _ => trivial) (fun i d ρ M' hd hP go hgo => ?_) (fun ρ M' hP => ?_) ⟨bd, ⟨_, _, _, _, _, rfl⟩, I8⟩
    · obtain ⟨hi, rfl⟩ := rng_at hd
      obtain ⟨bd, ⟨x8, x9, x10, x11, x12, rfl⟩, I⟩ := hP
      have hi2 : i < m2 := by omega
      have hw0 := hmw (by omega)
      walk_at "dl"
      refine draw_nat (n := w) rfl hw0 (by omega) I.nd (by omega) I.src fun r3 M9 b3 nd9 S9 f9 => ?_
      have I9 := I.draw nd9 S9 f9
      walk_at "dl"
      refine isS_len (.lst _) ?_
      rw [List.length_map]
      walk_at "dl"
      refine draw_nat (n := ns.length) rfl (by omega) (by omega) I9.nd (by omega) I9.src fun r4 M10 b4 nd10 S10 f10 => ?_
      have I10 := I9.draw nd10 S10 f10
      refine ix_map .str b4 ?_
      walk_at "dl"
      refine ⟨len_le_line (n := 3), ?_⟩
      walk_at "dl"
      refine ⟨.lst (.ptr I10.hm), ?_⟩
      walk_at "dl"
      refine isS_len (.ptr I10.hm) ?_
      rw [List.length_map]
      have := I10.len
      walk_at "dl"
      refine draw_nat (n := bd.length + 1) (by omega) (by omega) (by omega) I10.nd (by omega) I10.src fun r5 M11 b5 nd11 S11 f11 => ?_
      have I11 := I10.draw nd11 S11 f11
      walk_at "dl"
      have e : (1 : Int) + (r3 : Int) = ((1 + r3 : Nat) : Int) := by omega
      rw [e]
      exact I11.ins (s := .call (1 + r3) ns[r4]) (by omega) ⟨by omega, by omega, List.getElem_mem b4⟩ (by omega) fun bd' M12 I12 => hgo _ _ ⟨bd', ⟨_, _, _, _, _, rfl⟩, I12.more (by omega) (by omega)⟩
    · obtain ⟨bd, ⟨x8, x9, x10, x11, x12, rfl⟩, I⟩ := hP
      rw [rng_len] at I
      exact g_ret (fin bd _ _ _ _ (by omega) (I.more (by omega) (Nat.le_refl _)) rfl)
  refine g_iff' (by simp [hql]) ?_
  walk_at "dl"
  -- the children
  have hto : ∀ (ρ : Rho) (R : D → Mem → Prop) (E : XD), at_ ρ 6 = some (.int (w : Nat)) → (∀ m : Nat, m ≤ w → R (.int ((m : Int) + 1)) M7) → if (decide ((turn : Int) = quiet) != true) = true then dOp rAdd (dVar 6) (dC (.int 1)) ρ M7 R E else dC (.int 1) ρ M7 R E := by
    intro ρ R E h6 kR
    by_cases e : (turn : Int) = quiet
    · exact g_iff' (by simp [e]) (kR 0 (Nat.zero_le _))
    · exact g_ift (by simp [e]) (g_op (g_var h6 (g_c (.int (kR w (Nat.le_refl _))))))
  refine hto _ _ _ rfl fun m2 hm2 => ?_
  walk_at "dl"
  refine ⟨_, _, rfl, ⟨by omega, by omega, by omega, by omega⟩, ?_⟩
  rw [show ((m2 : Int) + 1 - 1).toNat = m2 by omega]
  let P : Nat → Rho → Mem → Prop := fun i ρ M' => ∃ bd, (∃ x8 x9 x10 x11 x12, ρ = [some (.ptr p), some (kdL r), some (.lst (fs.map .str)), some (.lst (ns.map .str)), some (.int (turn : Nat)), some (.int quiet), some (.int (w : Nat)), some (.ptr h), x8, x9, x10, x11, x12]) ∧ BI p c h fs ns w (b + 24 + 3 * i) (2 + i) bd M M'
  refine goF_inv P (fun _ _ _ _ => trivial) (fun i d ρ M' hd hP go hgo => ?_) (fun ρ M' hP => ?_) ⟨bd, ⟨_, _, _, _, _, rfl⟩, I7.more (by omega) (by omega)⟩
  · obtain ⟨hi, rfl⟩ := rng_at hd
    obtain ⟨bd, ⟨x8, x9, x10, x11, x12, rfl⟩, I⟩ := hP
    walk_at "dl"
    refine draw_nat (n := 4) rfl (by decide) (by decide) I.nd (by omega) I.src fun r3 M9 b3 nd9 S9 f9 => ?_
    have I9 := I.draw nd9 S9 f9
    walk_at "dl"
    refine ix_map .str ht ?_
    walk_at "dl"
    -- the callee
    refine g_join (fun ρ' M' => ∃ x, x ∈ ns ∧ BI p c h fs ns w (b + 24 + 3 * i + 2) (2 + i) bd M M' ∧ (∃ x8 x9, ρ' = [some (.ptr p), some (kdL r), some (.lst (fs.map .str)), some (.lst (ns.map .str)), some (.int (turn : Nat)), some (.int quiet), some (.int (w : Nat)), some (.ptr h), x8, x9, some (.int (1 + (i : Int))), some (.int (r3 : Nat)), some (.str x)])) (fun nx' hn' => ?_) fun ρ' M10 hC => ?_
    · by_cases h2' : r3 = 2
      · refine g_ift (by simp [h2']) ?_
        walk_at "dl"
        refine isS_len (.lst _) ?_
        rw [List.length_map]
        walk_at "dl"
        refine draw_nat (n := ns.length) rfl (by omega) (by omega) I9.nd (by omega) I9.src fun r4 M10 b4 nd10 S10 f10 => ?_
        refine ix_map .str b4 ?_
        walk_at "dl"
        exact hn' _ _ ⟨_, List.getElem_mem b4, I9.draw nd10 S10 f10, _, _, rfl⟩
      · refine g_iff' (by simp; omega) ?_
        walk_at "dl"
        exact hn' _ _ ⟨_, List.getElem_mem ht, I9.more (by omega) (Nat.le_refl _), _, _, rfl⟩
    obtain ⟨x, hx, I10, x8, x9, rfl⟩ := hC
    walk_at "dl"
    by_cases h3' : (r3 : Int) < 3
    · refine g_ift (by simpa using h3') ?_
      walk_at "dl"
      refine ⟨.lst (.ptr I10.hm), ?_⟩
      walk_at "dl"
      refine isS_len (.ptr I10.hm) ?_
      rw [List.length_map]
      have := I10.len
      walk_at "dl"
      refine draw_nat (n := bd.length + 1) (by omega) (by omega) (by omega) I10.nd (by omega) I10.src fun r5 M11 b5 nd11 S11 f11 => ?_
      have I11 := I10.draw nd11 S11 f11
      walk_at "dl"
      refine ⟨len_le_line (n := 3), ?_⟩
      walk_at "dl"
      have e : (1 : Int) + (i : Int) = ((1 + i : Nat) : Int) := by omega
      rw [e]
      exact I11.ins (s := .call (1 + i) x) (by omega) ⟨by omega, by omega, hx⟩ (by omega) fun bd' M12 I12 => hgo _ _ ⟨bd', ⟨_, _, _, _, _, rfl⟩, I12.more (by omega) (by omega)⟩
    · refine g_iff' (by simpa using h3') ?_
      walk_at "dl"
      exact hgo _ _ ⟨bd, ⟨_, _, _, _, _, rfl⟩, I10.more (by omega) (by omega)⟩
  obtain ⟨bd, ⟨x8, x9, x10, x11, x12, rfl⟩, I⟩ := hP
  rw [rng_len] at I
  have I20 : BI p c h fs ns w (b + 24 + 9) 5 bd M M' := I.more (by omega) (by omega)
  -- the last call
  walk_at "dl"
  have last : ∀ (ρ : Rho) (M' : Mem), BI p c h fs ns w (b + 24 + 10) 5 bd M M' → at_ ρ 7 = some (.ptr h) → sRet (dZK K (dVar 7)) (fun _ M' => Qd .non M') Qd (fun _ _ => False) (fun _ _ => False) (fun C dd _ M' => Ed C dd M') ρ M' := fun ρ M' I h7 => g_ret (fin bd 5 _ _ _ (by omega) (I.more (by omega) (Nat.le_refl _)) h7)
  by_cases e1 : (turn : Int) = quiet
  · refine g_iff' (by simp [e1]) ?_
    exact g_iff' rfl (g_next (last _ _ (I20.more (by omega) (Nat.le_refl _)) rfl))
  refine g_ift (by simp [e1]) ?_
  walk_at "dl"
  by_cases e2 : quiet < 0
  · refine g_iff' (by simpa using e2) ?_
    exact g_iff' rfl (g_next (last _ _ (I20.more (by omega) (Nat.le_refl _)) rfl))
  refine g_ift (by simpa using e2) ?_
  walk_at "dl"
  by_cases e3 : w = 0
  · refine g_iff' (by simp [e3]) ?_
    exact g_iff' rfl (g_next (last _ _ (I20.more (by omega) (Nat.le_refl _)) rfl))
  refine g_ift (by simp; omega) ?_
  walk_at "dl"
  refine draw_nat (n := 2) rfl (by decide) (by decide) I20.nd (by omega) I20.src fun r6 M9 b6 nd9 S9 f9 => ?_
  have I21 := I20.draw nd9 S9 f9
  walk_at "dl"
  by_cases e4 : ¬ r6 = 1
  · refine g_iff' (by simp; omega) ?_
    exact g_next (last _ _ I21 rfl)
  refine g_ift (by simp; omega) ?_
  walk_at "dl"
  refine ⟨.lst (.ptr I21.hm), ?_⟩
  walk_at "dl"
  refine isS_len (.ptr I21.hm) ?_
  rw [List.length_map]
  have := I21.len
  walk_at "dl"
  refine draw_nat (n := bd.length + 1) (by omega) (by omega) (by omega) I21.nd (by omega) I21.src fun r7 M10 b7 nd10 S10 f10 => ?_
  have I22 := I21.draw nd10 S10 f10
  walk_at "dl"
  refine draw_nat (n := w) rfl (by omega) (by omega) I22.nd (by omega) I22.src fun r8 M11 b8 nd11 S11 f11 => ?_
  have I23 := I22.draw nd11 S11 f11
  walk_at "dl"
  have hq' : quiet.toNat < ns.length := by omega
  have eq' : quiet = ((quiet.toNat : Nat) : Int) := by omega
  rw [eq']
  refine ix_map .str hq' ?_
  walk_at "dl"
  refine ⟨len_le_line (n := 3), ?_⟩
  walk_at "dl"
  have e : (1 : Int) + (r8 : Int) = ((1 + r8 : Nat) : Int) := by omega
  rw [e]
  exact I23.ins (s := .call (1 + r8) ns[quiet.toNat]) (by omega) ⟨by omega, by omega, List.getElem_mem hq'⟩ (by omega) fun bd' M12 I24 => g_ret (fin bd' 6 _ _ _ (by omega) (I24.more (by omega) (Nat.le_refl _)) rfl)
end
end DL
namespace DL
variable [Wd]
open PySem L2 PySem.Spec PyProof.Rows
/-! ### walks, as the laws draw them -/
section
variable {M : Mem} {K : PySem.W.Frag} {ds : List D} {Qd : D → Mem → Prop} {Ed : XD}
abbrev Bs := List (Str × List Stm)
abbrev Ws := List (Str × Bs)
def bsE (v : Stm → D) (bs : Bs) : List (Key × D) := bs.map fun x => (.inr x.1, .lst (x.2.map v))
def wsE (v : Stm → D) (ws : Ws) : List (Key × D) := ws.map fun x => (.inr x.1, .dic (bsE v x.2))
def wsD (ws : Ws) : D := .dic (wsE stD ws)
def wsL (ws : Ws) : D := .dic (wsE stL ws)
def namesW (ws : Ws) : List Str := ws.map (·.1)
structure BsOk (fs ns : List Str) (rs : List Kd) (bs : Bs) : Prop where
  nd : (bs.map (·.1)).Nodup
  ok : ∀ x ∈ bs, ∃ r ∈ rs, r.n = x.1 ∧ x.2.length ≤ 6 ∧ ∀ s ∈ x.2, StOk fs ns r.ch.length s
structure WsOk (fs : List Str) (rs : List Kd) (ws : Ws) : Prop where
  nd : (namesW ws).Nodup
  nm : ∀ x ∈ namesW ws, NameOk x
  l1 : 1 ≤ ws.length
  l3 : ws.length ≤ 3
  ok : ∀ x ∈ ws, BsOk fs (namesW ws) rs x.2
theorem look_map {α : Type} (k : α → Str) (v : α → D) : ∀ {xs : List α}, (xs.map k).Nodup → ∀ {x : α}, x ∈ xs → lookD (xs.map fun x => ((Sum.inr (k x) : Key), v x)) (.inr (k x)) = some (v x)
  | q :: xs, h, x, hx => by
    rw [List.map_cons, List.nodup_cons] at h
    unfold lookD
    rw [List.map_cons, List.find?_cons]
    rcases List.mem_cons.mp hx with e | e
    · subst e; simp
    · have : ¬ (Sum.inr (k q) : Key) = Sum.inr (k x) := fun z => h.1 (by rw [Sum.inr.inj z]; exact List.mem_map.mpr ⟨x, e, rfl⟩)
      simp only [this, decide_false]
      exact look_map k v h.2 e
theorem put_fresh {α : Type} (k : α → Str) (v : α → D) {xs : List α} {x : α} (h : k x ∉ xs.map k) : putD (xs.map fun x => ((Sum.inr (k x) : Key), v x)) (.inr (k x)) (v x) = (xs ++ [x]).map fun x => ((Sum.inr (k x) : Key), v x) := by
  rw [put_new_key, List.map_append]
  · rfl
  · intro e he
    obtain ⟨q, hq, rfl⟩ := List.mem_map.mp he
    exact fun z => h (by rw [← Sum.inr.inj z]; exact List.mem_map.mpr ⟨q, hq, rfl⟩)
theorem g_seqj {t u : DS} {nx : NX} {rt : D → Mem → Prop} {bk ct : NX} {ex : Addr → Addr → Rho → Mem → Prop} {ρ : Rho} (C : Rho → Mem → Prop) (ht : ∀ nx' : NX, (∀ ρ' M', C ρ' M' → nx' ρ' M') → t nx' rt bk ct ex ρ M) (hu : ∀ ρ' M', C ρ' M' → u nx rt bk ct ex ρ' M') : sSeq t u nx rt bk ct ex ρ M := ht _ hu
def dWalks (sdD sdN sdB : SpD) (K : PySem.W.Frag) : DS := sSeq (sAsg (dZK K (dCall sdN (dCons (dVar 0) (dCons (dOp rAdd (dC (.int 1)) (dCall sdD (dCons (dVar 0) (dCons (dC (.int 3)) (dNil))))) (dNil))))) (gNm 3)) (sSeq (sAsg (dCall sdD (dCons (dVar 0) (dCons (dC (.int 3)) (dNil)))) (gNm 4)) (sSeq (sAsg (dOp rSub (dC (.int 0)) (dC (.int 1))) (gNm 5)) (sSeq (sIf (dAnd (dB (dOp rEq (dVar 4) (dC (.int 1)))) (dB (dOp rGt (dCB rLen (dCons (dVar 3) (dNil))) (dC (.int 1))))) (sAsg (dOp rSub (dCB rLen (dCons (dVar 3) (dNil))) (dC (.int 1))) (gNm 5)) (sNext)) (sSeq (sIf (dB (dOp rEq (dVar 4) (dC (.int 2)))) (sAsg (dCB rLen (dCons (dVar 3) (dNil))) (gNm 5)) (sNext)) (sSeq (sAsg (dDic) (gNm 6)) (sSeq (sFor (iRg1 (dCons (dCB rLen (dCons (dVar 3) (dNil))) (dNil))) (gNm 7) (sSeq (sAsg (dDic) (gNm 8)) (sSeq (sFor (iAny (dVar 2)) (gNm 9) (sIf (dB (dOp rNe (dCall sdD (dCons (dVar 0) (dCons (dC (.int 8)) (dNil)))) (dC (.int 7)))) (sAsg (dZK K (dCall sdB (dCons (dVar 0) (dCons (dVar 9) (dCons (dVar 1) (dCons (dVar 3) (dCons (dVar 7) (dCons (dVar 5) (dNil))))))))) (gSub (dVar 8) (dOp rIx (dVar 9) (dC (.int 0))))) (sNext))) (sAsg (dZK K (dVar 8)) (gSub (dVar 6) (dOp rIx (dVar 3) (dVar 7))))))) (sRet (dZK K (dVar 6)))))))))
def spWalks : SpD := fun ds M Q _ => ∃ (p c : Addr) (fs : List Str) (rs : List Kd) (b : Nat), ds = [.ptr p, .lst (fs.map .str), .lst (rs.map kdL)] ∧ 1 ≤ fs.length ∧ fs.length ≤ 100 ∧ rs.length ≤ 8 ∧ (rs.map (·.n)).Nodup ∧ (∀ r ∈ rs, r.ch.length ≤ 3) ∧ Nd M ∧ b < 500000 ∧ Src p c b M ∧ ∀ ws M', WsOk fs rs ws → Nd M' → Src p c (b + 2000) M' → Fr [p, c] M M' → Q (wsD ws) M'
theorem fr3 {p c h : Addr} {M0 M M' : Mem} (hh : Free h M0) (f : Fr [p, c, h] M0 M) (g : Fr [h] M M') : Fr [p, c] M0 M' := fun x m hx hm => by
  have n := ne_free hh hm
  refine g _ _ (not_mem1 n) (f _ _ (fun e => ?_) hm)
  rcases List.mem_cons.mp e with e | e
  · exact hx (by rw [e]; exact List.mem_cons_self)
  rcases List.mem_cons.mp e with e | e
  · exact hx (by rw [e]; exact List.mem_cons_of_mem _ List.mem_cons_self)
  · exact n (List.mem_singleton.mp e)
theorem pureWalks {y0 y1 y2 y3 y4 y5 y6 y7 y8 y9 : Str} (h : spWalks ds M Qd Ed) : dWalks spDraw spNames spBody K (fun _ M' => Qd .non M') Qd (fun _ _ => False) (fun _ _ => False) (fun C dd _ M' => Ed C dd M') (start0 [y0, y1, y2, y3, y4, y5, y6, y7, y8, y9] ds) M := by
  obtain ⟨p, c, fs, rs, b, rfl, h1, h2, h8, hrn, hch, nd, hb, S, kQ⟩ := h
  unfold dWalks
  walk_at "dl"
  refine draw_nat (n := 3) rfl (by decide) (by decide) nd (by omega) S fun r1 M1 b1 nd1 S1 f1 => ?_
  walk_at "dl"
  refine ⟨p, c, _, 1 + r1, by rw [show (1 : Int) + (r1 : Int) = ((1 + r1 : Nat) : Int) by omega], by omega, nd1, by omega, S1, fun ns a M2 hns hnn hno nd2 S2 ha2 hap hac hm2 f2 => ?_⟩
  obtain ⟨M3, U3⟩ := del_ex nd2 hm2
  refine ⟨_, M3, .one U3.up rfl, ?_⟩
  have S3 := S2.fr U3.fr (not_mem1 (Ne.symm hap)) (not_mem1 (Ne.symm hac))
  have f3 : Fr [p, c] M M3 := fun x m hx hm => by
    have h1 := f1 _ _ hx hm
    exact U3.fr _ _ (not_mem1 (Ne.symm (fun e => ha2 m (by rw [e]; exact h1)))) (f2 _ _ hx h1)
  walk_at "dl"
  refine draw_nat (n := 3) rfl (by decide) (by decide) U3.nd (by omega) S3 fun r4 M4 b4 nd4 S4 f4 => ?_
  have f04 := f3.trans f4
  refine g_nm (g_seq (g_asg (g_op (g_c (g_c (.int (g_nm ?_)))))))
  -- the quiet one
  refine g_seqj (fun ρ' M' => ∃ q : Int, q ≤ ns.length ∧ M' = M4 ∧ ρ' = [some (.ptr p), some (.lst (fs.map .str)), some (.lst (rs.map kdL)), some (.lst (ns.map .str)), some (.int (r4 : Nat)), some (.int q), none, none, none, none]) (fun nx' hn' => ?_) fun ρ' M' hC => ?_
  · walk_at "dl"
    by_cases e1 : (r4 : Int) = 1
    · refine g_ift (by simp [e1]) ?_
      walk_at "dl"
      refine isS_len (.lst _) ?_
      rw [List.length_map]
      walk_at "dl"
      by_cases e2 : (1 : Int) < (ns.length : Nat)
      · refine g_ift (by simpa using e2) ?_
        walk_at "dl"
        refine isS_len (.lst _) ?_
        rw [List.length_map]
        walk_at "dl"
        exact hn' _ _ ⟨_, by omega, rfl, rfl⟩
      · refine g_iff' (by simpa using e2) ?_
        walk_at "dl"
        exact hn' _ _ ⟨_, by omega, rfl, rfl⟩
    · refine g_iff' (by simpa using e1) ?_
      walk_at "dl"
      refine g_iff' rfl ?_
      walk_at "dl"
      exact hn' _ _ ⟨_, by omega, rfl, rfl⟩
  obtain ⟨q, hq, rfl, rfl⟩ := hC
  refine g_seqj (fun ρ' M'' => ∃ q : Int, q ≤ ns.length ∧ M'' = M' ∧ ρ' = [some (.ptr p), some (.lst (fs.map .str)), some (.lst (rs.map kdL)), some (.lst (ns.map .str)), some (.int (r4 : Nat)), some (.int q), none, none, none, none]) (fun nx' hn' => ?_) fun ρ' M'' hC => ?_
  · walk_at "dl"
    by_cases e1 : (r4 : Int) = 2
    · refine g_ift (by simp [e1]) ?_
      walk_at "dl"
      refine isS_len (.lst _) ?_
      rw [List.length_map]
      walk_at "dl"
      exact hn' _ _ ⟨_, by omega, rfl, rfl⟩
    · refine g_iff' (by simpa using e1) ?_
      walk_at "dl"
      exact hn' _ _ ⟨_, hq, rfl, rfl⟩
  obtain ⟨q, hq, rfl, rfl⟩ := hC
  -- the walks
  walk_at "dl"
  refine .inl (.inr fun h hh => ?_)
  have nh := src_ne S4 hh
  walk_at "dl"
  refine isS_len (.lst _) ?_
  rw [List.length_map]
  walk_at "dl"
  refine ⟨by omega, by omega, ?_⟩
  let P : Nat → Rho → Mem → Prop := fun i ρ M' => ∃ ws : Ws, (∃ x7 x8 x9, ρ = [some (.ptr p), some (.lst (fs.map .str)), some (.lst (rs.map kdL)), some (.lst (ns.map .str)), some (.int (r4 : Nat)), some (.int q), some (.ptr h), x7, x8, x9]) ∧ namesW ws = ns.take i ∧ (∀ x ∈ ws, BsOk fs ns rs x.2) ∧ Nd M' ∧ Src p c (b + 8 + 410 * i) M' ∧ (h, MO.dic (wsE stD ws)) ∈ M' ∧ Fr [p, c, h] M M'
  refine goF_inv P (fun _ _ _ _ => trivial) (fun i d ρ M5 hd hP go hgo => ?_) (fun ρ M5 hP => ?_) ⟨[], ⟨_, _, _, rfl⟩, rfl, by simp, nd_new hh nd4, (S4.fr (ps := []) Fr.refl.cons (by simp) (by simp)).more (by omega), List.mem_cons_self, (fr_sub f04 (by simp)).trans Fr.refl.cons⟩
  · obtain ⟨hi, rfl⟩ := rng_at hd
    have hi' : i < ns.length := by omega
    obtain ⟨ws, ⟨x7, x8, x9, rfl⟩, hws, hok, nd5, S5, hm5, f5⟩ := hP
    walk_at "dl"
    refine .inl (.inr fun k hk => ?_)
    have nk := src_ne S5 hk
    have hkh := ne_free hk hm5
    walk_at "dl"
    refine ⟨_, _, .lst (.lst _), ?_⟩
    let P2 : Nat → Rho → Mem → Prop := fun j ρ M' => ∃ bs : Bs, (∃ x9, ρ = [some (.ptr p), some (.lst (fs.map .str)), some (.lst (rs.map kdL)), some (.lst (ns.map .str)), some (.int (r4 : Nat)), some (.int q), some (.ptr h), some (.int (0 + (i : Int))), some (.ptr k), x9]) ∧ (bs.map (·.1)).Sublist ((rs.map (·.n)).take j) ∧ (∀ x ∈ bs, ∃ r ∈ rs, r.n = x.1 ∧ x.2.length ≤ 6 ∧ ∀ s ∈ x.2, StOk fs ns r.ch.length s) ∧ Nd M' ∧ Src p c (b + 8 + 410 * i + 51 * j) M' ∧ (k, MO.dic (bsE stD bs)) ∈ M' ∧ Fr [p, c, k] M5 M'
    refine goF_inv P2 (fun _ _ _ _ => trivial) (fun j d2 ρ M6 hd2 hP go2 hgo2 => ?_) (fun ρ M6 hP => ?_) ⟨[], ⟨_, rfl⟩, List.nil_sublist _, by simp, nd_new hk nd5, (S5.fr (ps := []) Fr.refl.cons (by simp) (by simp)).more (by omega), List.mem_cons_self, Fr.refl.cons⟩
    · obtain ⟨hj, ej⟩ := List.getElem?_eq_some_iff.mp hd2
      rw [List.length_map] at hj
      rw [List.getElem_map] at ej
      subst ej
      obtain ⟨bs, ⟨x9, rfl⟩, hsub, hbs, nd6, S6, hm6, f6⟩ := hP
      have hr : rs[j] ∈ rs := List.getElem_mem hj
      have htk : (rs.map (·.n)).take (j + 1) = (rs.map (·.n)).take j ++ [rs[j].n] := by
        rw [List.take_succ, List.getElem?_map, List.getElem?_eq_getElem hj]
        rfl
      walk_at "dl"
      refine draw_nat (n := 8) rfl (by decide) (by decide) nd6 (by omega) S6 fun r7 M7 b7 nd7 S7 f7 => ?_
      have hm7 := f7 _ _ (not_mem2 (Ne.symm nk.1) (Ne.symm nk.2)) hm6
      have f67 : Fr [p, c, k] M5 M7 := f6.trans (fr_sub f7 (by simp))
      walk_at "dl"
      by_cases e7 : (r7 : Int) = 7
      · refine g_iff' (by simp [e7]) ?_
        walk_at "dl"
        exact hgo2 _ _ ⟨bs, ⟨_, rfl⟩, by rw [htk]; exact hsub.trans (List.sublist_append_left _ _), hbs, nd7, S7.more (by omega), hm7, f67⟩
      · refine g_ift (by simpa using e7) ?_
        walk_at "dl"
        refine ⟨p, c, rs[j], fs, ns, i, _, q, by rw [Int.zero_add], h1, h2, hch _ hr, hi', by omega, hq, nd7, by omega, S7, fun bd M8 hbd hbl nd8 S8 f8 => ?_⟩
        refine ⟨_, _, .refl, ?_⟩
        have hm8 := f8 _ _ (not_mem2 (Ne.symm nk.1) (Ne.symm nk.2)) hm7
        walk_at "dl"
        refine ixt0 ?_
        have hnew : rs[j].n ∉ bs.map (·.1) := fun z => by
          have hn : ((rs.map (·.n)).take (j + 1)).Nodup := List.Nodup.sublist (List.take_sublist _ _) hrn
          rw [htk] at hn
          exact (List.nodup_append.mp hn).2.2 _ (hsub.subset z) _ List.mem_cons_self rfl
        obtain ⟨M9, U9⟩ := upd_ex (n := .dic (putD (bsE stD bs) (.inr rs[j].n) (.lst (bd.map stD)))) nd8 hm8
        have hbl8 : bs.length ≤ 8 := by
          have := hsub.length_le
          rw [List.length_map, List.length_take, List.length_map] at this
          omega
        refine SetQ.dic (k := .inr rs[j].n) U9.up (lt_line (by unfold bsE; rw [List.length_map]; omega)) (hgo2 _ _ ⟨bs ++ [(rs[j].n, bd)], ⟨_, rfl⟩, ?_, fun x hx => ?_, U9.nd, (S8.fr U9.fr (not_mem1 nk.1) (not_mem1 nk.2)).more (by omega), ?_, (f67.trans (fr_sub f8 (by simp))).trans (fr_sub U9.fr (by simp))⟩)
        · rw [htk, List.map_append]
          exact hsub.append (List.Sublist.refl _)
        · rcases List.mem_append.mp hx with e | e
          · exact hbs x e
          · rw [List.mem_singleton.mp e]
            exact ⟨rs[j], hr, rfl, hbl, hbd⟩
        · have e := U9.at_
          rw [show putD (bsE stD bs) (.inr rs[j].n) (.lst (bd.map stD)) = bsE stD (bs ++ [(rs[j].n, bd)]) from put_fresh (fun x : Str × List Stm => x.1) (fun x => D.lst (x.2.map stD)) (x := (rs[j].n, bd)) hnew] at e
          exact e
    obtain ⟨bs, ⟨x9, rfl⟩, hsub, hbs, nd6, S6, hm6, f6⟩ := hP
    rw [List.length_map] at hsub S6
    obtain ⟨M7, U7⟩ := del_ex nd6 hm6
    have f57 : Fr [p, c] M5 M7 := fr3 hk f6 U7.fr
    have hm7 := f57 _ _ (not_mem2 (Ne.symm nh.1) (Ne.symm nh.2)) hm5
    have S7 := S6.fr U7.fr (not_mem1 nk.1) (not_mem1 nk.2)
    walk_at "dl"
    refine ⟨_, M7, .one U7.up rfl, ?_⟩
    walk_at "dl"
    refine ixq_lst (atI_nat' (j := i) (x := .str ns[i]) (by omega) (by rw [List.getElem?_map]; simp [hi'])) ?_
    have htk : ns.take (i + 1) = ns.take i ++ [ns[i]] := by
      rw [List.take_succ, List.getElem?_eq_getElem hi']
      rfl
    have hnew : ns[i] ∉ ws.map (·.1) := fun z => by
      have hn : (ns.take (i + 1)).Nodup := List.Nodup.sublist (List.take_sublist _ _) hnn
      rw [htk] at hn
      have z' : ns[i] ∈ ns.take i := by rw [← hws]; exact z
      exact (List.nodup_append.mp hn).2.2 _ z' _ List.mem_cons_self rfl
    have hwl : ws.length ≤ 3 := by
      have := congrArg List.length hws
      unfold namesW at this
      rw [List.length_map, List.length_take] at this
      omega
    obtain ⟨M9, U9⟩ := upd_ex (n := .dic (putD (wsE stD ws) (.inr ns[i]) (.dic (bsE stD bs)))) U7.nd hm7
    refine SetQ.dic (k := .inr ns[i]) U9.up (lt_line (by unfold wsE; rw [List.length_map]; omega)) (hgo _ _ ⟨ws ++ [(ns[i], bs)], ⟨_, _, _, rfl⟩, ?_, fun x hx => ?_, U9.nd, (S7.fr U9.fr (not_mem1 nh.1) (not_mem1 nh.2)).more (by omega), ?_, (f5.trans (fr_sub f57 (by simp))).trans (fr_sub U9.fr (by simp))⟩)
    · unfold namesW at hws ⊢
      rw [htk, List.map_append, hws]
      rfl
    · rcases List.mem_append.mp hx with e | e
      · exact hok x e
      · rw [List.mem_singleton.mp e]
        exact ⟨List.Nodup.sublist (hsub.trans (List.take_sublist _ _)) hrn, hbs⟩
    · have e := U9.at_
      rw [show putD (wsE stD ws) (.inr ns[i]) (.dic (bsE stD bs)) = wsE stD (ws ++ [(ns[i], bs)]) from put_fresh (fun x : Str × Bs => x.1) (fun x => D.dic (bsE stD x.2)) (x := (ns[i], bs)) hnew] at e
      exact e
  obtain ⟨ws, ⟨x7, x8, x9, rfl⟩, hws, hok, nd5, S5, hm5, f5⟩ := hP
  rw [rng_len] at hws S5
  rw [List.take_of_length_le (by omega)] at hws
  obtain ⟨M7, U7⟩ := del_ex nd5 hm5
  have hwl : ws.length = ns.length := by rw [← hws]; unfold namesW; rw [List.length_map]
  walk_at "dl"
  refine ⟨_, M7, .one U7.up rfl, kQ ws M7 ⟨by rw [hws]; exact hnn, by rw [hws]; exact hno, by omega, by omega, fun x hx => by rw [hws]; exact hok x hx⟩ U7.nd ((S5.fr U7.fr (not_mem1 nh.1) (not_mem1 nh.2)).more (by omega)) fun x m hx hm => ?_⟩
  have hxh := ne_free hh (f04 _ _ hx hm)
  exact U7.fr _ _ (not_mem1 hxh) (f5 _ _ (fun e => by
    rcases List.mem_cons.mp e with e | e
    · exact hx (by rw [e]; exact List.mem_cons_self)
    rcases List.mem_cons.mp e with e | e
    · exact hx (by rw [e]; exact List.mem_cons_of_mem _ List.mem_cons_self)
    · exact hxh (List.mem_singleton.mp e)) hm)
end
end DL
namespace DL
variable [Wd]
open PySem L2 PySem.Spec PyProof.Rows
/-! ### rows, systems, and what is handed to Program -/
section
variable {M : Mem} {K : PySem.W.Frag} {ds : List D} {Qd : D → Mem → Prop} {Ed : XD}
def dRow (sdD : SpD) : DS := sSeq (sAsg (dCB rList (dCons (dVar 1) (dNil))) (gNm 3)) (sSeq (sAsg (dOp rMod (dCB rInt (dCons (dOp rAdd (dC (.int 1)) (dCall sdD (dCons (dVar 0) (dCons (dOp rAdd (dVar 2) (dC (.int 1))) (dNil))))) (dNil))) (dOp rAdd (dVar 2) (dC (.int 1)))) (gNm 4)) (sRet (dLc (iRg1 (dCons (dVar 4) (dNil))) (.nm 5) (dYes) (dOp rIx (dVar 3) (dCall sdD (dCons (dVar 0) (dCons (dCB rLen (dCons (dVar 3) (dNil))) (dNil))))) [5])))
def spRow : SpD := fun ds M Q _ => ∃ (p c : Addr) (ws : Ws) (v : Stm → D) (most b : Nat), ds = [.ptr p, .dic (wsE v ws), .int (most : Nat)] ∧ 1 ≤ ws.length ∧ ws.length ≤ 100 ∧ most ≤ 100 ∧ Nd M ∧ b < 900000 ∧ Src p c b M ∧ ∀ (xs : List Str) M', (∀ x ∈ xs, x ∈ namesW ws) → xs.length ≤ most → Nd M' → Src p c (b + 1 + most) M' → Fr [p, c] M M' → Q (.lst (xs.map .str)) M'
theorem ws_keys (v : Stm → D) (ws : Ws) : (wsE v ws).map (fun kv : Key × D => keyD kv.1) = (namesW ws).map .str := by unfold wsE namesW; rw [List.map_map, List.map_map]; rfl
theorem bs_keys (v : Stm → D) (bs : Bs) : (bsE v bs).map (fun kv : Key × D => keyD kv.1) = (bs.map (·.1)).map .str := by unfold bsE; rw [List.map_map, List.map_map]; rfl
theorem pureRow {y0 y1 y2 y3 y4 y5 : Str} (h : spRow ds M Qd Ed) : dRow spDraw (fun _ M' => Qd .non M') Qd (fun _ _ => False) (fun _ _ => False) (fun C dd _ M' => Ed C dd M') (start0 [y0, y1, y2, y3, y4, y5] ds) M := by
  obtain ⟨p, c, ws, v, most, b, rfl, h1, h2, h3, nd, hb, S, kQ⟩ := h
  have hnl : (namesW ws).length = ws.length := by unfold namesW; rw [List.length_map]
  unfold dRow
  walk_at "dl"
  refine .dic (.dic _) (.inl ?_)
  rw [ws_keys]
  walk_at "dl"
  refine draw_nat (n := most + 1) (by omega) (by omega) (by omega) nd (by omega) S fun r1 M1 b1 nd1 S1 f1 => ?_
  walk_at "dl"
  refine ModR.int (by omega) ?_
  obtain ⟨m, hm, hm2⟩ : ∃ m : Nat, (1 + (r1 : Int)) % ((most : Int) + 1) = m ∧ m ≤ most := by
    have := Int.emod_nonneg (1 + (r1 : Int)) (show ((most : Int) + 1) ≠ 0 by omega)
    have := Int.emod_lt_of_pos (1 + (r1 : Int)) (show 0 < ((most : Int) + 1) by omega)
    exact ⟨((1 + (r1 : Int)) % ((most : Int) + 1)).toNat, by omega, by omega⟩
  rw [hm]
  walk_at "dl"
  refine ⟨by omega, by omega, ?_⟩
  unfold rng
  refine ⟨lt_line (by rw [List.length_map, List.length_range]; omega), lc_chg (fun i : Nat => D.int (0 + (i : Int))) (fun acc M6 => ∃ xs : List Str, acc = xs.map .str ∧ (∀ x ∈ xs, x ∈ namesW ws) ∧ Nd M6 ∧ Src p c (b + 1 + acc.length) M6 ∧ Fr [p, c] M M6) (fun _ _ _ => trivial) (done := []) rfl (fun i x acc M6 hx hal I P1 hP1 => ?_) (fun acc M6 hal I => .inl ?_) ⟨[], rfl, by simp, nd1, S1, f1⟩⟩
  · obtain ⟨xs, rfl, hxs, nd6, S6, f6⟩ := I
    have hi : i < m := by
      have := (List.getElem?_eq_some_iff.mp hx).1
      simpa using this
    rw [hal] at S6
    walk_at "dl"
    refine isS_len (.lst _) ?_
    rw [List.length_map]
    walk_at "dl"
    refine draw_nat (n := (namesW ws).length) rfl (by omega) (by omega) nd6 (by omega) S6 fun r7 M7 b7 nd7 S7 f7 => ?_
    refine ix_map .str b7 ?_
    refine hP1 _ _ ⟨xs ++ [(namesW ws)[r7]], by rw [List.map_append]; rfl, fun z hz => ?_, nd7, S7.more (by rw [List.length_append, hal]; simp; omega), f6.trans f7⟩
    rcases List.mem_append.mp hz with e | e
    · exact hxs z e
    · rw [List.mem_singleton.mp e]; exact List.getElem_mem b7
  obtain ⟨xs, rfl, hxs, nd6, S6, f6⟩ := I
  have hl : xs.length = m := by
    rw [List.nil_append, List.length_range, List.length_map] at hal
    omega
  exact kQ xs M6 hxs (by omega) nd6 (S6.more (by rw [List.length_map]; omega)) f6
/-- _law_system -/
def dSystem (sdD sdN sdK sdW : SpD) (K : PySem.W.Frag) : DS := sSeq (sAsg (dZK K (dCall sdN (dCons (dVar 0) (dCons (dOp rIx (dLst (dCons (dC (.int 1)) (dCons (dC (.int 2)) (dCons (dC (.int 3)) (dCons (dC (.int 4)) (dCons (dC (.int 2)) (dCons (dC (.int 3)) (dCons (dC (.int 5)) (dCons (dC (.int 6)) (dNil)))))))))) (dCall sdD (dCons (dVar 0) (dCons (dC (.int 8)) (dNil))))) (dNil))))) (gNm 3)) (sSeq (sAsg (dCall sdD (dCons (dVar 0) (dCons (dC (.int 4)) (dNil)))) (gNm 4)) (sSeq (sAsg (dZK K (dCall sdN (dCons (dVar 0) (dCons (dOp rAdd (dC (.int 1)) (dOp rMod (dCB rInt (dCons (dVar 4) (dNil))) (dC (.int 3)))) (dNil))))) (gNm 5)) (sSeq (sAsg (dZK K (dCall sdK (dCons (dVar 0) (dCons (dVar 5) (dCons (dVar 1) (dCons (dCB rMin (dCons (dC (.int 3)) (dCons (dOp rAdd (dVar 2) (dOp rDiv (dVar 4) (dC (.int 3)))) (dNil)))) (dNil))))))) (gNm 6)) (sRet (dLst (dCons (dVar 3) (dCons (dVar 6) (dCons (dZK K (dCall sdW (dCons (dVar 0) (dCons (dVar 3) (dCons (dVar 6) (dNil)))))) (dNil)))))))))
/-- a drawn system -/
structure SyOk (fs ms : List Str) (rs : List Kd) (ws : Ws) (e : Nat) : Prop where
  f1 : 1 ≤ fs.length
  f6 : fs.length ≤ 6
  fn : fs.Nodup
  fo : ∀ x ∈ fs, NameOk x
  m1 : 1 ≤ ms.length
  m3 : ms.length ≤ 3
  mo : ∀ x ∈ ms, NameOk x
  k : KOk ms rs e 3
  w : WsOk fs rs ws
def spSystem : SpD := fun ds M Q _ => ∃ (p c : Addr) (e w b : Nat), ds = [.ptr p, .int (e : Nat), .int (w : Nat)] ∧ e ≤ 5 ∧ w ≤ 3 ∧ Nd M ∧ b < 400000 ∧ Src p c b M ∧ ∀ fs ms rs ws M', SyOk fs ms rs ws e → Nd M' → Src p c (b + 3000) M' → Fr [p, c] M M' → Q (.lst [.lst (fs.map .str), .lst (rs.map kdL), wsD ws]) M'
theorem fr_frz {p c a : Addr} {M1 M2 M3 : Mem} (f : Fr [p, c] M1 M2) (u : Fr [a] M2 M3) (ha : Free a M1) : Fr [p, c] M1 M3 := fun x m hx hm => u _ _ (not_mem1 (ne_free ha hm)) (f _ _ hx hm)
theorem KOk.wider {fs : List Str} {rs : List Kd} {e w w' : Nat} (k : KOk fs rs e w) (h : w ≤ w') : KOk fs rs e w' := ⟨k.len, k.nd, k.nm, k.fam, k.cov, fun r hr => Nat.le_trans (k.cl r hr) h, k.ch, k.tr⟩
theorem pureSystem {y0 y1 y2 y3 y4 y5 y6 : Str} (h : spSystem ds M Qd Ed) : dSystem spDraw spNames spKinds spWalks K (fun _ M' => Qd .non M') Qd (fun _ _ => False) (fun _ _ => False) (fun C dd _ M' => Ed C dd M') (start0 [y0, y1, y2, y3, y4, y5, y6] ds) M := by
  obtain ⟨p, c, e, w, b, rfl, he, hw, nd, hb, S, kQ⟩ := h
  unfold dSystem
  walk_at "dl"
  refine ⟨len_le_line (n := 8), .inl ?_⟩
  walk_at "dl"
  refine draw_nat (n := 8) rfl (by decide) (by decide) nd (by omega) S fun r1 M1 b1 nd1 S1 f1 => ?_
  obtain ⟨m, hm, hm1, hm6⟩ : ∃ m : Nat, atI [D.int 1, D.int 2, D.int 3, D.int 4, D.int 2, D.int 3, D.int 5, D.int 6] (r1 : Int) = some (.int (m : Nat)) ∧ 1 ≤ m ∧ m ≤ 6 := by
    have : r1 = 0 ∨ r1 = 1 ∨ r1 = 2 ∨ r1 = 3 ∨ r1 = 4 ∨ r1 = 5 ∨ r1 = 6 ∨ r1 = 7 := by omega
    rcases this with rfl | rfl | rfl | rfl | rfl | rfl | rfl | rfl
    · exact ⟨1, rfl, by decide, by decide⟩
    · exact ⟨2, rfl, by decide, by decide⟩
    · exact ⟨3, rfl, by decide, by decide⟩
    · exact ⟨4, rfl, by decide, by decide⟩
    · exact ⟨2, rfl, by decide, by decide⟩
    · exact ⟨3, rfl, by decide, by decide⟩
    · exact ⟨5, rfl, by decide, by decide⟩
    · exact ⟨6, rfl, by decide, by decide⟩
  refine ixq_lst hm ?_
  walk_at "dl"
  refine ⟨p, c, _, m, rfl, by omega, nd1, by omega, S1, fun fs a M2 hfs hfn hfo nd2 S2 ha2 hap hac hm2 f2 => ?_⟩
  obtain ⟨M3, U3⟩ := del_ex nd2 hm2
  refine ⟨_, M3, .one U3.up rfl, ?_⟩
  have S3 := S2.fr U3.fr (not_mem1 (Ne.symm hap)) (not_mem1 (Ne.symm hac))
  have f3 := f1.trans (fr_frz f2 U3.fr ha2)
  walk_at "dl"
  refine draw_nat (n := 4) rfl (by decide) (by decide) U3.nd (by omega) S3 fun r4 M4 b4 nd4 S4 f4 => ?_
  walk_at "dl"
  refine ModR.int (by decide) ?_
  walk_at "dl"
  refine ⟨p, c, _, 1 + r4 % 3, by rw [show (1 : Int) + (r4 : Int) % 3 = ((1 + r4 % 3 : Nat) : Int) by omega], by omega, nd4, by omega, S4, fun ms a5 M5 hms hmn hmo nd5 S5 ha5 hap5 hac5 hm5 f5 => ?_⟩
  obtain ⟨M6, U6⟩ := del_ex nd5 hm5
  refine ⟨_, M6, .one U6.up rfl, ?_⟩
  have S6 := S5.fr U6.fr (not_mem1 (Ne.symm hap5)) (not_mem1 (Ne.symm hac5))
  have f6 := (f3.trans f4).trans (fr_frz f5 U6.fr ha5)
  walk_at "dl"
  refine DivR.int (wide_div (b := 10) (by decide) (by decide) (by decide) (by decide)) ?_
  walk_at "dl"
  refine .two ?_
  obtain ⟨wd, hwd, hwd3⟩ : ∃ wd : Nat, (if (w : Int) + (r4 : Int) / 3 < 3 then (w : Int) + (r4 : Int) / 3 else 3) = wd ∧ wd ≤ 3 := by
    by_cases z : (w : Int) + (r4 : Int) / 3 < 3
    · exact ⟨w + r4 / 3, by rw [if_pos z]; omega, by omega⟩
    · exact ⟨3, by rw [if_neg z]; rfl, by omega⟩
  rw [hwd]
  walk_at "dl"
  refine ⟨p, c, ms, e, wd, _, rfl, by omega, by omega, by omega, by omega, U6.nd, by omega, S6, fun rs M7 k nd7 S7 f7 => ?_⟩
  refine ⟨_, _, .refl, ?_⟩
  have k3 := k.wider hwd3
  have hrl := k.len
  walk_at "dl"
  refine ⟨p, c, fs, rs, _, rfl, by omega, by omega, by omega, k.nd, k3.cl, nd7, by omega, S7, fun ws M8 hws nd8 S8 f8 => ?_⟩
  refine ⟨_, _, .refl, ?_⟩
  exact ⟨len_le_line (n := 3), .inl (kQ fs ms rs ws M8 ⟨by omega, by omega, hfn, hfo, by omega, by omega, hmo, k3, hws⟩ nd8 (S8.more (by omega)) ((f6.trans f7).trans f8))⟩
/-- _law_handed, of frozen walks -/
def dHanded (sdL : SpD) (K : PySem.W.Frag) : DS := sSeq (sAsg (dDic) (gNm 1)) (sSeq (sFor (iAny (dVar 0)) (gNm 2) (sSeq (sAsg (dDic) (gNm 3)) (sSeq (sFor (iAny (dOp rIx (dVar 0) (dVar 2))) (gNm 4) (sAsg (dLc (iAny (dOp rIx (dOp rIx (dVar 0) (dVar 2)) (dVar 4))) (.nm 5) (dYes) (dZK K (dCall sdL (dCons (dVar 5) (dNil)))) [5]) (gSub (dVar 3) (dVar 4)))) (sAsg (dZK K (dVar 3)) (gSub (dVar 1) (dVar 2)))))) (sRet (dZK K (dVar 1))))
def spHanded : SpD := fun ds M Q _ => ∃ (ws : Ws), ds = [wsD ws] ∧ (namesW ws).Nodup ∧ ws.length ≤ 1000 ∧ (∀ x ∈ ws, (x.2.map (·.1)).Nodup ∧ x.2.length ≤ 1000 ∧ ∀ y ∈ x.2, y.2.length ≤ 1000) ∧ Nd M ∧ ∀ M', Nd M' → Fr [] M M' → Q (wsL ws) M'
theorem fr1 {h : Addr} {M0 M M' : Mem} (hh : Free h M0) (f : Fr [h] M0 M) (g : Fr [h] M M') : Fr [] M0 M' := fun x m _ hm => g _ _ (not_mem1 (ne_free hh hm)) (f _ _ (not_mem1 (ne_free hh hm)) hm)
theorem pureHanded {y0 y1 y2 y3 y4 y5 : Str} (h : spHanded ds M Qd Ed) : dHanded spListed K (fun _ M' => Qd .non M') Qd (fun _ _ => False) (fun _ _ => False) (fun C dd _ M' => Ed C dd M') (start0 [y0, y1, y2, y3, y4, y5] ds) M := by
  obtain ⟨ws, rfl, hn, hl, hb, nd, kQ⟩ := h
  unfold dHanded
  walk_at "dl"
  refine .inl (.inr fun h hh => ?_)
  walk_at "dl"
  refine ⟨_, _, .dic _, ?_⟩
  rw [ws_keys]
  let P : Nat → Rho → Mem → Prop := fun i ρ M' => (∃ x2 x3 x4 x5, ρ = [some (wsD ws), some (.ptr h), x2, x3, x4, x5]) ∧ Nd M' ∧ (h, MO.dic (wsE stL (ws.take i))) ∈ M' ∧ Fr [h] M M'
  refine goF_inv P (fun _ _ _ _ => trivial) (fun i d ρ M5 hd hP go hgo => ?_) (fun ρ M5 hP => ?_) ⟨⟨_, _, _, _, rfl⟩, nd_new hh nd, List.mem_cons_self, Fr.refl.cons⟩
  · obtain ⟨⟨x2, x3, x4, x5, rfl⟩, nd5, hm5, f5⟩ := hP
    obtain ⟨hi, ei⟩ := List.getElem?_eq_some_iff.mp hd
    unfold namesW at hi ei
    rw [List.length_map, List.length_map] at hi
    rw [List.getElem_map, List.getElem_map] at ei
    subst ei
    have hx : ws[i] ∈ ws := List.getElem_mem hi
    have htk : ws.take (i + 1) = ws.take i ++ [ws[i]] := by
      rw [List.take_succ, List.getElem?_eq_getElem hi]
      rfl
    have hnew : ws[i].1 ∉ (ws.take i).map (·.1) := fun z => by
      have hq : ((ws.take (i + 1)).map (·.1)).Nodup := List.Nodup.sublist ((List.take_sublist _ _).map _) hn
      rw [htk, List.map_append] at hq
      exact (List.nodup_append.mp hq).2.2 _ z _ List.mem_cons_self rfl
    generalize hwi : ws[i] = x at hx htk hnew
    obtain ⟨hbn, hbl, hbb⟩ := hb x hx
    have lw : lookD (wsE stD ws) (.inr x.1) = some (.dic (bsE stD x.2)) := look_map (fun x : Str × Bs => x.1) (fun x => D.dic (bsE stD x.2)) hn hx
    walk_at "dl"
    refine .inl (.inr fun k hk => ?_)
    have hkh := ne_free hk hm5
    walk_at "dl"
    refine .dic (k := .inr x.1) (.dic _) lw ?_
    walk_at "dl"
    refine ⟨_, _, .dic _, ?_⟩
    rw [bs_keys]
    let P2 : Nat → Rho → Mem → Prop := fun j ρ M' => (∃ x4 x5, ρ = [some (wsD ws), some (.ptr h), some (.str x.1), some (.ptr k), x4, x5]) ∧ Nd M' ∧ (k, MO.dic (bsE stL (x.2.take j))) ∈ M' ∧ Fr [k] M5 M'
    refine goF_inv P2 (fun _ _ _ _ => trivial) (fun j d2 ρ M6 hd2 hP go2 hgo2 => ?_) (fun ρ M6 hP => ?_) ⟨⟨_, _, rfl⟩, nd_new hk nd5, List.mem_cons_self, Fr.refl.cons⟩
    · obtain ⟨⟨x4, x5, rfl⟩, nd6, hm6, f6⟩ := hP
      obtain ⟨hj, ej⟩ := List.getElem?_eq_some_iff.mp hd2
      rw [List.length_map, List.length_map] at hj
      rw [List.getElem_map, List.getElem_map] at ej
      subst ej
      have hy : x.2[j] ∈ x.2 := List.getElem_mem hj
      have htk2 : x.2.take (j + 1) = x.2.take j ++ [x.2[j]] := by
        rw [List.take_succ, List.getElem?_eq_getElem hj]
        rfl
      have hnew2 : x.2[j].1 ∉ (x.2.take j).map (·.1) := fun z => by
        have hq : ((x.2.take (j + 1)).map (·.1)).Nodup := List.Nodup.sublist ((List.take_sublist _ _).map _) hbn
        rw [htk2, List.map_append] at hq
        exact (List.nodup_append.mp hq).2.2 _ z _ List.mem_cons_self rfl
      generalize x.2[j] = y at hy htk2 hnew2
      have lb : lookD (bsE stD x.2) (.inr y.1) = some (.lst (y.2.map stD)) := look_map (fun x : Str × List Stm => x.1) (fun x => D.lst (x.2.map stD)) hbn hy
      walk_at "dl"
      refine .dic (k := .inr x.1) (.dic _) lw ?_
      walk_at "dl"
      refine .dic (k := .inr y.1) (.dic _) lb ?_
      refine ⟨_, _, .lst (.lst _), lt_line (by rw [List.length_map]; have := hbb y hy; omega), lc_map stD stL trivial (fun s _ P1 h1 => ?_) (.inl ?_)⟩
      · walk_at "dl"
        exact ⟨s, rfl, _, _, .refl, h1⟩
      walk_at "dl"
      obtain ⟨M9, U9⟩ := upd_ex (n := .dic (putD (bsE stL (x.2.take j)) (.inr y.1) (.lst (y.2.map stL)))) nd6 hm6
      refine SetQ.dic (k := .inr y.1) U9.up (lt_line (by unfold bsE; rw [List.length_map, List.length_take]; omega)) (hgo2 _ _ ⟨⟨_, _, rfl⟩, U9.nd, ?_, f6.trans U9.fr⟩)
      have e := U9.at_
      rw [show putD (bsE stL (x.2.take j)) (.inr y.1) (.lst (y.2.map stL)) = bsE stL (x.2.take j ++ [y]) from put_fresh (fun x : Str × List Stm => x.1) (fun x => D.lst (x.2.map stL)) (x := y) hnew2] at e
      rw [htk2]
      exact e
    obtain ⟨⟨x4, x5, rfl⟩, nd6, hm6, f6⟩ := hP
    rw [List.length_map, List.length_map, List.take_of_length_le (Nat.le_refl _)] at hm6
    obtain ⟨M7, U7⟩ := del_ex nd6 hm6
    have f57 := fr1 hk f6 U7.fr
    have hm7 := f57 _ _ (by simp) hm5
    walk_at "dl"
    refine ⟨_, M7, .one U7.up rfl, ?_⟩
    walk_at "dl"
    obtain ⟨M9, U9⟩ := upd_ex (n := .dic (putD (wsE stL (ws.take i)) (.inr x.1) (.dic (bsE stL x.2)))) U7.nd hm7
    refine SetQ.dic (k := .inr x.1) U9.up (lt_line (by unfold wsE; rw [List.length_map, List.length_take]; omega)) (hgo _ _ ⟨⟨_, _, _, _, rfl⟩, U9.nd, ?_, (f5.trans (fr_sub f57 (by simp))).trans U9.fr⟩)
    have e := U9.at_
    rw [show putD (wsE stL (ws.take i)) (.inr x.1) (.dic (bsE stL x.2)) = wsE stL (ws.take i ++ [x]) from put_fresh (fun x : Str × Bs => x.1) (fun x => D.dic (bsE stL x.2)) (x := x) hnew] at e
    rw [htk]
    exact e
  obtain ⟨⟨x2, x3, x4, x5, rfl⟩, nd5, hm5, f5⟩ := hP
  unfold namesW at hm5
  rw [List.length_map, List.length_map, List.take_of_length_le (Nat.le_refl _)] at hm5
  obtain ⟨M7, U7⟩ := del_ex nd5 hm5
  walk_at "dl"
  exact ⟨_, M7, .one U7.up rfl, kQ M7 U7.nd (fr1 hh f5 U7.fr)⟩
end
end DL
namespace DL
variable [Wd]
open PySem L2 PySem.Spec PyProof.Rows
/-! ### the checks of a program's bodies -/
section
variable {M : Mem} {K : PySem.W.Frag} {ds : List D} {Qd : D → Mem → Prop} {Ed : XD}
theorem g_chain {ρ : Rho} {E : XD} {r r' : DR2} {da db dc : DE} {Q : D → Mem → Prop} (q : da ρ M (fun d M1 => db ρ M1 (fun e M2 => r d e M2 fun z M3 => ∃ k, z = .bl k ∧ if k = true then dc ρ M3 (fun f M4 => r' e f M4 Q) E else Q (.bl false) M3) E) E) : dChain r r' da db dc ρ M Q E := q
/-- what is never called -/
def spNo : SpD := fun _ _ _ _ => False
/-- a statement as it is written: its reads a tuple or a list -/
structure Vw (v : Stm → D) : Prop where
  call : ∀ c w, v (.call c w) = .tup [.str "call", .int (c : Nat), .str w]
  set : ∀ p f rs, ∃ X, v (.set p f rs) = .tup [.str "set", .int (p : Nat), .str f, X] ∧ (X = .tup (rs.map rdD) ∨ X = .lst (rs.map rdD))
theorem vw_t : Vw stD := ⟨fun _ _ => rfl, fun _ _ _ => ⟨_, rfl, .inl rfl⟩⟩
theorem vw_l : Vw stL := ⟨fun _ _ => rfl, fun _ _ _ => ⟨_, rfl, .inr rfl⟩⟩
theorem reads_S {X : D} {rs : List (Nat × Str)} (h : X = .tup (rs.map rdD) ∨ X = .lst (rs.map rdD)) : IsS M X (rs.map rdD) := by
  rcases h with rfl | rfl
  · exact .tup _
  · exact .lst _
def pgE (g : D) (ns : List Str) (bd : D) (ig : List Str) : List (Str × D) := [("grammar", g), ("names", .tup (ns.map .str)), ("_bodies", bd), ("_ignored", .tup (ig.map .str))]
structure PgOk (K : PySem.W.Frag) (C : Addr) : Prop where
  f1 : FldOk K C "grammar"
  f2 : FldOk K C "names"
  f3 : FldOk K C "_bodies"
  f4 : FldOk K C "_ignored"
theorem hg1 {g bd : D} {ns ig : List Str} : Has (pgE g ns bd ig) "grammar" g := .head
theorem hg2 {g bd : D} {ns ig : List Str} : Has (pgE g ns bd ig) "names" (.tup (ns.map .str)) := .tail (by decide) .head
theorem hg3 {g bd : D} {ns ig : List Str} : Has (pgE g ns bd ig) "_bodies" bd := .tail (by decide) (.tail (by decide) .head)
theorem hg4 {g bd : D} {ns ig : List Str} : Has (pgE g ns bd ig) "_ignored" (.tup (ig.map .str)) := .tail (by decide) (.tail (by decide) (.tail (by decide) .head))
theorem no_methP {g bd : D} {ns ig : List Str} {m : Str} (h : m ∉ (["grammar", "names", "_bodies", "_ignored"] : List Str)) : NoF m (pgE g ns bd ig) := by
  simp only [List.mem_cons, not_or] at h
  obtain ⟨h1, h2, h3, h4, _⟩ := h
  exact .cons (Ne.symm h1) (.cons (Ne.symm h2) (.cons (Ne.symm h3) (.cons (Ne.symm h4) .nil)))
/-- _copied -/
def dCopied : DS := sSeq (sIf (dB (dOp rEq (dOp rIx (dVar 0) (dC (.int 0))) (dC (.str ("call" : Str))))) (sRet (dCB rTuple (dCons (dVar 0) (dNil)))) (sNext)) (sSeq (sAsg (dVar 0) (gTp 4 (gsCons (gNm 1) (gsCons (gNm 2) (gsCons (gNm 3) (gsCons (gNm 4) (gsNil))))))) (sRet (dTup (dCons (dC (.str ("set" : Str))) (dCons (dVar 2) (dCons (dVar 3) (dCons (dCB rTuple (dCons (dLc (iAny (dVar 4)) (.tp [5, 6]) (dYes) (dTup (dCons (dVar 5) (dCons (dVar 6) (dNil)))) [5, 6]) (dNil))) (dNil))))))))
def spCopied : SpD := fun ds M Q _ => ∃ (v : Stm → D) (s : Stm), ds = [v s] ∧ Vw v ∧ (∀ p f rs, s = .set p f rs → rs.length ≤ 1000) ∧ Q (stD s) M
theorem pureCopied {y0 y1 y2 y3 y4 y5 y6 : Str} (h : spCopied ds M Qd Ed) : dCopied (fun _ M' => Qd .non M') Qd (fun _ _ => False) (fun _ _ => False) (fun C dd _ M' => Ed C dd M') (start0 [y0, y1, y2, y3, y4, y5, y6] ds) M := by
  obtain ⟨v, s, rfl, hv, hl, q⟩ := h
  unfold dCopied
  cases s with
  | call c w =>
    rw [hv.call]
    walk_at "dl"
    refine ixt0 ?_
    walk_at "dl"
    refine g_ift (by decide +kernel) ?_
    walk_at "dl"
    exact tup_of (.tup _) q
  | set p f rs =>
    obtain ⟨X, e, hX⟩ := hv.set p f rs
    rw [e]
    walk_at "dl"
    refine ixt0 ?_
    walk_at "dl"
    refine g_iff' (by decide +kernel) ?_
    walk_at "dl"
    refine ⟨_, rfl, rfl, _, _, rfl, _, _, rfl, _, _, rfl, _, _, rfl, rfl, ?_⟩
    walk_at "dl"
    obtain ⟨st, hi, hst⟩ := isS_I (reads_S (M := M) hX)
    refine ⟨_, st, hi, lt_line (by rw [List.length_map]; have := hl p f rs rfl; omega), lc_mapT rdD rdD (fun r => [.int (r.1 : Nat), .str r.2]) hst (fun r _ => ⟨rfl, rfl, fun P1 h1 => ?_⟩) (.inl ?_)⟩
    · walk_at "dl"
      exact ⟨len_le_line (n := 2), h1⟩
    walk_at "dl"
    refine tup_of (.lst _) ?_
    walk_at "dl"
    exact ⟨len_le_line (n := 4), q⟩
/-- _is_valid, of what is valid -/
def dValid (K : PySem.W.Frag) (cP cG : Addr) (sdC : SpD) : DS := sSeq (sAsg (dCB rLen (dCons (dZK K (dMeth cG "children_of" sdC (dFld K (dVar 0) "grammar") (dCons (dVar 1) (dNil)))) (dNil))) (gNm 3)) (sSeq (sIf (dB (dOp rEq (dOp rIx (dVar 2) (dC (.int 0))) (dC (.str ("call" : Str))))) (sSeq (sAsg (dVar 2) (gTp 3 (gsCons (gNm 4) (gsCons (gNm 5) (gsCons (gNm 6) (gsNil)))))) (sRet (dAndV (dChain rLe rLe (dC (.int 1)) (dVar 5) (dVar 3)) (dOp rIn (dVar 6) (dFld K (dVar 0) "names"))))) (sNext)) (sSeq (sIf (dB (dOp rNe (dOp rIx (dVar 2) (dC (.int 0))) (dC (.str ("set" : Str))))) (sRet (dC (.bl false))) (sNext)) (sSeq (sAsg (dVar 2) (gTp 4 (gsCons (gNm 4) (gsCons (gNm 7) (gsCons (gNm 8) (gsCons (gNm 9) (gsNil))))))) (sSeq (sAsg (dLst (dCons (dTup (dCons (dVar 7) (dCons (dVar 8) (dNil)))) (dStar (dVar 9) (dNil)))) (gNm 10)) (sRet (dAndV (dOp rLe (dCB rLen (dCons (dVar 9) (dNil))) (dCon K (dC (.ptr cP)) "MOST_READS")) (dCB rAll (dCons (dLc (iAny (dVar 10)) (.tp [11, 12]) (dYes) (dAndV (dChain rLe rLe (dC (.int 0)) (dVar 11) (dVar 3)) (dOp rIn (dVar 12) (dFld K (dFld K (dVar 0) "grammar") "fields"))) [11, 12]) (dNil)))))))))
def spValid (cP cG : Addr) : SpD := fun ds M Q _ => ∃ pr g fs rs root S ns ig bd r s, ∃ v : Stm → D, ds = [pr, .str r.n, v s] ∧ IsO M pr cP (pgE g ns bd ig) ∧ Gm M g cG fs rs root S ∧ r ∈ rs ∧ r.ch.length ≤ 1000 ∧ StOk fs ns r.ch.length s ∧ Vw v ∧ Nd M ∧ Q (.bl true) M
theorem all_rep (n : Nat) : (List.replicate n true).all id = true := by rw [List.all_eq_true]; intro b hb; exact (List.mem_replicate.mp hb).2
theorem pureValid {cP cG cU : Addr} {y0 y1 y2 y3 y4 y5 y6 y7 y8 y9 y10 y11 y12 : Str} (T : GrOk K cG) (T2 : PgOk K cP) (co : ConI K cP "MOST_READS" 4) (h : spValid cP cG ds M Qd Ed) : dValid K cP cG (spKindQ cG cU vCh) (fun _ M' => Qd .non M') Qd (fun _ _ => False) (fun _ _ => False) (fun C dd _ M' => Ed C dd M') (start0 [y0, y1, y2, y3, y4, y5, y6, y7, y8, y9, y10, y11, y12] ds) M := by
  obtain ⟨pr, g, fs, rs, root, S, ns, ig, bd, r, s, v, rfl, hp, G, hr, hcl, hs, hv, nd, q⟩ := h
  obtain ⟨mc, u, c1, c2⟩ := co
  unfold dValid
  walk_at "dl"
  refine ⟨_, _, _, hp, T2.f1, hg1, ?_⟩
  refine ⟨_, G.at_, no_meth (by decide +kernel), ?_⟩
  walk_at "dl"
  refine ⟨g, fs, rs, root, S, r.n, rfl, G, nd, fun z => absurd (List.mem_map.mpr ⟨r, hr, rfl⟩) z, fun r' hr' e d ed => ?_⟩
  have := nodup_one G.nd hr' hr e
  subst this
  subst ed
  refine ⟨_, _, .refl, ?_⟩
  walk_at "dl"
  refine isS_len (.tup _) ?_
  rw [List.length_map]
  walk_at "dl"
  cases s with
  | call c w =>
    obtain ⟨h1, h2, h3⟩ := hs
    rw [hv.call]
    refine ixt0 ?_
    walk_at "dl"
    refine g_ift (by decide +kernel) ?_
    walk_at "dl"
    refine ⟨_, rfl, rfl, _, _, rfl, _, _, rfl, _, _, rfl, rfl, ?_⟩
    walk_at "dl"
    refine g_chain ?_
    walk_at "dl"
    refine g_ift (by simp; omega) ?_
    walk_at "dl"
    refine g_ift (by simp; omega) ?_
    walk_at "dl"
    refine ⟨_, _, _, hp, T2.f2, hg2, ?_⟩
    refine in_strs (.tup _) ?_
    rw [show (decide (w ∈ ns) != false) = true by simp [h3]]
    exact q
  | set p f reads =>
    obtain ⟨h1, h2, h3, h4⟩ := hs
    obtain ⟨X, e, hX⟩ := hv.set p f reads
    rw [e]
    refine ixt0 ?_
    walk_at "dl"
    refine g_iff' (by decide +kernel) ?_
    walk_at "dl"
    refine ixt0 ?_
    walk_at "dl"
    refine g_iff' (by decide +kernel) ?_
    walk_at "dl"
    refine ⟨_, rfl, rfl, _, _, rfl, _, _, rfl, _, _, rfl, _, _, rfl, rfl, ?_⟩
    walk_at "dl"
    refine ⟨len_le_line (n := 2), ?_⟩
    walk_at "dl"
    refine ⟨_, reads_S hX, ?_⟩
    walk_at "dl"
    refine ⟨by rw [List.append_nil, List.length_cons, List.length_map]; exact len_le_line (by omega), .inl ?_⟩
    walk_at "dl"
    refine isS_len (reads_S hX) ?_
    rw [List.length_map]
    walk_at "dl"
    refine ⟨_, mc, _, u, rfl, c1, c2, ?_⟩
    walk_at "dl"
    refine g_ift (by simp; omega) ?_
    walk_at "dl"
    rw [List.append_nil, show (D.tup [D.int (p : Nat), D.str f] :: reads.map rdD) = ((p, f) :: reads).map rdD from rfl]
    have hall : ∀ x ∈ (p, f) :: reads, x.1 ≤ r'.ch.length ∧ x.2 ∈ fs := fun x hx => by
      rcases List.mem_cons.mp hx with e | e
      · rw [e]; exact ⟨h1, h2⟩
      · exact h4 x e
    refine ⟨_, _, .lst (.lst _), lt_line (by rw [List.length_map, List.length_cons]; omega), lc_mapT rdD (fun _ => .bl true) (fun x => [.int (x.1 : Nat), .str x.2]) trivial (fun x hx => ⟨rfl, rfl, fun P1 k1 => ?_⟩) (.inl ?_)⟩
    · obtain ⟨a1, a2⟩ := hall x hx
      walk_at "dl"
      refine g_chain ?_
      walk_at "dl"
      refine g_ift (by simp) ?_
      walk_at "dl"
      refine g_ift (by simp; omega) ?_
      walk_at "dl"
      refine ⟨_, _, _, hp, T2.f1, hg1, ?_⟩
      walk_at "dl"
      refine ⟨_, _, _, G.at_, T.f1, has_fields, ?_⟩
      refine in_strs (.tup _) ?_
      rw [show (decide (x.2 ∈ fs) != false) = true by simp [a2]]
      exact k1
    walk_at "dl"
    refine .lst (bs := List.replicate ((p, f) :: reads).length true) (by rw [show ((p, f) :: reads).map (fun _ => D.bl true) = (List.replicate ((p, f) :: reads).length true).map .bl by rw [List.map_replicate, List.map_const']]; exact .lst _) ?_
    simp only [if_true, all_rep]
    exact q
/-- _check_body, of what is valid -/
def dCheckB (K : PySem.W.Frag) (cP cG cL cB : Addr) (sdF sdL sdV sdB : SpD) : DS := sSeq (sDrop (dMeth cG "family_of" sdF (dFld K (dVar 0) "grammar") (dCons (dVar 2) (dNil)))) (sSeq (sIf (dB (dOp rGt (dCB rLen (dCons (dVar 3) (dNil))) (dCon K (dC (.ptr cP)) "MOST_STATEMENTS"))) (sRaise cL sdL (dCons (dC (.str ("statements" : Str))) (dNil))) (sNext)) (sFor (iEn 0 (dVar 3)) (gTp 2 (gsCons (gNm 4) (gsCons (gNm 5) (gsNil)))) (sIf (dNot (dB (dZK K (dCall sdV (dCons (dVar 0) (dCons (dVar 2) (dCons (dVar 5) (dNil)))))))) (sRaise cB sdB (dCons (dVar 1) (dCons (dVar 2) (dCons (dVar 4) (dNil))))) (sNext))))
def spCheckB (cP cG : Addr) : SpD := fun ds M Q _ => ∃ pr g fs rs root S ns ig bd r w, ∃ (v : Stm → D) (b : List Stm), ds = [pr, .str w, .str r.n, .lst (b.map v)] ∧ IsO M pr cP (pgE g ns bd ig) ∧ Gm M g cG fs rs root S ∧ r ∈ rs ∧ r.ch.length ≤ 1000 ∧ b.length ≤ 6 ∧ (∀ s ∈ b, StOk fs ns r.ch.length s) ∧ Vw v ∧ Nd M ∧ Q .non M
theorem pureCheckB {cP cG cU cL cB : Addr} {sdL sdB : SpD} {y0 y1 y2 y3 y4 y5 : Str} (T2 : PgOk K cP) (co : ConI K cP "MOST_STATEMENTS" 6) (h : spCheckB cP cG ds M Qd Ed) : dCheckB K cP cG cL cB (spKindQ cG cU vFam) sdL (spValid cP cG) sdB (fun _ M' => Qd .non M') Qd (fun _ _ => False) (fun _ _ => False) (fun C dd _ M' => Ed C dd M') (start0 [y0, y1, y2, y3, y4, y5] ds) M := by
  obtain ⟨pr, g, fs, rs, root, S, ns, ig, bd, r, w, v, b, rfl, hp, G, hr, hcl, hb, hs, hv, nd, q⟩ := h
  obtain ⟨mc, u, c1, c2⟩ := co
  unfold dCheckB
  walk_at "dl"
  refine ⟨_, _, _, hp, T2.f1, hg1, ?_⟩
  refine ⟨_, G.at_, no_meth (by decide +kernel), ?_⟩
  walk_at "dl"
  refine ⟨g, fs, rs, root, S, r.n, rfl, G, nd, fun z => absurd (List.mem_map.mpr ⟨r, hr, rfl⟩) z, fun r' hr' e d ed => ?_⟩
  walk_at "dl"
  refine isS_len (.lst _) ?_
  rw [List.length_map]
  walk_at "dl"
  refine ⟨_, mc, _, u, rfl, c1, c2, ?_⟩
  walk_at "dl"
  refine g_iff' (by simp; omega) ?_
  walk_at "dl"
  refine ⟨_, _, .lst (.lst _), ?_⟩
  let P : Nat → Rho → Mem → Prop := fun i ρ M' => (∃ x4 x5, ρ = [some pr, some (.str w), some (.str r.n), some (.lst (b.map v)), x4, x5]) ∧ M' = M
  refine goF_inv P (fun _ _ _ _ => trivial) (fun i d ρ M' hd hP go hgo => ?_) (fun ρ M' hP => ?_) ⟨⟨_, _, rfl⟩, rfl⟩
  · obtain ⟨⟨x4, x5, rfl⟩, rfl⟩ := hP
    rw [List.getElem?_map, enumL_get, List.getElem?_map] at hd
    cases eb : b[i]? with
    | none => rw [eb] at hd; cases hd
    | some s =>
      rw [eb] at hd
      cases hd
      have hsb := List.mem_of_getElem? eb
      refine ⟨_, rfl, rfl, _, _, rfl, _, _, rfl, rfl, ?_⟩
      walk_at "dl"
      refine ⟨pr, g, fs, rs, root, S, ns, ig, bd, r, s, v, rfl, hp, G, hr, hcl, hs s hsb, hv, nd, ?_⟩
      refine ⟨_, _, .refl, ?_⟩
      walk_at "dl"
      refine g_iff' rfl ?_
      walk_at "dl"
      exact hgo _ _ ⟨⟨_, _, rfl⟩, rfl⟩
  · obtain ⟨_, rfl⟩ := hP
    exact q
end
end DL
namespace DL
variable [Wd]
open PySem L2 PySem.Spec PyProof.Rows
/-! ### programs -/
section
variable {M : Mem} {K : PySem.W.Frag} {ds : List D} {Qd : D → Mem → Prop} {Ed : XD}
theorem g_get2 {ρ : Rho} {E : XD} {do_ di_ dx : DE} {Q : D → Mem → Prop} (q : do_ ρ M (fun d M1 => IsDct M1 d ∧ di_ ρ M1 (fun dk M2 => dx ρ M2 (fun x M3 => GetQ M3 d (fun r M4 => Q (r.getD x) M4) dk) E) E) E) : dGet2 do_ di_ dx ρ M Q E := q
def ent (w : Str) (y : Str × List Stm) : D × D := (.tup [.str w, .str y.1], .tup (y.2.map stD))
def esOf (ws : Ws) : List (D × D) := ws.flatMap fun x => x.2.map (ent x.1)
def bodyOf (ws : Ws) (w k : Str) : Option (List Stm) := (ws.find? fun x => decide (x.1 = w)).bind fun x => (x.2.find? fun y => decide (y.1 = k)).map (·.2)
def nk2 (w k : Str) : NestedKey := .tup [.text w, .text k]
theorem nk2_of (w k : Str) : toNK 8 (.tup [.str w, .str k]) = some (nk2 w k) := rfl
theorem nk2_inj {w k w' k' : Str} (h : nk2 w k = nk2 w' k') : w = w' ∧ k = k' := by
  unfold nk2 at h
  injection h with h
  injection h with h1 h2
  injection h2 with h2 _
  injection h1 with h1
  injection h2 with h2
  exact ⟨h1, h2⟩
theorem put_newT {es : List (D × D)} {kd d : D} {k : NestedKey} (h : ∀ e ∈ es, toNK 8 e.1 ≠ some k) : putT es kd k d = es ++ [(kd, d)] := by
  unfold putT
  rw [if_neg]
  rw [Bool.not_eq_true, List.any_eq_false]
  intro e he
  simp [h e he]
theorem lookT_app (xs ys : List (D × D)) (k : NestedKey) : lookT (xs ++ ys) k = (lookT xs k).or (lookT ys k) := by
  unfold lookT
  rw [List.find?_append]
  cases xs.find? fun e => decide (toNK 8 e.1 = some k) <;> rfl
theorem look_ent (w k : Str) : ∀ bs : Bs, lookT (bs.map (ent w)) (nk2 w k) = ((bs.find? fun y => decide (y.1 = k)).map (·.2)).map fun b => D.tup (b.map stD)
  | [] => rfl
  | y :: bs => by
    have ih := look_ent w k bs
    unfold lookT at ih ⊢
    rw [List.map_cons, List.find?_cons, List.find?_cons]
    have e1 : decide (toNK 8 (ent w y).1 = some (nk2 w k)) = decide (y.1 = k) := by
      show decide (some (nk2 w y.1) = some (nk2 w k)) = _
      by_cases h : y.1 = k
      · rw [h]; simp
      · have : ¬ some (nk2 w y.1) = some (nk2 w k) := fun z => h (nk2_inj (Option.some.inj z)).2
        simp [h, this]
    rw [e1]
    cases decide (y.1 = k) with
    | true => rfl
    | false => exact ih
theorem look_other {w w' k : Str} (h : w ≠ w') (bs : Bs) : lookT (bs.map (ent w)) (nk2 w' k) = none := by
  unfold lookT
  rw [List.find?_eq_none.mpr]
  · rfl
  · intro e he
    obtain ⟨y, _, rfl⟩ := List.mem_map.mp he
    show ¬ decide (some (nk2 w y.1) = some (nk2 w' k)) = true
    intro z
    exact h (nk2_inj (Option.some.inj (of_decide_eq_true z))).1
theorem look_es (w k : Str) : ∀ ws : Ws, (namesW ws).Nodup → lookT (esOf ws) (nk2 w k) = (bodyOf ws w k).map fun b => D.tup (b.map stD)
  | [], _ => rfl
  | x :: ws, hn => by
    unfold namesW at hn
    rw [List.map_cons, List.nodup_cons] at hn
    have ih := look_es w k ws hn.2
    have e0 : esOf (x :: ws) = x.2.map (ent x.1) ++ esOf ws := rfl
    rw [e0, lookT_app]
    unfold bodyOf
    rw [List.find?_cons]
    by_cases h : x.1 = w
    · subst h
      rw [look_ent]
      simp only [decide_true, Option.bind_some]
      have hno : lookT (esOf ws) (nk2 x.1 k) = none := by
        unfold lookT
        rw [List.find?_eq_none.mpr]
        · rfl
        · intro e he z
          obtain ⟨x', hx', he⟩ := List.mem_flatMap.mp he
          obtain ⟨y, _, rfl⟩ := List.mem_map.mp he
          have := (nk2_inj (Option.some.inj (of_decide_eq_true z))).1
          exact hn.1 (by rw [← this]; exact List.mem_map.mpr ⟨x', hx', rfl⟩)
      rw [hno, Option.or_none]
    · rw [look_other h, Option.none_or, ih]
      have : decide (x.1 = w) = false := by simp [h]
      rw [this]
      rfl
/-- walks that Program takes -/
structure WsV (fs : List Str) (rs : List Kd) (ws : Ws) : Prop where
  nd : (namesW ws).Nodup
  l6 : ws.length ≤ 6
  ok : ∀ x ∈ ws, BsOk fs (namesW ws) rs x.2
theorem WsOk.v {fs : List Str} {rs : List Kd} {ws : Ws} (h : WsOk fs rs ws) : WsV fs rs ws := ⟨h.nd, by have := h.l3; omega, h.ok⟩
theorem BsOk.len {fs ns : List Str} {rs : List Kd} {bs : Bs} (B : BsOk fs ns rs bs) : bs.length ≤ rs.length := by
  have := nodup_le (ys := rs.map (·.n)) B.nd fun x hx => by
    obtain ⟨y, hy, rfl⟩ := List.mem_map.mp hx
    obtain ⟨r, hr, e, _⟩ := B.ok y hy
    exact List.mem_map.mpr ⟨r, hr, e⟩
  rwa [List.length_map, List.length_map] at this
theorem es_len {n : Nat} : ∀ {ws : Ws}, (∀ x ∈ ws, x.2.length ≤ n) → (esOf ws).length ≤ ws.length * n
  | [], _ => Nat.zero_le _
  | x :: ws, h => by
    have e0 : esOf (x :: ws) = x.2.map (ent x.1) ++ esOf ws := rfl
    have ih := es_len (n := n) (ws := ws) fun z hz => h z (List.mem_cons_of_mem _ hz)
    have := h x List.mem_cons_self
    rw [e0, List.length_append, List.length_map, List.length_cons, Nat.add_mul]
    omega
def dProg (K : PySem.W.Frag) (cP cL : Addr) (sdL sdC sdX : SpD) : DS := sSeq (sIf (dB (dOp rGt (dCB rLen (dCons (dVar 2) (dNil))) (dCon K (dC (.ptr cP)) "MOST_WALKS"))) (sRaise cL sdL (dCons (dC (.str ("walks" : Str))) (dNil))) (sNext)) (sSeq (sFldD K (dVar 0) (dZK K (dVar 1)) "grammar") (sSeq (sFldD K (dVar 0) (dCB rTuple (dCons (dVar 2) (dNil))) "names") (sSeq (sFldD K (dVar 0) (dDic) "_bodies") (sSeq (sFldD K (dVar 0) (dTup (dNil)) "_ignored") (sFor (iItm (dZK K (dVar 2))) (gTp 2 (gsCons (gNm 3) (gsCons (gNm 4) (gsNil)))) (sFor (iItm (dZK K (dVar 4))) (gTp 2 (gsCons (gNm 5) (gsCons (gNm 6) (gsNil)))) (sSeq (sDrop (dCall sdC (dCons (dVar 0) (dCons (dVar 3) (dCons (dVar 5) (dCons (dVar 6) (dNil))))))) (sAsg (dCB rTuple (dCons (dLc (iAny (dVar 6)) (.nm 7) (dYes) (dZK K (dCall sdX (dCons (dVar 7) (dNil)))) [7]) (dNil))) (gSub (dFld K (dVar 0) "_bodies") (dTup (dCons (dVar 3) (dCons (dVar 5) (dNil)))))))))))))
def spProg (cP cG : Addr) : SpD := fun ds M Q _ => ∃ (q : Addr) (g : D) (fs : List Str) (rs : List Kd) (root : Option Str) (S : Tab) (ws : Ws) (v : Stm → D), ds = [.ptr q, g, .dic (wsE v ws)] ∧ (q, MO.obj cP []) ∈ M ∧ Nd M ∧ (∀ M', Gm M' g cG fs rs root S) ∧ WsV fs rs ws ∧ (∀ r ∈ rs, r.ch.length ≤ 1000) ∧ Vw v ∧
  ∀ k M', (q, MO.obj cP (pgE g (namesW ws) (.ptr k) [])) ∈ M' → (k, MO.dit (esOf ws)) ∈ M' → k ≠ q → Free k M → Nd M' → Fr [q] M M' → Q .non M'
theorem esOf_snoc (ws : Ws) (x : Str × Bs) : esOf (ws ++ [x]) = esOf ws ++ x.2.map (ent x.1) := by unfold esOf; rw [List.flatMap_append]; simp
theorem pureProg {cP cG cL : Addr} {sdL : SpD} {y0 y1 y2 y3 y4 y5 y6 y7 : Str} (T2 : PgOk K cP) (co : ConI K cP "MOST_WALKS" 6) (h : spProg cP cG ds M Qd Ed) : dProg K cP cL sdL (spCheckB cP cG) spCopied (fun _ M' => Qd .non M') Qd (fun _ _ => False) (fun _ _ => False) (fun C dd _ M' => Ed C dd M') (start0 [y0, y1, y2, y3, y4, y5, y6, y7] ds) M := by
  obtain ⟨q, g, fs, rs, root, S, ws, v, rfl, hq, nd, G, W, hcl, hv, kQ⟩ := h
  obtain ⟨mc, u, c1, c2⟩ := co
  have hw6 := W.l6
  unfold dProg
  walk_at "dl"
  refine LenC.dic (.dic _) ?_
  rw [show (wsE v ws).length = ws.length by unfold wsE; rw [List.length_map]]
  walk_at "dl"
  refine ⟨_, mc, _, u, rfl, c1, c2, ?_⟩
  walk_at "dl"
  refine g_iff' (by simp; omega) ?_
  walk_at "dl"
  refine ⟨_, _, .refl, ?_⟩
  walk_at "dl"
  refine fld_new nd hq T2.f1 .nil (by simp) fun M1 U1 => ?_
  walk_at "dl"
  refine .dic (.dic _) ?_
  rw [ws_keys]
  walk_at "dl"
  refine fld_new U1.nd U1.at_ T2.f2 (by walk_at "nof") (by simp) fun M2 U2 => ?_
  walk_at "dl"
  refine .inr (.inr fun k hk => ?_)
  have hqk := ne_free hk U2.at_
  walk_at "dl"
  refine fld_new (nd_new hk U2.nd) (List.mem_cons_of_mem _ U2.at_) T2.f3 (by walk_at "nof") (by simp) fun M3 U3 => ?_
  walk_at "dl"
  refine ⟨len_le_line (n := 0), ?_⟩
  walk_at "dl"
  refine fld_new U3.nd U3.at_ T2.f4 (by walk_at "nof") (by simp) fun M4 U4 => ?_
  have hkM : Free k M := fun m hm => hk m (U2.fr _ _ (not_mem1 fun e => by
    rw [e] at hm hk
    exact hk _ U2.at_) (U1.fr _ _ (not_mem1 fun e => by
    rw [e] at hm hk
    exact hk _ U2.at_) hm))
  have hk4 : (k, MO.dit (esOf [])) ∈ M4 := U4.fr _ _ (not_mem1 (Ne.symm hqk)) (U3.fr _ _ (not_mem1 (Ne.symm hqk)) List.mem_cons_self)
  have f4 : Fr [q] M M4 := fun x m hx hm => U4.fr _ _ hx (U3.fr _ _ hx (List.mem_cons_of_mem _ (U2.fr _ _ hx (U1.fr _ _ hx hm))))
  have hq4 : (q, MO.obj cP (pgE g (namesW ws) (.ptr k) [])) ∈ M4 := U4.at_
  have nd4 := U4.nd
  walk_at "dl"
  refine ⟨_, _, .refl, _, rfl, ?_⟩
  let P : Nat → Rho → Mem → Prop := fun i ρ M' => (∃ x3 x4 x5 x6 x7, ρ = [some (.ptr q), some g, some (.dic (wsE v ws)), x3, x4, x5, x6, x7]) ∧ Nd M' ∧ (q, MO.obj cP (pgE g (namesW ws) (.ptr k) [])) ∈ M' ∧ (k, MO.dit (esOf (ws.take i))) ∈ M' ∧ Fr [q, k] M M'
  refine goF_inv P (fun _ _ _ _ => trivial) (fun i d ρ M5 hd hP go hgo => ?_) (fun ρ M5 hP => ?_) ⟨⟨_, _, _, _, _, rfl⟩, nd4, hq4, hk4, fr_sub f4 (by simp)⟩
  · obtain ⟨⟨x3, x4, x5, x6, x7, rfl⟩, nd5, hq5, hk5, f5⟩ := hP
    unfold itemsD wsE at hd
    rw [List.map_map, List.getElem?_map] at hd
    cases ei : ws[i]? with
    | none => rw [ei] at hd; cases hd
    | some x =>
    rw [ei] at hd
    cases hd
    have hx := List.mem_of_getElem? ei
    have htk : ws.take (i + 1) = ws.take i ++ [x] := by rw [List.take_succ, ei]; rfl
    have hnew : x.1 ∉ (ws.take i).map (·.1) := fun z => by
      have hq : ((ws.take (i + 1)).map (·.1)).Nodup := List.Nodup.sublist ((List.take_sublist _ _).map _) W.nd
      rw [htk, List.map_append] at hq
      exact (List.nodup_append.mp hq).2.2 _ z _ List.mem_cons_self rfl
    have B := W.ok x hx
    refine ⟨_, rfl, rfl, _, _, rfl, _, _, rfl, rfl, ?_⟩
    walk_at "dl"
    refine ⟨_, _, .refl, _, rfl, ?_⟩
    let P2 : Nat → Rho → Mem → Prop := fun j ρ M' => (∃ x5 x6 x7, ρ = [some (.ptr q), some g, some (.dic (wsE v ws)), some (.str x.1), some (.dic (bsE v x.2)), x5, x6, x7]) ∧ Nd M' ∧ (q, MO.obj cP (pgE g (namesW ws) (.ptr k) [])) ∈ M' ∧ (k, MO.dit (esOf (ws.take i) ++ (x.2.take j).map (ent x.1))) ∈ M' ∧ Fr [q, k] M M'
    refine goF_inv P2 (fun _ _ _ _ => trivial) (fun j d2 ρ M6 hd2 hP go2 hgo2 => ?_) (fun ρ M6 hP => ?_) ⟨⟨_, _, _, rfl⟩, nd5, hq5, by rw [List.take_zero, List.map_nil, List.append_nil]; exact hk5, f5⟩
    · obtain ⟨⟨x5, x6, x7, rfl⟩, nd6, hq6, hk6, f6⟩ := hP
      unfold itemsD bsE at hd2
      rw [List.map_map, List.getElem?_map] at hd2
      cases ej : x.2[j]? with
      | none => rw [ej] at hd2; cases hd2
      | some y =>
      rw [ej] at hd2
      cases hd2
      have hy := List.mem_of_getElem? ej
      have htk2 : x.2.take (j + 1) = x.2.take j ++ [y] := by rw [List.take_succ, ej]; rfl
      have hnew2 : y.1 ∉ (x.2.take j).map (·.1) := fun z => by
        have hq : ((x.2.take (j + 1)).map (·.1)).Nodup := List.Nodup.sublist ((List.take_sublist _ _).map _) B.nd
        rw [htk2, List.map_append] at hq
        exact (List.nodup_append.mp hq).2.2 _ z _ List.mem_cons_self rfl
      obtain ⟨r, hr, ery, hl, hs⟩ := B.ok y hy
      refine ⟨_, rfl, rfl, _, _, rfl, _, _, rfl, rfl, ?_⟩
      walk_at "dl"
      refine ⟨.ptr q, g, fs, rs, root, S, namesW ws, [], .ptr k, r, x.1, v, y.2, by rw [ery]; rfl, .ptr hq6, G _, hr, hcl r hr, hl, hs, hv, nd6, ?_⟩
      walk_at "dl"
      refine ⟨_, _, .lst (.lst _), lt_line (by rw [List.length_map]; omega), lc_map v stD trivial (fun s hs' P1 h1 => ?_) (.inl ?_)⟩
      · walk_at "dl"
        refine ⟨v, s, rfl, hv, fun p f reads e => ?_, _, _, .refl, h1⟩
        have := hs s hs'
        rw [e] at this
        have := this.2.2.1
        omega
      walk_at "dl"
      refine tup_of (.lst _) ?_
      walk_at "dl"
      refine ⟨_, _, _, .ptr hq6, T2.f3, hg3, ?_⟩
      walk_at "dl"
      refine ⟨len_le_line (n := 2), ?_⟩
      obtain ⟨M7, U7⟩ := upd_ex (n := .dit (putT (esOf (ws.take i) ++ (x.2.take j).map (ent x.1)) (.tup [.str x.1, .str y.1]) (nk2 x.1 y.1) (.tup (y.2.map stD)))) nd6 hk6
      have hlen : (esOf (ws.take i) ++ (x.2.take j).map (ent x.1)).length < sizeLine := by
        have h1 := es_len (n := 8) (ws := ws.take i) fun z hz => Nat.le_trans (W.ok z (List.mem_of_mem_take hz)).len (G M).l8
        have h2 := B.len
        have h3 := (G M).l8
        rw [List.length_take] at h1
        rw [List.length_append, List.length_map, List.length_take]
        refine lt_line ?_
        have : min i ws.length * 8 ≤ 6 * 8 := Nat.mul_le_mul_right _ (by omega)
        omega
      refine SetQ.dit (nk2_of _ _) U7.up hlen (hgo2 _ _ ⟨⟨_, _, _, rfl⟩, U7.nd, U7.fr _ _ (not_mem1 hqk) hq6, ?_, f6.trans (fr_sub U7.fr (by simp))⟩)
      have e := U7.at_
      rw [put_newT] at e
      · rw [htk2, List.map_append, ← List.append_assoc]
        exact e
      · intro e' he'
        rcases List.mem_append.mp he' with h | h
        · obtain ⟨x', hx', h⟩ := List.mem_flatMap.mp h
          obtain ⟨y', _, rfl⟩ := List.mem_map.mp h
          intro z
          have := (nk2_inj (Option.some.inj z)).1
          exact hnew (by rw [← this]; exact List.mem_map.mpr ⟨x', hx', rfl⟩)
        · obtain ⟨y', hy', rfl⟩ := List.mem_map.mp h
          intro z
          have := (nk2_inj (Option.some.inj z)).2
          exact hnew2 (by rw [← this]; exact List.mem_map.mpr ⟨y', hy', rfl⟩)
    obtain ⟨⟨x5, x6, x7, rfl⟩, nd6, hq6, hk6, f6⟩ := hP
    have e : x.2.take (itemsD (bsE v x.2)).length = x.2 := List.take_of_length_le (by unfold itemsD bsE; rw [List.length_map, List.length_map]; exact Nat.le_refl _)
    rw [e, ← esOf_snoc, ← htk] at hk6
    exact hgo _ _ ⟨⟨_, _, _, _, _, rfl⟩, nd6, hq6, hk6, f6⟩
  obtain ⟨⟨x3, x4, x5, x6, x7, rfl⟩, nd5, hq5, hk5, f5⟩ := hP
  have e : ws.take (itemsD (wsE v ws)).length = ws := List.take_of_length_le (by unfold itemsD wsE; rw [List.length_map, List.length_map]; exact Nat.le_refl _)
  rw [e] at hk5
  exact kQ k M5 hq5 hk5 (Ne.symm hqk) hkM nd5 fun x m hx hm => f5 _ _ (not_mem2 (fun e => hx (by rw [e]; exact List.mem_cons_self)) (ne_free hkM hm)) hm
/-- a made program; its bodies stand at an address -/
structure Pm (M : Mem) (pr : D) (cP cG : Addr) (g : D) (fs : List Str) (rs : List Kd) (root : Option Str) (S : Tab) (ws : Ws) (k : Addr) (ig : List Str) : Prop where
  at_ : IsO M pr cP (pgE g (namesW ws) (.ptr k) ig)
  bd : (k, MO.dit (esOf ws)) ∈ M
  G : ∀ M', Gm M' g cG fs rs root S
  W : WsV fs rs ws
theorem Pm.mono {M' : Mem} {pr : D} {cP cG : Addr} {g : D} {fs : List Str} {rs : List Kd} {root : Option Str} {S : Tab} {ws : Ws} {k : Addr} {ig : List Str} (h : Pm M pr cP cG g fs rs root S ws k ig) {ps : List Addr} (f : Fr ps M M') (hk : k ∉ ps) (hp : ∀ a, pr = .ptr a → a ∉ ps) : Pm M' pr cP cG g fs rs root S ws k ig := by
  refine ⟨?_, f _ _ hk h.bd, h.G, h.W⟩
  have a := h.at_
  cases a with
  | obj => exact .obj _ _
  | ptr hm => exact .ptr (f _ _ (hp _ rfl) hm)
/-- Program.body -/
def dBodyOf (K : PySem.W.Frag) (cG cU : Addr) (sdU sdF : SpD) : DS := sSeq (sIf (dB (dOp rNin (dVar 1) (dFld K (dVar 0) "names"))) (sRaise cU sdU (dCons (dVar 1) (dNil))) (sNext)) (sSeq (sDrop (dMeth cG "family_of" sdF (dFld K (dVar 0) "grammar") (dCons (dVar 2) (dNil)))) (sRet (dGet2 (dFld K (dVar 0) "_bodies") (dTup (dCons (dVar 1) (dCons (dVar 2) (dNil)))) (dTup (dNil)))))
def spBodyOf (cP cG cU : Addr) : SpD := fun ds M Q E => ∃ pr g fs rs root S ws k ig w kd, ds = [pr, .str w, .str kd] ∧ Pm M pr cP cG g fs rs root S ws k ig ∧ Nd M ∧ (w ∉ namesW ws → Errs E cU "name" w M) ∧ (w ∈ namesW ws → kd ∉ namesOf rs → Errs E cU "name" kd M) ∧ (w ∈ namesW ws → kd ∈ namesOf rs → Q (.tup (((bodyOf ws w kd).getD []).map stD)) M)
theorem pureBodyOf {cP cG cU : Addr} {y0 y1 y2 : Str} (T2 : PgOk K cP) (h : spBodyOf cP cG cU ds M Qd Ed) : dBodyOf K cG cU (spErr cU "name") (spKindQ cG cU vFam) (fun _ M' => Qd .non M') Qd (fun _ _ => False) (fun _ _ => False) (fun C dd _ M' => Ed C dd M') (start0 [y0, y1, y2] ds) M := by
  obtain ⟨pr, g, fs, rs, root, S, ws, k, ig, w, kd, rfl, H, nd, k1, k2, k3⟩ := h
  have G := H.G M
  unfold dBodyOf
  walk_at "dl"
  refine ⟨_, _, _, H.at_, T2.f2, hg2, ?_⟩
  refine nin_strs (.tup _) ?_
  walk_at "dl"
  by_cases hw : w ∈ namesW ws
  · refine g_iff' (by simp [hw]) ?_
    walk_at "dl"
    refine ⟨_, _, _, H.at_, T2.f1, hg1, ?_⟩
    refine ⟨_, G.at_, no_meth (by decide +kernel), ?_⟩
    walk_at "dl"
    refine ⟨g, fs, rs, root, S, kd, rfl, G, nd, k2 hw, fun r hr e d ed => ?_⟩
    have k3' := k3 hw (List.mem_map.mpr ⟨r, hr, e⟩)
    walk_at "dl"
    refine g_get2 ?_
    walk_at "dl"
    refine ⟨_, _, _, H.at_, T2.f3, hg3, .dit (.ptr H.bd), ?_⟩
    walk_at "dl"
    refine ⟨len_le_line (n := 2), ?_⟩
    walk_at "dl"
    refine ⟨len_le_line (n := 0), ?_⟩
    refine .dit (.ptr H.bd) (nk2_of _ _) ?_
    rw [look_es _ _ _ H.W.nd]
    cases eb : bodyOf ws w kd with
    | none => rw [eb] at k3'; exact k3'
    | some b => rw [eb] at k3'; exact k3'
  · refine g_ift (by simp [hw]) ?_
    refine g_raise ?_ fun Q Q' hQ ⟨d, e, z⟩ => ⟨d, e, hQ _ _ z⟩
    walk_at "dl"
    exact ⟨_, rfl, nd, k1 hw⟩
/-- Program.row -/
def strange (ws ns : List Str) : Option Str := ns.find? fun x => decide (x ∉ ws)
def dRowQ (K : PySem.W.Frag) (cP cL cU : Addr) (sdL sdU : SpD) : DS := sSeq (sIf (dB (dOp rGt (dCB rLen (dCons (dVar 1) (dNil))) (dCon K (dC (.ptr cP)) "MOST_NAMES"))) (sRaise cL sdL (dCons (dC (.str ("row" : Str))) (dNil))) (sNext)) (sSeq (sFor (iAny (dVar 1)) (gNm 2) (sIf (dB (dOp rNin (dVar 2) (dFld K (dVar 0) "names"))) (sRaise cU sdU (dCons (dVar 2) (dNil))) (sNext))) (sRet (dCB rTuple (dCons (dVar 1) (dNil)))))
def spRowQ (cP cL cU : Addr) : SpD := fun ds M Q E => ∃ (pr d g bd : D) (ns xs ig : List Str), ds = [pr, d] ∧ IsO M pr cP (pgE g ns bd ig) ∧ IsS M d (xs.map .str) ∧ Nd M ∧ xs.length ≤ 1000 ∧ (6 < xs.length → Errs E cL "limit" "row" M) ∧ (xs.length ≤ 6 → ∀ x, strange ns xs = some x → Errs E cU "name" x M) ∧ (xs.length ≤ 6 → strange ns xs = none → Q (.tup (xs.map .str)) M)
theorem pureRowQ {cP cL cU : Addr} {y0 y1 y2 : Str} (T2 : PgOk K cP) (co : ConI K cP "MOST_NAMES" 6) (h : spRowQ cP cL cU ds M Qd Ed) : dRowQ K cP cL cU (spErr cL "limit") (spErr cU "name") (fun _ M' => Qd .non M') Qd (fun _ _ => False) (fun _ _ => False) (fun C dd _ M' => Ed C dd M') (start0 [y0, y1, y2] ds) M := by
  obtain ⟨pr, d, g, bd, ns, xs, ig, rfl, ho, hd, nd, hl, k1, k2, k3⟩ := h
  obtain ⟨mc, u, c1, c2⟩ := co
  unfold dRowQ
  walk_at "dl"
  refine isS_len hd ?_
  walk_at "dl"
  refine ⟨_, mc, _, u, rfl, c1, c2, ?_⟩
  walk_at "dl"
  by_cases h6 : 6 < xs.length
  · refine g_ift (by rw [List.length_map]; simp; omega) ?_
    refine g_raise ?_ fun Q Q' hQ z => hQ _ _ z
    walk_at "dl"
    exact ⟨_, rfl, nd, k1 h6⟩
  have h6' : xs.length ≤ 6 := by omega
  refine g_iff' (by rw [List.length_map]; simp; omega) ?_
  obtain ⟨st, hi, hst⟩ := isS_I hd
  walk_at "dl"
  refine ⟨_, st, hi, ?_⟩
  have key : ∀ (ys : List Str) (ρ : Rho) (nx : NX), (∃ z, ρ = [some pr, some d, z]) → (∀ x, strange ns ys = some x → Errs Ed cU "name" x M) → (strange ns ys = none → ∀ ρ', (∃ z, ρ' = [some pr, some d, z]) → nx ρ' M) →
      goF (gNm 2) (sIf (dB (dOp rNin (dVar 2) (dFld K (dVar 0) "names"))) (sRaise cU (spErr cU "name") (dCons (dVar 2) (dNil))) (sNext)) st nx Qd (fun C dd _ M' => Ed C dd M') (ys.map .str) ρ M := by
    intro ys
    induction ys with
    | nil => intro ρ nx hρ _ h2; exact ⟨hst, h2 rfl ρ hρ⟩
    | cons x xs ih =>
      rintro ρ nx ⟨z, rfl⟩ h1 h2
      refine ⟨hst, ?_⟩
      walk_at "dl"
      refine ⟨_, _, _, ho, T2.f2, hg2, ?_⟩
      refine nin_strs (.tup _) ?_
      walk_at "dl"
      by_cases hx : x ∈ ns
      · refine g_iff' (by simp [hx]) ?_
        walk_at "dl"
        have e : strange ns (x :: xs) = strange ns xs := by unfold strange; rw [List.find?_cons]; simp [hx]
        rw [e] at h1 h2
        exact ih _ _ ⟨_, rfl⟩ h1 h2
      · refine g_ift (by simp [hx]) ?_
        have e : strange ns (x :: xs) = some x := by unfold strange; rw [List.find?_cons]; simp [hx]
        refine g_raise ?_ fun Q Q' hQ ⟨d, e, z⟩ => ⟨d, e, hQ _ _ z⟩
        walk_at "dl"
        exact ⟨_, rfl, nd, h1 x e⟩
  refine key xs _ _ ⟨none, rfl⟩ (k2 h6') fun e ρ' ⟨z, hρ⟩ => ?_
  subst hρ
  walk_at "dl"
  exact tup_of hd (k3 h6' e)
/-- _law_program -/
def dProgram (K : PySem.W.Frag) (cG cP : Addr) (sdG sdP sdH : SpD) : DS := sSeq (sAsg (dZK K (dMake cG sdG (dCons (dCB rList (dCons (dVar 0) (dNil))) (dCons (dLc (iAny (dVar 1)) (.nm 4) (dYes) (dTup (dCons (dOp rIx (dVar 4) (dC (.int 0))) (dCons (dOp rIx (dVar 4) (dC (.int 1))) (dCons (dCB rList (dCons (dOp rIx (dVar 4) (dC (.int 2))) (dNil))) (dNil))))) [4]) (dNil))))) (gNm 3)) (sRet (dZK K (dMake cP sdP (dCons (dVar 3) (dCons (dZK K (dCall sdH (dCons (dVar 2) (dNil)))) (dNil))))))
def spProgram (cP cG : Addr) : SpD := fun ds M Q _ => ∃ (fs ms : List Str) (rs : List Kd) (ws : Ws) (e : Nat), ds = [.lst (fs.map .str), .lst (rs.map kdL), wsD ws] ∧ SyOk fs ms rs ws e ∧ ms.length + e ≤ 8 ∧ Nd M ∧ ∀ (q k : Addr) (g : D) (S : Tab) M', Pm M' (.ptr q) cP cG g fs rs none S ws k [] → Free q M → Free k M → Nd M' → Fr [] M M' → Q (.ptr q) M'
theorem pureProgram {cP cG cL cB : Addr} {y0 y1 y2 y3 y4 : Str} (h : spProgram cP cG ds M Qd Ed) : dProgram K cG cP (SpD.dflt (spGram cG cL cB) [.non]) (spProg cP cG) spHanded (fun _ M' => Qd .non M') Qd (fun _ _ => False) (fun _ _ => False) (fun C dd _ M' => Ed C dd M') (start0 [y0, y1, y2, y3, y4] ds) M := by
  obtain ⟨fs, ms, rs, ws, e, rfl, Y, he, nd, kQ⟩ := h
  have hrl : rs.length ≤ 8 := by have := Y.k.len; omega
  have hm0 : ms ≠ [] := fun z => by have := Y.m1; rw [z] at this; simp at this
  unfold dProgram
  walk_at "dl"
  refine .seq (.lst _) (.inl ?_)
  walk_at "dl"
  refine ⟨_, _, .lst (.lst _), lt_line (by rw [List.length_map]; omega), lc_map kdL kdL trivial (fun r _ P1 h1 => ?_) (.inl ?_)⟩
  · walk_at "dl"
    refine ixt0 ?_
    walk_at "dl"
    refine ixt1 ?_
    walk_at "dl"
    refine ixt2 ?_
    walk_at "dl"
    refine .seq (.lst _) (.inl ?_)
    walk_at "dl"
    exact ⟨len_le_line (n := 3), h1⟩
  walk_at "dl"
  intro x hx
  unfold SpD.dflt
  refine gram_ok (root := none) (ps := rs.map fun r => (r, D.lst (r.ch.map .str))) List.mem_cons_self (nd_new hx nd) (.lst _) Y.f6 Y.fn (by rw [rowsD_kdL]; exact .lst _) (fun q hq => ?_) (fst_map _ _) Y.k hm0 Y.m3 he (by omega) (fun s e => nomatch e) fun S M1 h1 G nd1 f1 => ⟨rfl, ?_⟩
  · obtain ⟨r, _, rfl⟩ := List.mem_map.mp hq
    exact .lst _
  obtain ⟨M2, U2⟩ := del_ex nd1 h1
  refine ⟨_, M2, .one U2.up rfl, ?_⟩
  have f2 := fr_gone f1 hx U2.fr
  have hG : ∀ M', Gm M' (.obj cG (gramD fs rs none S)) cG fs rs none S := fun M' => ⟨.obj _ _, G.nd, G.l8, G.sz, G.full⟩
  generalize D.obj cG (gramD fs rs none S) = g at hG
  walk_at "dl"
  refine ⟨ws, rfl, Y.w.nd, by have := Y.w.l3; omega, fun z hz => ⟨(Y.w.ok z hz).nd, by have := (Y.w.ok z hz).len; omega, fun y hy => ?_⟩, U2.nd, fun M3 nd3 f3 => ?_⟩
  · obtain ⟨r, _, _, hl, _⟩ := (Y.w.ok z hz).ok y hy
    omega
  refine ⟨_, _, .refl, ?_⟩
  walk_at "dl"
  intro q hq
  have f23 := f2.trans f3
  refine ⟨q, g, fs, rs, none, S, ws, stL, rfl, List.mem_cons_self, nd_new hq nd3, hG, Y.w.v, fun r hr => by have := Y.k.cl r hr; omega, vw_l, fun k M4 h4 hk4 hkq hk nd4 f4 => ⟨rfl, ?_⟩⟩
  have f34 : Fr [q] M3 M4 := fr_under f4 hq
  refine ⟨_, _, .refl, kQ q k g S M4 ⟨.ptr h4, hk4, hG, Y.w.v⟩ (fun m hm => hq m (f23 _ _ (by simp) hm)) (fun m hm => hk m (List.mem_cons_of_mem _ (f23 _ _ (by simp) hm))) nd4 fun z m _ hm => f34 _ _ (not_mem1 (ne_free hq (f23 _ _ (by simp) hm))) (f23 _ _ (by simp) hm)⟩
end
end DL
namespace DL
variable [Wd]
open PySem L2 PySem.Spec PyProof.Rows
/-! ### batches, steps, items -/
section
variable {M : Mem} {K : PySem.W.Frag} {ds : List D} {Qd : D → Mem → Prop} {Ed : XD}
/-- checked_batch -/
def dBatch (K : PySem.W.Frag) (cG cP : Addr) (sdF sdR : SpD) : DS := sSeq (sDrop (dMeth cG "family_of" sdF (dFld K (dVar 0) "grammar") (dCons (dVar 1) (dNil)))) (sRet (dZK K (dMeth cP "row" sdR (dVar 0) (dCons (dVar 2) (dNil)))))
structure BatchP (E : XD) (cL cU : Addr) (rs : List Kd) (ns : List Str) (k : Str) (xs : List Str) (M : Mem) : Prop where
  e1 : k ∉ namesOf rs → Errs E cU "name" k M
  e2 : k ∈ namesOf rs → 6 < xs.length → Errs E cL "limit" "row" M
  e3 : k ∈ namesOf rs → xs.length ≤ 6 → ∀ x, strange ns xs = some x → Errs E cU "name" x M
def spBatch (cP cG cL cU : Addr) : SpD := fun ds M Q E => ∃ pr g fs rs root S ws bk ig k d, ∃ xs : List Str, ds = [pr, .str k, d] ∧ Pm M pr cP cG g fs rs root S ws bk ig ∧ IsS M d (xs.map .str) ∧ Nd M ∧ xs.length ≤ 1000 ∧ BatchP E cL cU rs (namesW ws) k xs M ∧ (k ∈ namesOf rs → xs.length ≤ 6 → strange (namesW ws) xs = none → Q (.tup (xs.map .str)) M)
theorem pureBatch {cP cG cL cU : Addr} {y0 y1 y2 : Str} (T2 : PgOk K cP) (h : spBatch cP cG cL cU ds M Qd Ed) : dBatch K cG cP (spKindQ cG cU vFam) (spRowQ cP cL cU) (fun _ M' => Qd .non M') Qd (fun _ _ => False) (fun _ _ => False) (fun C dd _ M' => Ed C dd M') (start0 [y0, y1, y2] ds) M := by
  obtain ⟨pr, g, fs, rs, root, S, ws, bk, ig, k, d, xs, rfl, H, hd, nd, hl, B, kQ⟩ := h
  have G := H.G M
  unfold dBatch
  walk_at "dl"
  refine ⟨_, _, _, H.at_, T2.f1, hg1, ?_⟩
  refine ⟨_, G.at_, no_meth (by decide +kernel), ?_⟩
  walk_at "dl"
  refine ⟨g, fs, rs, root, S, k, rfl, G, nd, B.e1, fun r hr e z ed => ?_⟩
  have hk : k ∈ namesOf rs := List.mem_map.mpr ⟨r, hr, e⟩
  walk_at "dl"
  refine ⟨_, H.at_, no_methP (by decide +kernel), ?_⟩
  walk_at "dl"
  exact ⟨pr, d, g, .ptr bk, namesW ws, xs, ig, rfl, H.at_, hd, nd, hl, B.e2 hk, B.e3 hk, fun h6 hs => ⟨_, _, .refl, kQ hk h6 hs⟩⟩
/-- the steps of a batch at a kind -/
abbrev Step := Nat × Nat × Stm
def stepD (x : Step) : D := .tup [.int (x.1 : Nat), .int (x.2.1 : Nat), stD x.2.2]
def enumN {α : Type} (k : Nat) : List α → List (Nat × α)
  | [] => []
  | x :: xs => (k, x) :: enumN (k + 1) xs
theorem enum_int {α : Type} : ∀ (k : Nat) (xs : List α), enumL (k : Int) xs = (enumN k xs).map fun p => ((p.1 : Int), p.2)
  | _, [] => rfl
  | k, x :: xs => by
    show ((k : Int), x) :: enumL ((k : Int) + 1) xs = _
    rw [show (k : Int) + 1 = ((k + 1 : Nat) : Int) by omega, enum_int (k + 1) xs]
    rfl
def bodyAt (ws : Ws) (w k : Str) : List Stm := (bodyOf ws w k).getD []
def stepsOf (ws : Ws) (k : Str) (xs : List Str) : List Step := (enumN 0 xs).flatMap fun p => (enumN 0 (bodyAt ws p.2 k)).map fun q => (p.1, q.1, q.2)
theorem goC2i_T {β : Type} {is : List Nat} {de : DE} (g f : β → D) (t : β → List D) {st1 : Mem → Prop} {ρ1 : Rho} {Q : List D → Mem → Prop} (hst : st1 M) : ∀ {ys : List β} {acc : List D}, acc.length + ys.length < sizeLine → (∀ y ∈ ys, g y = .tup (t y) ∧ (t y).length = is.length ∧ ∀ P1 : D → Mem → Prop, P1 (f y) M → de (putAll ρ1 is (t y)) M P1 noE) → Q (acc ++ ys.map f) M → goC2i (.tp is) dYes de st1 ρ1 Q (ys.map g) acc M
  | [], acc, _, _, hQ => ⟨hst, by simpa using hQ⟩
  | y :: ys, acc, hl, h, hQ => by
    have hl' : acc.length + (ys.length + 1) < sizeLine := hl
    obtain ⟨a1, a2, a3⟩ := h y List.mem_cons_self
    have key : de (putAll ρ1 is (t y)) M (fun e M3 => goC2i (.tp is) dYes de st1 ρ1 Q (ys.map g) (acc ++ [e]) M3) noE :=
      a3 _ (goC2i_T g f t hst (by rw [List.length_append]; simp; omega) (fun z hz => h z (List.mem_cons_of_mem _ hz)) (by simpa using hQ))
    exact ⟨hst, by omega, t y, a1, a2, @g_t _ _ (goC2i (.tp is) dYes de st1 ρ1 Q (ys.map g) acc M) key⟩
theorem lc2_T {α β : Type} {js is : List Nat} {di1 : DI} {de : DE} {vs1 : List Nat} {st : Mem → Prop} {ρ : Rho} (g : α → D) (u : α → List D) (ys : α → List β) (g1 : β → D) (t : β → List D) (f : α → β → D) {Q : List D → Mem → Prop} (hst : st M) : ∀ {xs : List α} {acc : List D}, acc.length + (xs.flatMap fun x => (ys x).map (f x)).length < sizeLine →
    (∀ x ∈ xs, g x = .tup (u x) ∧ (u x).length = js.length ∧ (∀ R : List D → (Mem → Prop) → Mem → Prop, (∀ st1 : Mem → Prop, st1 M → R ((ys x).map g1) st1 M) → di1 (putAll ρ js (u x)) M R noE) ∧ ∀ y ∈ ys x, g1 y = .tup (t y) ∧ (t y).length = is.length ∧ ∀ P1 : D → Mem → Prop, P1 (f x y) M → de (putAll (wipeD (putAll ρ js (u x)) vs1) is (t y)) M P1 noE) →
    Q (acc ++ xs.flatMap fun x => (ys x).map (f x)) M → goC2 (.tp js) dYes di1 (.tp is) dYes de vs1 st ρ Q (xs.map g) acc M
  | [], acc, _, _, hQ => ⟨hst, by simpa using hQ⟩
  | x :: xs, acc, hl, h, hQ => by
    rw [List.flatMap_cons] at hQ hl
    rw [List.length_append, List.length_map] at hl
    obtain ⟨e1, e2, h1, h2⟩ := h x List.mem_cons_self
    have key : di1 (putAll ρ js (u x)) M (fun its1 st1 M3 => goC2i (.tp is) dYes de st1 (wipeD (putAll ρ js (u x)) vs1) (fun acc' M4 => goC2 (.tp js) dYes di1 (.tp is) dYes de vs1 st ρ Q (xs.map g) acc' M4) its1 acc M3) noE :=
      h1 _ fun st1 hs1 => goC2i_T g1 (f x) t hs1 (by omega) h2 (lc2_T g u ys g1 t f hst (by rw [List.length_append, List.length_map]; omega) (fun z hz => h z (List.mem_cons_of_mem _ hz)) (by rw [List.append_assoc]; exact hQ))
    exact ⟨hst, u x, e1, e2, @g_t _ _ (goC2 (.tp js) dYes di1 (.tp is) dYes de vs1 st ρ Q (xs.map g) acc M) key⟩
theorem enumN_len {α : Type} : ∀ (k : Nat) (xs : List α), (enumN k xs).length = xs.length
  | _, [] => rfl
  | k, x :: xs => by show (enumN (k + 1) xs).length + 1 = _; rw [enumN_len]; rfl
theorem enumN_mem {α : Type} : ∀ {k : Nat} {xs : List α} {p : Nat × α}, p ∈ enumN k xs → p.2 ∈ xs
  | _, x :: xs, p, h => by
    rcases List.mem_cons.mp h with e | e
    · rw [e]; exact List.mem_cons_self
    · exact List.mem_cons_of_mem _ (enumN_mem e)
theorem flat_len {α β : Type} {n : Nat} (f : α → List β) : ∀ {xs : List α}, (∀ x ∈ xs, (f x).length ≤ n) → (xs.flatMap f).length ≤ xs.length * n
  | [], _ => Nat.zero_le _
  | x :: xs, h => by
    have ih := flat_len (n := n) f (xs := xs) fun z hz => h z (List.mem_cons_of_mem _ hz)
    have := h x List.mem_cons_self
    rw [List.flatMap_cons, List.length_append, List.length_cons, Nat.add_mul]
    omega
/-- what stands of a body: a few valid statements -/
theorem bodyAt_ok {fs : List Str} {rs : List Kd} {ws : Ws} (W : WsV fs rs ws) (w k : Str) : (bodyAt ws w k).length ≤ 6 ∧ ∀ s ∈ bodyAt ws w k, ∃ r ∈ rs, r.n = k ∧ StOk fs (namesW ws) r.ch.length s := by
  unfold bodyAt bodyOf
  cases e1 : ws.find? fun x => decide (x.1 = w) with
  | none => exact ⟨Nat.zero_le _, by simp⟩
  | some x =>
    have hx := List.mem_of_find?_eq_some e1
    simp only [Option.bind_some]
    cases e2 : x.2.find? fun y => decide (y.1 = k) with
    | none => exact ⟨Nat.zero_le _, by simp⟩
    | some y =>
      have hy := List.mem_of_find?_eq_some e2
      have hk := List.find?_some e2
      obtain ⟨r, hr, e, hl, hs⟩ := (W.ok x hx).ok y hy
      exact ⟨hl, fun s h => ⟨r, hr, by rw [e]; simpa using hk, hs s h⟩⟩
def dSteps (K : PySem.W.Frag) (cP : Addr) (sdB : SpD) : DS := sRet (dLc2 (iEn 0 (dVar 2)) (.tp [3, 4]) (dYes) (iEn 0 (dZK K (dMeth cP "body" sdB (dVar 0) (dCons (dVar 4) (dCons (dVar 1) (dNil)))))) (.tp [5, 6]) (dYes) (dTup (dCons (dVar 3) (dCons (dVar 5) (dCons (dVar 6) (dNil))))) [3, 4, 5, 6] [5, 6])
def spSteps (cP cG : Addr) : SpD := fun ds M Q _ => ∃ pr g fs rs root S ws bk ig k, ∃ xs : List Str, ds = [pr, .str k, .tup (xs.map .str)] ∧ Pm M pr cP cG g fs rs root S ws bk ig ∧ k ∈ namesOf rs ∧ (∀ x ∈ xs, x ∈ namesW ws) ∧ xs.length ≤ 6 ∧ Nd M ∧ Q (.lst ((stepsOf ws k xs).map stepD)) M
theorem pureSteps {cP cG cU : Addr} {y0 y1 y2 y3 y4 y5 y6 : Str} (h : spSteps cP cG ds M Qd Ed) : dSteps K cP (spBodyOf cP cG cU) (fun _ M' => Qd .non M') Qd (fun _ _ => False) (fun _ _ => False) (fun C dd _ M' => Ed C dd M') (start0 [y0, y1, y2, y3, y4, y5, y6] ds) M := by
  obtain ⟨pr, g, fs, rs, root, S, ws, bk, ig, k, xs, rfl, H, hk, hxs, hl, nd, q⟩ := h
  unfold dSteps
  walk_at "dl"
  refine ⟨_, _, .tup _, ?_⟩
  have e0 : (enumL 0 (xs.map D.str)).map prD = (enumN 0 xs).map fun p : Nat × Str => D.tup [.int (p.1 : Nat), .str p.2] := by
    have : ∀ (n : Nat) (ys : List Str), (enumL (n : Int) (ys.map D.str)).map prD = (enumN n ys).map fun p : Nat × Str => D.tup [.int (p.1 : Nat), .str p.2] := by
      intro n ys
      induction ys generalizing n with
      | nil => rfl
      | cons y ys ih =>
        have := ih (n + 1)
        show D.tup [.int (n : Int), .str y] :: (enumL ((n : Int) + 1) (ys.map D.str)).map prD = _
        rw [show (n : Int) + 1 = ((n + 1 : Nat) : Int) by omega, this]
        rfl
    exact this 0 xs
  rw [e0]
  have hlen : ((enumN 0 xs).flatMap fun p => (enumN 0 (bodyAt ws p.2 k)).map fun q => stepD (p.1, q.1, q.2)).length ≤ 36 := by
    have := flat_len (n := 6) (fun p : Nat × Str => (enumN 0 (bodyAt ws p.2 k)).map fun q => stepD (p.1, q.1, q.2)) (xs := enumN 0 xs) fun p _ => by
      rw [List.length_map, enumN_len]
      exact (bodyAt_ok H.W _ _).1
    rw [enumN_len] at this
    have : xs.length * 6 ≤ 6 * 6 := Nat.mul_le_mul_right _ hl
    omega
  refine lc2_T (M := M) (fun p : Nat × Str => D.tup [.int (p.1 : Nat), .str p.2]) (fun p => [.int (p.1 : Nat), .str p.2]) (fun p => enumN 0 (bodyAt ws p.2 k)) (fun q : Nat × Stm => D.tup [.int (q.1 : Nat), stD q.2]) (fun q => [.int (q.1 : Nat), stD q.2]) (fun p q => stepD (p.1, q.1, q.2)) trivial (lt_line (by show 0 + _ ≤ _; omega)) (fun p hp => ⟨rfl, rfl, fun R hR => ?_, fun q hq => ⟨rfl, rfl, fun P1 h1 => ?_⟩⟩) (.inl ?_)
  · walk_at "dl"
    refine ⟨_, H.at_, no_methP (by decide +kernel), ?_⟩
    walk_at "dl"
    have hw := hxs _ (enumN_mem hp)
    refine ⟨pr, g, fs, rs, root, S, ws, bk, ig, p.2, k, rfl, H, nd, fun z => absurd hw z, fun _ z => absurd hk z, fun _ _ => ?_⟩
    refine ⟨_, _, .refl, _, _, .tup _, ?_⟩
    have e1 : (enumL 0 ((bodyAt ws p.2 k).map stD)).map prD = (enumN 0 (bodyAt ws p.2 k)).map fun q : Nat × Stm => D.tup [.int (q.1 : Nat), stD q.2] := by
      have : ∀ (n : Nat) (ys : List Stm), (enumL (n : Int) (ys.map stD)).map prD = (enumN n ys).map fun q : Nat × Stm => D.tup [.int (q.1 : Nat), stD q.2] := by
        intro n ys
        induction ys generalizing n with
        | nil => rfl
        | cons y ys ih =>
          have := ih (n + 1)
          show D.tup [.int (n : Int), stD y] :: (enumL ((n : Int) + 1) (ys.map stD)).map prD = _
          rw [show (n : Int) + 1 = ((n + 1 : Nat) : Int) by omega, this]
          rfl
      exact this 0 _
    have := hR (fun _ => True) trivial
    rw [← e1] at this
    exact this
  · walk_at "dl"
    exact ⟨len_le_line (n := 3), h1⟩
  · unfold stepsOf at q
    rw [List.map_flatMap] at q
    simp only [List.map_map] at q
    exact q
end
end DL
namespace DL
variable [Wd]
open PySem L2 PySem.Spec PyProof.Rows
section
variable {M : Mem} {K : PySem.W.Frag} {ds : List D} {Qd : D → Mem → Prop} {Ed : XD}
/-! ### items -/
inductive Item where
  | call (c : Nat)
  | set (t i : Nat)
  deriving DecidableEq
def itD : Item → D
  | .call c => .tup [.str "call", .int (c : Nat)]
  | .set t i => .tup [.str "set", .int (t : Nat), .int (i : Nat)]
def itNK : Item → NestedKey
  | .call c => .tup [.text "call", .num (c : Nat)]
  | .set t i => .tup [.text "set", .num (t : Nat), .num (i : Nat)]
def itL : Item → List D
  | .call c => [.str "call", .int (c : Nat)]
  | .set t i => [.str "set", .int (t : Nat), .int (i : Nat)]
theorem itNK_of (x : Item) : toNK 8 (.tup (itL x)) = some (itNK x) := by cases x <;> rfl
theorem itD_L (x : Item) : itD x = .tup (itL x) := by cases x <;> rfl
theorem itNK_inj {x y : Item} (h : itNK x = itNK y) : x = y := by
  cases x <;> cases y <;> simp [itNK] at h ⊢ <;> omega
def itemOf (x : Step) : Item := match x.2.2 with
  | .call c _ => .call c
  | .set _ _ _ => .set x.1 x.2.1
def ordI (xs : List Item) : List Item := xs.foldl (fun a x => if x ∈ a then a else a ++ [x]) []
def itemsOf (ws : Ws) (k : Str) (xs : List Str) : List Item := ordI ((stepsOf ws k xs).map itemOf)
def dItemOf : DS := sSeq (sAsg (dVar 0) (gTp 3 (gsCons (gNm 1) (gsCons (gNm 2) (gsCons (gNm 3) (gsNil)))))) (sSeq (sIf (dB (dOp rEq (dOp rIx (dVar 3) (dC (.int 0))) (dC (.str ("call" : Str))))) (sRet (dTup (dCons (dC (.str ("call" : Str))) (dCons (dOp rIx (dVar 3) (dC (.int 1))) (dNil))))) (sNext)) (sRet (dTup (dCons (dC (.str ("set" : Str))) (dCons (dVar 1) (dCons (dVar 2) (dNil)))))))
def spItemOf : SpD := fun ds M Q _ => ∃ x : Step, ds = [stepD x] ∧ Q (itD (itemOf x)) M
theorem pureItemOf {y0 y1 y2 y3 : Str} (h : spItemOf ds M Qd Ed) : dItemOf (fun _ M' => Qd .non M') Qd (fun _ _ => False) (fun _ _ => False) (fun C dd _ M' => Ed C dd M') (start0 [y0, y1, y2, y3] ds) M := by
  obtain ⟨⟨t, i, s⟩, rfl, q⟩ := h
  unfold dItemOf
  walk_at "dl"
  refine ⟨_, rfl, rfl, _, _, rfl, _, _, rfl, _, _, rfl, rfl, ?_⟩
  cases s with
  | call c w =>
    walk_at "dl"
    refine ixt0 ?_
    walk_at "dl"
    refine g_ift (by decide +kernel) ?_
    walk_at "dl"
    refine ixt1 ?_
    walk_at "dl"
    exact ⟨len_le_line (n := 2), q⟩
  | set p f rs =>
    walk_at "dl"
    refine ixt0 ?_
    walk_at "dl"
    refine g_iff' (by decide +kernel) ?_
    walk_at "dl"
    exact ⟨len_le_line (n := 3), q⟩
/-- {k: v for x in xs}, tuples as keys -/
theorem dn_map {α : Type} {j : Nat} {ρ : Rho} {st : Mem → Prop} {dk dv : DE} (g : α → D) (ys : α → List D) (k : α → NestedKey) (f : α → D) {Q : List (D × D) → Mem → Prop} (hst : st M) : ∀ {xs : List α} {acc : List (D × D)}, (∀ x ∈ xs, toNK 8 (.tup (ys x)) = some (k x) ∧ (∀ P1 : D → Mem → Prop, P1 (.tup (ys x)) M → dk (put ρ j (some (g x))) M P1 noE) ∧ ∀ P1 : D → Mem → Prop, P1 (f x) M → dv (put ρ j (some (g x))) M P1 noE) →
    Q (xs.foldl (fun a x => putT a (.tup (ys x)) (k x) (f x)) acc) M → goN (.nm j) dYes dk dv st ρ Q (xs.map g) acc M
  | [], acc, _, hQ => ⟨hst, hQ⟩
  | x :: xs, acc, h, hQ => by
    obtain ⟨h1, h2, h3⟩ := h x List.mem_cons_self
    have key : dk (put ρ j (some (g x))) M (fun y M3 => ∃ zs kk, y = .tup zs ∧ toNK 8 (.tup zs) = some kk ∧ dv (put ρ j (some (g x))) M3 (fun e M4 => goN (.nm j) dYes dk dv st ρ Q (xs.map g) (putT acc (.tup zs) kk e) M4) noE) noE :=
      h2 _ ⟨ys x, k x, rfl, h1, h3 _ (dn_map g ys k f hst (fun y hy => h y (List.mem_cons_of_mem _ hy)) hQ)⟩
    exact ⟨hst, @g_t _ _ (goN (.nm j) dYes dk dv st ρ Q (xs.map g) acc M) key⟩
theorem g_dn {di : DI} {ct : CT} {dt : DT} {dk dv : DE} {vs : List Nat} {ρ : Rho} {E : XD} {Q : D → Mem → Prop} (q : di ρ M (fun ds st M1 => ds.length < sizeLine ∧ goN ct dt dk dv st (wipeD ρ vs) (fun acc M2 => NewM (.dit acc) (.dit acc) M2 Q) ds [] M1) E) : dDn di ct dt dk dv vs ρ M Q E := q
theorem fold_it : ∀ (xs as : List Item), xs.foldl (fun a x => putT a (.tup (itL x)) (itNK x) (.bl true)) (as.map fun x => (itD x, D.bl true)) = (xs.foldl (fun a x => if x ∈ a then a else a ++ [x]) as).map fun x => (itD x, D.bl true)
  | [], as => rfl
  | x :: xs, as => by
    rw [List.foldl_cons, List.foldl_cons, ← fold_it xs]
    congr 1
    by_cases h : x ∈ as
    · rw [if_pos h]
      unfold putT
      rw [if_pos]
      · rw [List.map_map]
        refine List.map_congr_left fun y _ => ?_
        show (if toNK 8 (itD y) = some (itNK x) then (itD y, D.bl true) else (itD y, D.bl true)) = _
        split <;> rfl
      · rw [List.any_eq_true]
        exact ⟨_, List.mem_map.mpr ⟨x, h, rfl⟩, by rw [itD_L, itNK_of]; simp⟩
    · rw [if_neg h, put_newT, List.map_append, ← itD_L]
      · rfl
      · intro e he z
        obtain ⟨y, hy, rfl⟩ := List.mem_map.mp he
        rw [itD_L, itNK_of] at z
        exact h (by rw [← itNK_inj (Option.some.inj z)]; exact hy)
def dItems (K : PySem.W.Frag) (sdS sdI : SpD) : DS := sRet (dCB rList (dCons (dDe (iAny (dZK K (dCall sdS (dCons (dVar 0) (dCons (dVar 1) (dCons (dVar 2) (dNil))))))) (.nm 3) (dYes) (dZK K (dCall sdI (dCons (dVar 3) (dNil)))) (dC (.bl true)) [3]) (dNil)))
/-- a new list of the items -/
def spItems (cP cG : Addr) : SpD := fun ds M Q _ => ∃ pr g fs rs root S ws bk ig k, ∃ xs : List Str, ds = [pr, .str k, .tup (xs.map .str)] ∧ Pm M pr cP cG g fs rs root S ws bk ig ∧ k ∈ namesOf rs ∧ (∀ x ∈ xs, x ∈ namesW ws) ∧ xs.length ≤ 6 ∧ Nd M ∧ ∀ p, Free p M → Q (.ptr p) ((p, MO.lst ((itemsOf ws k xs).map itD)) :: M)
theorem steps_len {fs : List Str} {rs : List Kd} {ws : Ws} (W : WsV fs rs ws) (k : Str) {xs : List Str} (hl : xs.length ≤ 6) : (stepsOf ws k xs).length ≤ 36 := by
  have := flat_len (n := 6) (fun p : Nat × Str => (enumN 0 (bodyAt ws p.2 k)).map fun q => ((p.1, q.1, q.2) : Step)) (xs := enumN 0 xs) fun p _ => by
    rw [List.length_map, enumN_len]
    exact (bodyAt_ok W _ _).1
  rw [enumN_len] at this
  have : xs.length * 6 ≤ 6 * 6 := Nat.mul_le_mul_right _ hl
  unfold stepsOf
  omega
theorem pureItems {cP cG : Addr} {y0 y1 y2 y3 : Str} (h : spItems cP cG ds M Qd Ed) : dItems K (spSteps cP cG) spItemOf (fun _ M' => Qd .non M') Qd (fun _ _ => False) (fun _ _ => False) (fun C dd _ M' => Ed C dd M') (start0 [y0, y1, y2, y3] ds) M := by
  obtain ⟨pr, g, fs, rs, root, S, ws, bk, ig, k, xs, rfl, H, hk, hxs, hl, nd, kQ⟩ := h
  unfold dItems
  walk_at "dl"
  refine .inr (g_dn ?_)
  walk_at "dl"
  refine ⟨pr, g, fs, rs, root, S, ws, bk, ig, k, xs, rfl, H, hk, hxs, hl, nd, ?_⟩
  refine ⟨_, _, .refl, ?_⟩
  have hsl := steps_len H.W k hl
  refine ⟨_, _, .lst (.lst _), lt_line (by rw [List.length_map]; omega), dn_map stepD (fun x => itL (itemOf x)) (fun x => itNK (itemOf x)) (fun _ => .bl true) trivial (fun x _ => ⟨itNK_of _, fun P1 h1 => ?_, fun P1 h1 => h1⟩) (.inl ?_)⟩
  · walk_at "dl"
    refine ⟨x, rfl, _, _, .refl, ?_⟩
    rw [itD_L]
    exact h1
  walk_at "dl"
  refine .dit (.dit _) (.inr fun p hp => ?_)
  have e : (stepsOf ws k xs).foldl (fun a x => putT a (.tup (itL (itemOf x))) (itNK (itemOf x)) (.bl true)) [] = (itemsOf ws k xs).map fun x => (itD x, D.bl true) := by
    unfold itemsOf ordI
    rw [← fold_it, List.foldl_map]
    rfl
  rw [e, List.map_map]
  exact kQ p hp
def dItemsOf (K : PySem.W.Frag) (sdB sdI : SpD) : DS := sSeq (sAsg (dZK K (dCall sdB (dCons (dVar 0) (dCons (dVar 1) (dCons (dVar 2) (dNil)))))) (gNm 3)) (sRet (dZK K (dCall sdI (dCons (dVar 0) (dCons (dVar 1) (dCons (dVar 3) (dNil)))))))
def spItemsOf (cP cG cL cU : Addr) : SpD := fun ds M Q E => ∃ pr g fs rs root S ws bk ig k d, ∃ xs : List Str, ds = [pr, .str k, d] ∧ Pm M pr cP cG g fs rs root S ws bk ig ∧ IsS M d (xs.map .str) ∧ Nd M ∧ xs.length ≤ 1000 ∧ BatchP E cL cU rs (namesW ws) k xs M ∧ (k ∈ namesOf rs → xs.length ≤ 6 → strange (namesW ws) xs = none → ∀ p, Free p M → Q (.ptr p) ((p, MO.lst ((itemsOf ws k xs).map itD)) :: M))
theorem strange_in {ws ns : List Str} (h : strange ws ns = none) : ∀ x ∈ ns, x ∈ ws := by
  intro x hx
  unfold strange at h
  have := List.find?_eq_none.mp h x hx
  simpa using this
theorem pureItemsOf {cP cG cL cU : Addr} {y0 y1 y2 y3 : Str} (h : spItemsOf cP cG cL cU ds M Qd Ed) : dItemsOf K (spBatch cP cG cL cU) (spItems cP cG) (fun _ M' => Qd .non M') Qd (fun _ _ => False) (fun _ _ => False) (fun C dd _ M' => Ed C dd M') (start0 [y0, y1, y2, y3] ds) M := by
  obtain ⟨pr, g, fs, rs, root, S, ws, bk, ig, k, d, xs, rfl, H, hd, nd, hl, B, kQ⟩ := h
  unfold dItemsOf
  walk_at "dl"
  refine ⟨pr, g, fs, rs, root, S, ws, bk, ig, k, d, xs, rfl, H, hd, nd, hl, ⟨B.e1, B.e2, B.e3⟩, fun hk h6 hs => ?_⟩
  refine ⟨_, _, .refl, ?_⟩
  walk_at "dl"
  exact ⟨pr, g, fs, rs, root, S, ws, bk, ig, k, xs, rfl, H, hk, strange_in hs, h6, nd, fun p hp => ⟨_, _, .refl, kQ hk h6 hs p hp⟩⟩
end
end DL
namespace DL
variable [Wd]
open PySem L2 PySem.Spec PyProof.Rows
/-! ### max(i, j), d.clear(), xs.count(text) -/
section
variable {X : Cx} {g : G}
inductive MaxC (M : Mem) (Q : D → Mem → Prop) : List D → Prop
  | two {i j : Int} : Q (.int (if j > i then j else i)) M → MaxC M Q [.int i, .int j]
theorem cd_max (hK : g.K = X.K) (hc : X.calm = true) : CallD X g (.builtin "max") (fun ds M Q => MaxC M Q ds) := by
  intro pins s σ H vs us k I r h
  obtain ⟨F, M, ds, Q, S, r1, q, kQ⟩ := h
  cases q with
  | two q =>
    cases r1 with
    | cons r1 rn =>
      cases rn with
      | cons r2 rn =>
        cases rn; cases r1; cases r2
        exact call_max2 hc pins s σ H _ us k I r ⟨_, _, rfl, kQ _ M F _ H q (Same.r F) S (.int _)⟩
abbrev rMax : DC := fun ds M Q => MaxC M Q ds
theorem dboot_max : bootBuiltins "max" = some (.builtin "max") := by decide +kernel
inductive ClrM (M : Mem) (Q : D → Mem → Prop) : D → List D → Prop
  | ptr {q : Addr} {es : List (Key × D)} {M' : Mem} : Upd q (.dic es) (.dic []) M M' → Q .non M' → ClrM M Q (.ptr q) []
theorem md_clear : MtD X g "dict.clear" (fun d ds M Q => ClrM M Q d ds) := by
  intro pins s σ H x vs v us k I rx rv h
  obtain ⟨F, M, d, ds, Q, S, r1, r2, q, kQ⟩ := h
  cases q with
  | ptr u q =>
    cases r1
    cases r2
    obtain ⟨_, o, ho, xs, rfl, l, rr⟩ := S.mem _ _ u.old
    exact mtd_clear pins s σ H _ _ v us k I rx rv ⟨_, xs, rfl, rfl, ho, kQ _ _ F _ _ q (Same.r F) (S.upd u ⟨[], rfl, rfl, .nil⟩) .non⟩
abbrev rClr : DM := fun d ds M Q => ClrM M Q d ds
/-! ### xs.count(text) -/
def eqs (k : Str) (v : Value) : Bool := match v with
  | .str y _ => y.cps.toList == k.cps.toList
  | _ => false
theorem eqs_gives {k : Str} {t : Tok} : ∀ {us : List Value} {ns : List Str}, StrsAre us ns → ∀ y ∈ us, MeetsSeq.EqGives y (.str k t) (eqs k y)
  | _, _, .nil => fun y hy => by cases hy
  | _, _, .cons n t' h => fun y hy => by
    rcases List.mem_cons.mp hy with e | e
    · rw [e]
      exact SeqRoads2.EqGives.str n k t' t
    · exact eqs_gives h y e
theorem eqs_count {k : Str} : ∀ {us : List Value} {ns : List Str}, StrsAre us ns → us.countP (eqs k) = ns.countP fun y => decide (y = k)
  | _, _, .nil => rfl
  | _, _, .cons n t h => by
    have ih := eqs_count (k := k) h
    rw [List.countP_cons, List.countP_cons, ih]
    have e : eqs k (.str n t) = decide (n = k) := by
      show (n.cps.toList == k.cps.toList) = _
      by_cases q : n = k
      · rw [q]; simp
      · have : ¬ n.cps.toList = k.cps.toList := fun z => q (by
          obtain ⟨a⟩ := n
          obtain ⟨b⟩ := k
          have : a = b := by simpa using z
          rw [this])
        rw [decide_eq_false q, beq_eq_false_iff_ne]
        exact this
    rw [e]
inductive CntM (M : Mem) (Q : D → Mem → Prop) : D → List D → Prop
  | lst {d : D} {ns : List Str} {k : Str} {st : Mem → Prop} : IsL M d (ns.map .str) st → Q (.int (ns.countP fun y => decide (y = k) : Nat)) M → CntM M Q d [.str k]
theorem md_count (hK : g.K = X.K) : MtD X g "list.count" (fun d ds M Q => CntM M Q d ds) := by
  intro pins s σ H x vs v us kk I rx rv h
  obtain ⟨F, M, d, ds, Q, S, r1, r2, q, kQ⟩ := h
  cases q with
  | lst hs q =>
    rename_i ns k st
    obtain ⟨p, xs, rfl, ha, ra, _⟩ := hs.sq S r1
    rw [hK] at ha
    rw [strs_rep ra] at ha
    cases r2 with
    | cons r2 rn =>
      cases rn
      cases r2
      cases rx
      obtain ⟨u, rfl, ru⟩ := rv.one
      obtain ⟨t, rfl⟩ := ru
      obtain ⟨its, rw_, ⟨⟨cls, dd, data, sl⟩, n, ho, hc, hdn, hd⟩, hlen⟩ := I.list ha
      simp only at hc hd
      subst hc hd
      have hi := strs_of_vals rw_
      refine call_meets PySem.F.slot_list_count ⟨_, ho, rfl⟩ PySem.F.entry_list_count (PySem.F.args_list_count_2 _ _)
        (SeqAt.list_countAt p its.toArray n dd sl (.str k t) (eqs k)) ⟨ho, fun y hy => (eqs_gives hi y (by simpa using hy)).at _ _, ?_⟩
      have ec : its.toArray.toList.countP (eqs k) = ns.countP fun y => decide (y = k) := eqs_count hi
      refine ⟨.int (ns.countP fun y => decide (y = k) : Nat), H, I.tok _, ⟨s.toks, ?_⟩, kQ _ M F _ H q (Same.r F) S (.int _)⟩
      show Value.int ((its.toArray.toList.countP (eqs k) : Nat) : Int) s.toks = Value.int ((ns.countP fun y => decide (y = k) : Nat) : Int) s.toks
      rw [ec]
abbrev rCnt : DM := fun d ds M Q => CntM M Q d ds
end
end DL
namespace DL
variable [Wd]
open PySem L2 PySem.Spec PyProof.Rows
/-! ### the families that rounds over the kinds reach (law k02) -/
def stepR (L : Tab) (r : Kd) : Tab := if allL L r.ch = true then stepL L r else L
def roundL (rs : List Kd) (L : Tab) : Tab := rs.foldl stepR L
def roundsL (rs : List Kd) : Nat → Tab
  | 0 => []
  | n + 1 => roundL rs (roundsL rs n)
def Sub (L L' : Tab) : Prop := ∀ f, (getN L f).isSome = true → (getN L' f).isSome = true
theorem put_sub (L : Tab) (s : Str) (n : Nat) : Sub L (putN L s n) := fun f h => by
  rw [get_put]
  by_cases q : f = s
  · rw [if_pos q]; rfl
  · rw [if_neg q]; exact h
theorem stepR_sub (L : Tab) (r : Kd) : Sub L (stepR L r) := by
  unfold stepR stepL
  split
  · split
    · exact put_sub _ _ _
    · exact fun _ h => h
  · exact fun _ h => h
theorem fold_sub : ∀ (rs : List Kd) (L : Tab), Sub L (rs.foldl stepR L)
  | [], _ => fun _ h => h
  | r :: rs, L => fun f h => fold_sub rs _ f (stepR_sub L r f h)
theorem all_sub {L L' : Tab} (h : Sub L L') {ch : List Str} (ha : allL L ch = true) : allL L' ch = true := by
  unfold allL at ha ⊢
  rw [List.all_eq_true] at ha ⊢
  exact fun c hc => h c (ha c hc)
theorem stepR_key {L : Tab} {r : Kd} (ha : allL L r.ch = true) : (getN (stepR L r) r.f).isSome = true := by
  unfold stepR stepL
  rw [if_pos ha]
  split
  · rw [get_put, if_pos rfl]; rfl
  · rename_i h
    obtain ⟨n, e, _⟩ := newer_no (by simpa using h)
    rw [e]; rfl
theorem stepR_only {L : Tab} {r : Kd} {f : Str} (h : (getN (stepR L r) f).isSome = true) : (getN L f).isSome = true ∨ f = r.f := by
  unfold stepR stepL at h
  split at h
  · split at h
    · rw [get_put] at h
      by_cases q : f = r.f
      · exact .inr q
      · rw [if_neg q] at h; exact .inl h
    · exact .inl h
  · exact .inl h
/-- no row of a table stands twice, and all are families -/
structure TabOk (rs : List Kd) (L : Tab) : Prop where
  nd : (L.map (·.1)).Nodup
  fam : ∀ x ∈ L.map (·.1), x ∈ famsOf rs
  tr : ∀ f n, getN L f = some n → Tr rs f n
theorem keys_putN {S : Tab} {s x : Str} {n : Nat} (h : x ∈ (putN S s n).map (·.1)) : x ∈ S.map (·.1) ∨ x = s := by
  unfold putN at h
  split at h
  · rw [List.map_map] at h
    obtain ⟨p, hp, e⟩ := List.mem_map.mp h
    refine .inl (List.mem_map.mpr ⟨p, hp, ?_⟩)
    rw [← e]
    show p.1 = (if p.1 = s then (p.1, n) else p).1
    split <;> rfl
  · rw [List.map_append] at h
    rcases List.mem_append.mp h with h | h
    · exact .inl h
    · exact .inr (by simpa using h)
theorem TabOk.step {rs : List Kd} {L : Tab} {r : Kd} (h : TabOk rs L) (hr : r ∈ rs) : TabOk rs (stepR L r) := by
  unfold stepR stepL
  split
  · rename_i ha
    split
    · refine ⟨keys_put h.nd, fun x hx => ?_, fun f n e => ?_⟩
      · rcases keys_putN hx with q | q
        · exact h.fam x q
        · rw [q]; exact ord_mem (List.mem_map.mpr ⟨r, hr, rfl⟩)
      · rw [get_put] at e
        by_cases q : f = r.f
        · rw [if_pos q] at e
          cases e
          rw [q]
          exact .mk hr (Trs.sum h.tr ha)
        · rw [if_neg q] at e
          exact h.tr f n e
    · exact h
  · exact h
theorem TabOk.fold {rs : List Kd} : ∀ {qs : List Kd} {L : Tab}, (∀ r ∈ qs, r ∈ rs) → TabOk rs L → TabOk rs (qs.foldl stepR L)
  | [], _, _, h => h
  | q :: qs, _, hq, h => TabOk.fold (qs := qs) (fun r hr => hq r (List.mem_cons_of_mem _ hr)) (h.step (hq q List.mem_cons_self))
theorem TabOk.rounds (rs : List Kd) : ∀ n, TabOk rs (roundsL rs n)
  | 0 => ⟨List.nodup_nil, by simp [roundsL], fun f n e => by cases e⟩
  | n + 1 => TabOk.fold (fun _ h => h) (TabOk.rounds rs n)
def Closed (rs : List Kd) (L : Tab) : Prop := ∀ r ∈ rs, allL L r.ch = true → (getN L r.f).isSome = true
mutual
theorem closed_tr {rs : List Kd} {L : Tab} (h : Closed rs L) : ∀ {f : Str} {n : Nat}, Tr rs f n → (getN L f).isSome = true
  | _, _, .mk hr ht => h _ hr (closed_trs h ht)
theorem closed_trs {rs : List Kd} {L : Tab} (h : Closed rs L) : ∀ {ch : List Str} {n : Nat}, Trs rs ch n → allL L ch = true
  | _, _, .nil => rfl
  | _, _, .cons t ts => by
    unfold allL
    rw [List.all_cons, closed_tr h t]
    exact closed_trs h ts
end
theorem key_mem {L : Tab} {f : Str} (h : (getN L f).isSome = true) : f ∈ L.map (·.1) := by
  unfold getN at h
  cases e : L.find? fun p => decide (p.1 = f) with
  | none => rw [e] at h; cases h
  | some p => exact List.mem_map.mpr ⟨p, List.mem_of_find?_eq_some e, by simpa using List.find?_some e⟩
theorem mem_key {L : Tab} {f : Str} (h : f ∈ L.map (·.1)) : (getN L f).isSome = true := by
  obtain ⟨n, e⟩ := get_key h
  rw [e]; rfl
/-- a round that reaches no family more leaves nothing to do -/
theorem closed_or {rs : List Kd} {L : Tab} (h : TabOk rs L) : Closed rs (roundL rs L) ∨ L.length < (roundL rs L).length := by
  have h' : TabOk rs (roundL rs L) := TabOk.fold (fun _ h => h) h
  by_cases hs : Sub (roundL rs L) L
  · left
    intro r hr ha
    have key : ∀ (qs : List Kd) (L0 : Tab), r ∈ qs → Sub L L0 → (getN (qs.foldl stepR L0) r.f).isSome = true := by
      intro qs
      induction qs with
      | nil => intro L0 hr _; cases hr
      | cons q qs ih =>
        intro L0 hr h0
        rcases List.mem_cons.mp hr with e | e
        · subst e
          exact fold_sub qs _ _ (stepR_key (all_sub (fun f z => h0 f (hs f z)) ha))
        · exact ih _ e fun f z => stepR_sub L0 q f (h0 f z)
    exact key rs L hr fun _ z => z
  · right
    obtain ⟨f, hf⟩ := Classical.not_forall.mp hs
    obtain ⟨h1, h2⟩ := Classical.not_imp.mp hf
    have hn : f ∉ L.map (·.1) := fun z => h2 (mem_key z)
    have := nodup_le (ys := (roundL rs L).map (·.1)) (List.nodup_cons.mpr ⟨hn, h.nd⟩) fun x hx => by
      rcases List.mem_cons.mp hx with e | e
      · rw [e]; exact key_mem h1
      · exact key_mem (fold_sub rs L x (mem_key e))
    rw [List.length_cons, List.length_map, List.length_map] at this
    omega
theorem Closed.round {rs : List Kd} {L : Tab} (h : Closed rs L) : Closed rs (roundL rs L) := by
  have key : ∀ (qs : List Kd) (L0 : Tab), (∀ r ∈ qs, r ∈ rs) → (∀ f, (getN L0 f).isSome = (getN L f).isSome) → ∀ f, (getN (qs.foldl stepR L0) f).isSome = (getN L f).isSome := by
    intro qs
    induction qs with
    | nil => intro L0 _ h0; exact h0
    | cons q qs ih =>
      intro L0 hq h0
      refine ih _ (fun r hr => hq r (List.mem_cons_of_mem _ hr)) fun f => ?_
      have h1 : (getN (stepR L0 q) f).isSome = true ↔ (getN L f).isSome = true := by
        constructor
        · intro z
          by_cases ha : allL L0 q.ch = true
          · rcases stepR_only z with z | z
            · rw [← h0 f]; exact z
            · rw [z]
              exact h q (hq q List.mem_cons_self) (all_sub (fun f z => by rw [← h0 f]; exact z) ha)
          · unfold stepR at z
            rw [if_neg ha] at z
            rw [← h0 f]; exact z
        · intro z
          exact stepR_sub L0 q f (by rw [h0 f]; exact z)
      exact Bool.eq_iff_iff.mpr h1
  have e := key rs L (fun _ h => h) fun _ => rfl
  intro r hr ha
  have e' : (getN (roundL rs L) r.f).isSome = (getN L r.f).isSome := e r.f
  rw [e']
  exact h r hr (all_sub (fun f z => by rw [← e f]; exact z) ha)
theorem rounds_closed (rs : List Kd) : Closed rs (roundsL rs rs.length) := by
  have key : ∀ n, Closed rs (roundsL rs n) ∨ n ≤ (roundsL rs n).length := by
    intro n
    induction n with
    | zero => exact .inr (Nat.zero_le _)
    | succ n ih =>
      rcases ih with h | h
      · exact .inl h.round
      · rcases closed_or (TabOk.rounds rs n) with c | c
        · exact .inl c
        · exact .inr (by show n + 1 ≤ (roundL rs (roundsL rs n)).length; omega)
  rcases key rs.length with h | h
  · exact h
  · intro r hr _
    have T := TabOk.rounds rs rs.length
    apply Classical.byContradiction
    intro hn
    have hn' : r.f ∉ (roundsL rs rs.length).map (·.1) := fun z => hn (mem_key z)
    have h1 := nodup_le (ys := famsOf rs) (List.nodup_cons.mpr ⟨hn', T.nd⟩) fun x hx => by
      rcases List.mem_cons.mp hx with e | e
      · rw [e]; exact ord_mem (List.mem_map.mpr ⟨r, hr, rfl⟩)
      · exact T.fam x e
    have h2 := ord_le (rs.map (·.f)) []
    rw [List.length_cons, List.length_map] at h1
    rw [List.length_map] at h2
    have h3 : (famsOf rs).length ≤ rs.length := by simpa [famsOf, ordS] using h2
    omega
/-- after as many rounds as there are kinds: a family is reached just if it has a tree -/
theorem reached_iff (rs : List Kd) (f : Str) : (getN (roundsL rs rs.length) f).isSome = true ↔ ∃ m, Tr rs f m := by
  constructor
  · intro h
    cases e : getN (roundsL rs rs.length) f with
    | none => rw [e] at h; cases h
    | some n => exact ⟨n, (TabOk.rounds rs rs.length).tr f n e⟩
  · rintro ⟨m, h⟩
    exact closed_tr (rounds_closed rs) h
end DL
namespace DL
variable [Wd]
open PySem L2 PySem.Spec PyProof.Rows
/-! ### the program finds every size just if every family has a tree (law k02) -/
theorem full_iff {rs : List Kd} {S L : Tab} (nd : (rs.map (·.n)).Nodup) (z : Szs rs S L) (h : ∀ r ∈ rs, Settled S L r) (hc : ∀ r ∈ rs, ∀ c ∈ r.ch, c ∈ famsOf rs) : ¬ S.length < rs.length ↔ ∀ f ∈ famsOf rs, ∃ m, Tr rs f m := by
  constructor
  · intro hf f hm
    obtain ⟨r, hr, rfl⟩ := fam_kind hm
    have hk : r.n ∈ S.map (·.1) := by
      apply Classical.byContradiction
      intro hn
      have : (r.n :: S.map (·.1)).length ≤ (rs.map (·.n)).length := nodup_le (List.nodup_cons.mpr ⟨hn, z.kS⟩) fun x hx => by
        rcases List.mem_cons.mp hx with e | e
        · rw [e]; exact List.mem_map.mpr ⟨r, hr, rfl⟩
        · obtain ⟨n, en⟩ := get_key e
          obtain ⟨r', hr', e', _⟩ := z.sS _ n en
          rw [← e']; exact List.mem_map.mpr ⟨r', hr', rfl⟩
      rw [List.length_cons, List.length_map, List.length_map] at this
      omega
    obtain ⟨n, en⟩ := get_key hk
    obtain ⟨r', hr', e', m, ht, _⟩ := z.sS _ n en
    have := nodup_one nd hr' hr e'
    subst this
    exact ⟨_, .mk hr ht⟩
  · intro hf
    exact full_of nd z h fun r hr => trs_all fun c hcc => hf c (hc r hr c hcc)
/-- what any([xs.count(x) > 1 for x in xs]) tells -/
theorem count_nodup (xs : List Str) : (xs.any fun x => decide (1 < xs.countP fun y => decide (y = x))) = false ↔ xs.Nodup := by
  rw [List.any_eq_false]
  constructor
  · intro h
    have key : ∀ (ys : List Str), (∀ x ∈ ys, ys.countP (fun y => decide (y = x)) ≤ 1) → ys.Nodup := by
      intro ys
      induction ys with
      | nil => intro _; exact List.nodup_nil
      | cons y ys ih =>
        intro h
        refine List.nodup_cons.mpr ⟨fun hy => ?_, ih fun x hx => ?_⟩
        · have h1 := h y List.mem_cons_self
          rw [List.countP_cons] at h1
          have h2 : 0 < ys.countP fun z => decide (z = y) := List.countP_pos_iff.mpr ⟨y, hy, by simp⟩
          rw [if_pos (by simp)] at h1
          omega
        · have h1 := h x (List.mem_cons_of_mem _ hx)
          rw [List.countP_cons] at h1
          omega
    exact key xs fun x hx => by
      have := h x hx
      simp at this
      exact this
  · intro hn x hx
    have key : ∀ (ys : List Str), ys.Nodup → ys.countP (fun y => decide (y = x)) ≤ 1 := by
      intro ys
      induction ys with
      | nil => intro _; exact Nat.zero_le _
      | cons y ys ih =>
        intro hn
        obtain ⟨h1, h2⟩ := List.nodup_cons.mp hn
        rw [List.countP_cons]
        by_cases q : y = x
        · subst q
          have h0 : ys.countP (fun z => decide (z = y)) = 0 := by
            rw [List.countP_eq_zero]
            intro z hz e
            exact h1 (by rw [← of_decide_eq_true e]; exact hz)
          rw [h0]
          simp
        · have := ih h2
          simp [q]
          simpa using this
    have := key xs hn
    simp
    exact this
theorem ord_lt_iff (xs : List Str) : (ordS xs).length < xs.length ↔ ¬ xs.Nodup := by
  constructor
  · intro h hn
    rw [ord_nodup hn] at h
    omega
  · intro h
    apply Classical.byContradiction
    intro hn
    exact h (ord_len hn)
end DL
namespace DL
variable [Wd]
open PySem L2 PySem.Spec PyProof.Rows
/-! ### _law_sizes of law k02 -/
section
variable {M : Mem} {K : PySem.W.Frag} {ds : List D} {Qd : D → Mem → Prop} {Ed : XD}
def dSizes (K : PySem.W.Frag) : DS := sSeq (sAsg (dDic) (gNm 1)) (sSeq (sFor (iRg1 (dCons (dCB rLen (dCons (dVar 0) (dNil))) (dNil))) (gNm 2) (sFor (iAny (dVar 0)) (gNm 3) (sIf (dB (dCB rAll (dCons (dLc (iAny (dOp rIx (dVar 3) (dC (.int 2)))) (.nm 4) (dYes) (dOp rIn (dVar 4) (dVar 1)) [4]) (dNil)))) (sSeq (sAsg (dOp rAdd (dC (.int 1)) (dCB rSum (dCons (dLc (iAny (dOp rIx (dVar 3) (dC (.int 2)))) (.nm 4) (dYes) (dOp rIx (dVar 1) (dVar 4)) [4]) (dNil)))) (gNm 5)) (sIf (dOr (dB (dOp rNin (dOp rIx (dVar 3) (dC (.int 1))) (dVar 1))) (dB (dOp rLt (dVar 5) (dOp rIx (dVar 1) (dOp rIx (dVar 3) (dC (.int 1))))))) (sAsg (dZK K (dVar 5)) (gSub (dVar 1) (dOp rIx (dVar 3) (dC (.int 1))))) (sNext))) (sNext)))) (sRet (dZK K (dVar 1))))
def spSizes : SpD := fun ds M Q _ => ∃ rs : List Kd, ds = [.lst (rs.map kdL)] ∧ rs.length ≤ 1000 ∧ (∀ r ∈ rs, r.ch.length ≤ 1000) ∧ Nd M ∧ ∀ M', Nd M' → Fr [] M M' → Q (.dic (emb (roundsL rs rs.length))) M'
theorem in_tab {M : Mem} {q : Addr} {S : Tab} {s : Str} {Q : D → Mem → Prop} (h : (q, MO.dic (emb S)) ∈ M) (k : Q (.bl (getN S s).isSome) M) : rIn (.str s) (.ptr q) M Q := by
  refine InR.dic (k := .inr s) (.ptr h) ?_
  rw [look_emb, ne_false]
  cases e : getN S s with
  | none => rw [e] at k; exact k
  | some n => rw [e] at k; exact k
theorem all_is {L : Tab} : ∀ ch : List Str, (ch.map fun c => (getN L c).isSome).all id = allL L ch
  | [] => rfl
  | c :: ch => by
    have ih := all_is (L := L) ch
    rw [List.map_cons, List.all_cons, ih]
    unfold allL
    rw [List.all_cons]
    rfl
/-- one row -/
theorem stepR_wp {h : Addr} {L : Tab} {r : Kd} {d0 d2 x4 x5 : Option D} {nx : NX} {rt : D → Mem → Prop} {bk ct : NX} {ex : Addr → Addr → Rho → Mem → Prop} (nd : Nd M) (hm : (h, MO.dic (emb L)) ∈ M) (hc : r.ch.length ≤ 1000) (hl : L.length ≤ 100000)
    (k : ∀ x5' M', Nd M' → (h, MO.dic (emb (stepR L r))) ∈ M' → Fr [h] M M' → nx [d0, some (.ptr h), d2, some (kdL r), x4, x5'] M') :
    (sIf (dB (dCB rAll (dCons (dLc (iAny (dOp rIx (dVar 3) (dC (.int 2)))) (.nm 4) (dYes) (dOp rIn (dVar 4) (dVar 1)) [4]) (dNil)))) (sSeq (sAsg (dOp rAdd (dC (.int 1)) (dCB rSum (dCons (dLc (iAny (dOp rIx (dVar 3) (dC (.int 2)))) (.nm 4) (dYes) (dOp rIx (dVar 1) (dVar 4)) [4]) (dNil)))) (gNm 5)) (sIf (dOr (dB (dOp rNin (dOp rIx (dVar 3) (dC (.int 1))) (dVar 1))) (dB (dOp rLt (dVar 5) (dOp rIx (dVar 1) (dOp rIx (dVar 3) (dC (.int 1))))))) (sAsg (dZK K (dVar 5)) (gSub (dVar 1) (dOp rIx (dVar 3) (dC (.int 1))))) (sNext))) (sNext))
      nx rt bk ct ex [d0, some (.ptr h), d2, some (kdL r), x4, x5] M := by
  have hsz : (r.ch.map D.str).length < sizeLine := lt_line (by rw [List.length_map]; omega)
  walk_at "dl"
  refine ixt2 ?_
  refine ⟨_, _, .lst (.lst _), hsz, lc_map .str (fun c => .bl (getN L c).isSome) trivial (fun c _ P1 h1 => ?_) (.inl ?_)⟩
  · walk_at "dl"
    exact in_tab hm h1
  walk_at "dl"
  refine .lst (bs := r.ch.map fun c => (getN L c).isSome) (by rw [List.map_map]; exact .lst _) ?_
  simp only [if_true, all_is]
  walk_at "dl"
  cases ha : allL L r.ch with
  | false =>
    refine g_iff' rfl ?_
    walk_at "dl"
    refine k _ M nd ?_ Fr.refl
    unfold stepR
    rw [if_neg (by rw [ha]; exact Bool.false_ne_true)]
    exact hm
  | true =>
    refine g_ift rfl ?_
    walk_at "dl"
    refine ixt2 ?_
    refine ⟨_, _, .lst (.lst _), hsz, lc_map .str (fun c => .int (((getN L c).getD 0 : Nat))) trivial (fun c hcc P1 h1 => ?_) (.inl ?_)⟩
    · walk_at "dl"
      have hcs : (getN L c).isSome = true := List.all_eq_true.mp ha c hcc
      cases e : getN L c with
      | none => rw [e] at hcs; cases hcs
      | some n =>
        rw [e] at h1
        exact ix_tab hm e h1
    walk_at "dl"
    refine .lst (ns := r.ch.map fun c => (((getN L c).getD 0 : Nat) : Int)) (by rw [List.map_map]; exact .lst _) ?_
    rw [sum_cast]
    walk_at "dl"
    have ez : (1 : Int) + ((sumL L r.ch : Nat) : Int) = ((sumL L r.ch + 1 : Nat) : Int) := by omega
    rw [ez]
    have es : stepR L r = stepL L r := by unfold stepR; rw [if_pos ha]
    rw [es] at k
    unfold stepL at k
    generalize sumL L r.ch + 1 = z at k
    have put_it : newer L r.f z = true → ∀ ρ : Rho, ρ = [d0, some (.ptr h), d2, some (kdL r), x4, some (.int (z : Nat))] → sAsg (dZK K (dVar 5)) (gSub (dVar 1) (dOp rIx (dVar 3) (dC (.int 1)))) nx rt bk ct ex ρ M := by
      rintro hn ρ rfl
      walk_at "dl"
      refine ⟨_, _, .refl, ?_⟩
      walk_at "dl"
      refine ixt1 ?_
      obtain ⟨M2, U2⟩ := upd_ex (n := .dic (putD (emb L) (.inr r.f) (.int (z : Nat)))) nd hm
      refine SetQ.dic (k := .inr r.f) U2.up (lt_line (by unfold emb; rw [List.length_map]; omega)) (k _ M2 U2.nd ?_ U2.fr)
      have e := U2.at_
      rw [put_emb] at e
      rw [if_pos hn]
      exact e
    refine ixt1 ?_
    walk_at "dl"
    refine nin_tab hm ?_
    walk_at "dl"
    cases e : getN L r.f with
    | none =>
      refine g_ift rfl ?_
      refine g_t ?_
      exact put_it (by unfold newer; rw [e]) _ rfl
    | some n =>
      refine g_iff' rfl ?_
      walk_at "dl"
      refine ixt1 ?_
      refine ix_tab hm e ?_
      walk_at "dl"
      by_cases hn : z < n
      · refine g_ift (by simpa using hn) ?_
        exact put_it (by unfold newer; rw [e]; simpa using hn) _ rfl
      · refine g_iff' (by simpa using hn) ?_
        walk_at "dl"
        refine k _ M nd ?_ Fr.refl
        rw [if_neg (by unfold newer; rw [e]; simpa using hn)]
        exact hm
theorem TabOk.len {rs : List Kd} {L : Tab} (h : TabOk rs L) : L.length ≤ rs.length := by
  have h1 := nodup_le (ys := famsOf rs) h.nd h.fam
  have h2 := ord_le (rs.map (·.f)) []
  rw [List.length_map] at h1 h2
  have h3 : (famsOf rs).length ≤ rs.length := by simpa [famsOf, ordS] using h2
  omega
theorem pureSizes {y0 y1 y2 y3 y4 y5 : Str} (h : spSizes ds M Qd Ed) : dSizes K (fun _ M' => Qd .non M') Qd (fun _ _ => False) (fun _ _ => False) (fun C dd _ M' => Ed C dd M') (start0 [y0, y1, y2, y3, y4, y5] ds) M := by
  obtain ⟨rs, rfl, hrl, hch, nd, kQ⟩ := h
  unfold dSizes
  walk_at "dl"
  refine .inl (.inr fun h hh => ?_)
  walk_at "dl"
  refine isS_len (.lst _) ?_
  rw [List.length_map]
  walk_at "dl"
  refine ⟨by omega, by omega, ?_⟩
  let P : Nat → Rho → Mem → Prop := fun i ρ M' => (∃ x2 x3 x4 x5, ρ = [some (.lst (rs.map kdL)), some (.ptr h), x2, x3, x4, x5]) ∧ Nd M' ∧ (h, MO.dic (emb (roundsL rs i))) ∈ M' ∧ Fr [h] M M'
  refine goF_inv P (fun _ _ _ _ => trivial) (fun i d ρ M1 hd hP go hgo => ?_) (fun ρ M1 hP => ?_) ⟨⟨_, _, _, _, rfl⟩, nd_new hh nd, List.mem_cons_self, Fr.refl.cons⟩
  · obtain ⟨⟨x2, x3, x4, x5, rfl⟩, nd1, hm1, f1⟩ := hP
    walk_at "dl"
    refine ⟨_, _, .lst (.lst _), ?_⟩
    let P2 : Nat → Rho → Mem → Prop := fun j ρ M' => (∃ x3 x4 x5, ρ = [some (.lst (rs.map kdL)), some (.ptr h), some d, x3, x4, x5]) ∧ Nd M' ∧ (h, MO.dic (emb ((rs.take j).foldl stepR (roundsL rs i)))) ∈ M' ∧ Fr [h] M M'
    refine goF_inv P2 (fun _ _ _ _ => trivial) (fun j d2 ρ M2 hd2 hP go2 hgo2 => ?_) (fun ρ M2 hP => ?_) ⟨⟨_, _, _, rfl⟩, nd1, hm1, f1⟩
    · obtain ⟨⟨x3, x4, x5, rfl⟩, nd2, hm2, f2⟩ := hP
      rw [List.getElem?_map] at hd2
      cases ej : rs[j]? with
      | none => rw [ej] at hd2; cases hd2
      | some r =>
      rw [ej] at hd2
      cases hd2
      have hr := List.mem_of_getElem? ej
      have htk : rs.take (j + 1) = rs.take j ++ [r] := by rw [List.take_succ, ej]; rfl
      have hT : TabOk rs ((rs.take j).foldl stepR (roundsL rs i)) := TabOk.fold (fun q hq => List.mem_of_mem_take hq) (TabOk.rounds rs i)
      refine g_nm ?_
      refine stepR_wp (d0 := some (.lst (rs.map kdL))) (d2 := some d) nd2 hm2 (hch r hr) (by have := hT.len; omega) fun x5' M3 nd3 hm3 f3 => hgo2 _ _ ⟨⟨_, _, _, rfl⟩, nd3, ?_, f2.trans f3⟩
      rw [htk, List.foldl_append]
      exact hm3
    · obtain ⟨⟨x3, x4, x5, rfl⟩, nd2, hm2, f2⟩ := hP
      rw [List.length_map, List.take_of_length_le (Nat.le_refl _)] at hm2
      exact hgo _ _ ⟨⟨_, _, _, _, rfl⟩, nd2, hm2, f2⟩
  · obtain ⟨⟨x2, x3, x4, x5, rfl⟩, nd1, hm1, f1⟩ := hP
    rw [rng_len, Int.toNat_natCast] at hm1
    obtain ⟨M2, U2⟩ := del_ex nd1 hm1
    walk_at "dl"
    exact ⟨_, M2, .one U2.up rfl, kQ M2 U2.nd (fr1 hh f1 U2.fr)⟩
end
end DL
namespace DL
variable [Wd]
open PySem L2 PySem.Spec PyProof.Rows
/-! ### for c in a text -/
section
variable {X : Cx} {g : G} {W : WX} {tg e : Expr} {de : DE}
def lettersD (x : Str) : List D := x.cps.toList.map fun c => D.str ⟨#[c]⟩
theorem yields_txt {K : PySem.W.Frag} {F1 : Hp} {x : Str} : Yields K noH (Its x) F1 (lettersD x) (fun _ => True) := by
  refine ⟨fun _ _ e => (nomatch e), fun i d U F M H _ s S _ e => ?_, fun i U F M H _ s S _ hl => ?_⟩
  · unfold lettersD at e
    rw [List.getElem?_map] at e
    have hlt : i < x.cps.size := by
      cases h : x.cps.toList[i]? with
      | none => rw [h] at e; cases e
      | some c =>
        have := (List.getElem?_eq_some_iff.mp h).1
        simpa using this
    refine ⟨hlt, fun v H' ⟨eH, c, hc, ev⟩ => ?_⟩
    subst eH ev
    have hc' : x.cps.toList[i]? = some c := by simpa using hc
    rw [hc'] at e
    cases e
    exact ⟨F, Same.r F, S, .str _⟩
  · unfold lettersD at hl
    rw [List.length_map] at hl
    show x.cps.size ≤ i
    simpa using hl
def iTxt (de : DE) : DI := fun ρ M Q E => de ρ M (fun d M1 => ∃ x, d = .str x ∧ Q (lettersD x) (fun _ => True) M1) E
theorem di_txt (he : PE X e (liftE g W de)) : PI X tg e (liftI g W (iTxt de)) :=
  (pi_str he).imp fun σ H k ⟨ρ, M, F, Q, E, S, En, q, kQ, kE⟩ => ⟨ρ, M, F, _, E, S, En, q, fun d M' F' v H' ⟨x, ed, z⟩ s S' r => by
    subst ed
    cases r
    exact ⟨x, rfl, kQ _ _ M' g.U noH F' _ H' z (Same.r _) same_no s S' yields_txt⟩, kE⟩
theorem g_itxt {ρ : Rho} {M : Mem} {E : XD} {Q : List D → (Mem → Prop) → Mem → Prop} (q : de ρ M (fun d M1 => ∃ x, d = .str x ∧ Q (lettersD x) (fun _ => True) M1) E) : iTxt de ρ M Q E := q
end
end DL
local macro_rules | `(tactic| walk_at "dl") => `(tactic| repeat (first | (with_reducible first | refine DL.g_seq ?_ | refine DL.g_asg ?_ | refine DL.g_sif ?_ | refine DL.g_ret ?_ | refine DL.g_retN ?_ | refine DL.g_drop ?_ | refine DL.g_next ?_ | refine DL.g_cont ?_ | refine DL.g_brk ?_ | refine DL.g_sfor ?_ | refine DL.g_op ?_ | refine DL.g_c ?_ | refine DL.g_nil ?_ | refine DL.g_cons ?_ | refine DL.g_cb ?_ | refine DL.g_call ?_ | refine DL.g_tup ?_ | refine DL.g_lst ?_ | refine DL.g_B ?_ | refine DL.g_not ?_ | refine DL.g_and ?_ | refine DL.g_or ?_ | refine DL.g_if ?_ | refine DL.g_bl ?_ | refine DL.g_in ?_ | refine DL.g_nm ?_ | refine DL.g_fld ?_ | refine DL.IntB.int ?_ | refine DL.AddR.int ?_ | refine DL.SubR.int ?_ | refine DL.EqR.int ?_ | refine DL.EqR.str ?_ | refine DL.EqR.bl ?_ | refine DL.IntC.int ?_ | refine DL.IsR.non ?_ | refine DL.g_lc ?_ | refine DL.g_lc2 ?_ | refine DL.g_dc ?_ | refine DL.g_iany ?_ | refine DL.g_iitm ?_ | refine DL.g_irg1 ?_ | refine DL.g_sl ?_ | refine DL.g_onone ?_ | refine DL.g_osome ?_ | refine DL.g_con ?_ | refine DL.g_bm ?_ | refine DL.g_andV ?_ | refine DL.g_orV ?_ | refine DL.g_notV ?_ | refine DL.g_make ?_ | refine DL.g_meth ?_ | refine DL.g_listint ?_ | refine DL.g_fldS ?_ | refine DL.g_gsub ?_ | refine DL.g_zK ?_ | refine DL.g_try ?_ | refine DL.g_prop ?_ | refine DL.g_propS ?_ | refine DL.g_star ?_ | refine DL.g_xf ?_ | refine DL.g_makeK ?_ | refine DL.g_ival ?_ | refine DL.g_ien ?_ | refine DL.g_irg2 ?_ | refine DL.g_itxt ?_) | (refine DL.g_var (by first | assumption | rfl) ?_)))
namespace DL
variable [Wd]
open PySem L2 PySem.Spec PyProof.Rows
end DL
namespace DL
variable [Wd]
open PySem L2 PySem.Spec PyProof.Rows
/-! ### _law_due of law k02 -/
section
variable {M : Mem} {K : PySem.W.Frag} {ds : List D} {Qd : D → Mem → Prop} {Ed : XD}
def dDue (K : PySem.W.Frag) (sdS : SpD) : DS := sSeq (sAsg (dLc (iAny (dVar 1)) (.nm 4) (dYes) (dOp rIx (dVar 4) (dC (.int 0))) [4]) (gNm 3)) (sSeq (sAsg (dLst (dNil)) (gNm 5)) (sSeq (sFor (iAny (dVar 1)) (gNm 4) (sIf (dB (dOp rNin (dOp rIx (dVar 4) (dC (.int 1))) (dVar 5))) (sDrop (dBM "list" rApp (dVar 5) (dCons (dOp rIx (dVar 4) (dC (.int 1))) (dNil)))) (sNext))) (sSeq (sIf (dB (dOp rGt (dCB rLen (dCons (dVar 0) (dNil))) (dC (.int 6)))) (sRet (dTup (dCons (dC (.str ("limit" : Str))) (dCons (dC (.str ("fields" : Str))) (dNil))))) (sNext)) (sSeq (sIf (dB (dCB rAny (dCons (dLc (iAny (dVar 0)) (.nm 6) (dYes) (dOp rGt (dBM "list" rCnt (dVar 0) (dCons (dVar 6) (dNil))) (dC (.int 1))) [6]) (dNil)))) (sRet (dTup (dCons (dC (.str ("grammar" : Str))) (dCons (dC (.str ("fields" : Str))) (dNil))))) (sNext)) (sSeq (sIf (dOr (dB (dOp rEq (dCB rLen (dCons (dVar 1) (dNil))) (dC (.int 0)))) (dB (dCB rAny (dCons (dLc (iAny (dVar 3)) (.nm 6) (dYes) (dOp rGt (dBM "list" rCnt (dVar 3) (dCons (dVar 6) (dNil))) (dC (.int 1))) [6]) (dNil))))) (sRet (dTup (dCons (dC (.str ("grammar" : Str))) (dCons (dC (.str ("kinds" : Str))) (dNil))))) (sNext)) (sSeq (sIf (dB (dOp rGt (dCB rLen (dCons (dVar 1) (dNil))) (dC (.int 8)))) (sRet (dTup (dCons (dC (.str ("limit" : Str))) (dCons (dC (.str ("kinds" : Str))) (dNil))))) (sNext)) (sSeq (sIf (dB (dCB rAny (dCons (dLc (iAny (dVar 1)) (.nm 4) (dYes) (dOp rGt (dCB rLen (dCons (dOp rIx (dVar 4) (dC (.int 2))) (dNil))) (dC (.int 3))) [4]) (dNil)))) (sRet (dTup (dCons (dC (.str ("limit" : Str))) (dCons (dC (.str ("children" : Str))) (dNil))))) (sNext)) (sSeq (sIf (dB (dOp rGt (dCB rLen (dCons (dVar 5) (dNil))) (dC (.int 3)))) (sRet (dTup (dCons (dC (.str ("limit" : Str))) (dCons (dC (.str ("families" : Str))) (dNil))))) (sNext)) (sSeq (sFor (iAny (dVar 1)) (gNm 4) (sIf (dB (dCB rAny (dCons (dLc (iAny (dOp rIx (dVar 4) (dC (.int 2)))) (.nm 7) (dYes) (dOp rNin (dVar 7) (dVar 5)) [7]) (dNil)))) (sRet (dTup (dCons (dC (.str ("grammar" : Str))) (dCons (dC (.str ("children" : Str))) (dNil))))) (sNext))) (sSeq (sIf (dAnd (dB (dOp rIsn (dVar 2) (dC .non))) (dB (dOp rNin (dVar 2) (dVar 5)))) (sRet (dTup (dCons (dC (.str ("grammar" : Str))) (dCons (dC (.str ("root" : Str))) (dNil))))) (sNext)) (sSeq (sAsg (dZK K (dCall sdS (dCons (dVar 1) (dNil)))) (gNm 8)) (sSeq (sIf (dB (dCB rAny (dCons (dLc (iAny (dVar 5)) (.nm 7) (dYes) (dOp rNin (dVar 7) (dVar 8)) [7]) (dNil)))) (sRet (dTup (dCons (dC (.str ("grammar" : Str))) (dCons (dC (.str ("finite" : Str))) (dNil))))) (sNext)) (sRet (dTup (dCons (dC (.str ("" : Str))) (dCons (dC (.str ("" : Str))) (dNil)))))))))))))))))
/-- which error a grammar gives, as the law tells it -/
def errP : Bool × Str → Str × Str
  | (true, s) => ("grammar", s)
  | (false, s) => ("limit", s)
def endless (rs : List Kd) : Bool := (famsOf rs).any fun f => !(getN (roundsL rs rs.length) f).isSome
def dueG (xs : List Str) (rs : List Kd) (root : Option Str) : Str × Str :=
  match fieldsErr xs with
  | some e => errP e
  | none => match kindsErr rs (famsOf rs) with
    | some e => errP e
    | none => if rootBad rs root = true then ("grammar", "root") else if endless rs = true then ("grammar", "finite") else ("", "")
def pairD (p : Str × Str) : D := .tup [.str p.1, .str p.2]
def spDue : SpD := fun ds M Q _ => ∃ (xs : List Str) (rs : List Kd) (root : Option Str), ds = [.lst (xs.map .str), .lst (rs.map kdL), rootD root] ∧ xs.length ≤ 1000 ∧ rs.length ≤ 1000 ∧ (∀ r ∈ rs, r.ch.length ≤ 1000) ∧ Nd M ∧ ∀ M', Nd M' → Fr [] M M' → Q (pairD (dueG xs rs root)) M'
theorem any_more {xs : List Str} : (xs.map fun x => decide ((1 : Int) < ((xs.countP fun y => decide (y = x) : Nat) : Int))).any id = decide ((ordS xs).length < xs.length) := by
  have e : (xs.map fun x => decide ((1 : Int) < ((xs.countP fun y => decide (y = x) : Nat) : Int))).any id = xs.any fun x => decide (1 < xs.countP fun y => decide (y = x)) := by
    rw [any_map_id]
    congr 1
    funext x
    by_cases h : 1 < xs.countP fun y => decide (y = x)
    · simp only [h, decide_true]; simp; omega
    · simp only [h, decide_false]; simp; omega
  rw [e]
  cases h : xs.any fun x => decide (1 < xs.countP fun y => decide (y = x)) with
  | false =>
    have := (count_nodup xs).mp h
    rw [eq_comm, decide_eq_false_iff_not, ord_lt_iff]
    exact not_not_intro this
  | true =>
    rw [eq_comm, decide_eq_true_iff, ord_lt_iff]
    intro hn
    rw [(count_nodup xs).mpr hn] at h
    cases h
theorem due_fam {d0 d2 d3 : D} {rs : List Kd} {h : Addr} (nd : Nd M) (hm : (h, MO.lst []) ∈ M) (hl : rs.length ≤ 1000) {nx : NX} {rtn : D → Mem → Prop} {ex : Addr → Addr → Rho → Mem → Prop}
    (k : ∀ ρ M', (∃ x4, ρ = [some d0, some (.lst (rs.map kdL)), some d2, some d3, x4, some (.ptr h), none, none, none]) → Nd M' → (h, MO.lst ((famsOf rs).map .str)) ∈ M' → Fr [h] M M' → nx ρ M') :
    goF (gNm 4) (sIf (dB (dOp rNin (dOp rIx (dVar 4) (dC (.int 1))) (dVar 5))) (sDrop (dBM "list" rApp (dVar 5) (dCons (dOp rIx (dVar 4) (dC (.int 1))) (dNil)))) (sNext)) (fun _ => True) nx rtn ex (rs.map kdL) [some d0, some (.lst (rs.map kdL)), some d2, some d3, none, some (.ptr h), none, none, none] M := by
  let P : Nat → Rho → Mem → Prop := fun i ρ M' => (∃ x4, ρ = [some d0, some (.lst (rs.map kdL)), some d2, some d3, x4, some (.ptr h), none, none, none]) ∧ Nd M' ∧ (h, MO.lst ((ordS ((rs.map (·.f)).take i)).map .str)) ∈ M' ∧ Fr [h] M M'
  refine goF_inv P (fun _ _ _ _ => trivial) (fun i d ρ M' hd hP go hgo => ?_) (fun ρ M' hP => ?_) ⟨⟨_, rfl⟩, nd, hm, Fr.refl⟩
  · obtain ⟨⟨x5, rfl⟩, nd', hm', f'⟩ := hP
    obtain ⟨hlt, er⟩ := List.getElem?_eq_some_iff.mp hd
    rw [List.length_map] at hlt
    rw [List.getElem_map] at er
    subst er
    have et : ordS ((rs.map (·.f)).take (i + 1)) = if rs[i].f ∈ ordS ((rs.map (·.f)).take i) then ordS ((rs.map (·.f)).take i) else ordS ((rs.map (·.f)).take i) ++ [rs[i].f] := by
      rw [List.take_succ, List.getElem?_map, List.getElem?_eq_getElem hlt]
      unfold ordS
      rw [List.foldl_append]
      rfl
    walk_at "dl"
    refine ixt1 ?_
    walk_at "dl"
    refine nin_strs (.ptr hm') ?_
    walk_at "dl"
    by_cases hx : rs[i].f ∈ ordS ((rs.map (·.f)).take i)
    · refine g_iff' (by simp [hx]) ?_
      walk_at "dl"
      refine hgo _ _ ⟨⟨_, rfl⟩, nd', ?_, f'⟩
      rw [et, if_pos hx]
      exact hm'
    · refine g_ift (by simp [hx]) ?_
      walk_at "dl"
      refine ⟨.lst (.ptr hm'), ?_⟩
      walk_at "dl"
      refine ixt1 ?_
      walk_at "dl"
      obtain ⟨M2, U⟩ := upd_ex (n := .lst ((ordS ((rs.map (·.f)).take i)).map .str ++ [.str rs[i].f])) nd' hm'
      have hle := ord_le ((rs.map (·.f)).take i) []
      rw [List.length_take, List.length_map] at hle
      refine .ptr U.up (lt_line (by rw [List.length_map]; unfold ordS; simp at hle; omega)) (hgo _ _ ⟨⟨_, rfl⟩, U.nd, ?_, f'.trans U.fr⟩)
      rw [et, if_neg hx, List.map_append]
      exact U.at_
  · obtain ⟨hρ, nd', hm', f'⟩ := hP
    refine k ρ M' hρ nd' ?_ f'
    have : (rs.map (·.f)).take (rs.map kdL).length = rs.map (·.f) := List.take_of_length_le (by rw [List.length_map, List.length_map]; exact Nat.le_refl _)
    rw [this] at hm'
    exact hm'
theorem pureDue {y0 y1 y2 y3 y4 y5 y6 y7 y8 : Str} (h : spDue ds M Qd Ed) : dDue K spSizes (fun _ M' => Qd .non M') Qd (fun _ _ => False) (fun _ _ => False) (fun C dd _ M' => Ed C dd M') (start0 [y0, y1, y2, y3, y4, y5, y6, y7, y8] ds) M := by
  obtain ⟨xs, rs, root, rfl, hxl, hrl, hch, nd, kQ⟩ := h
  have hsz : (rs.map kdL).length < sizeLine := lt_line (by rw [List.length_map]; omega)
  have hnl : (namesOf rs).length = rs.length := by unfold namesOf; rw [List.length_map]
  unfold dDue
  walk_at "dl"
  refine ⟨_, _, .lst (.lst _), hsz, lc_map kdL (fun r => .str r.n) trivial (fun r _ P1 h1 => ?_) (.inl ?_)⟩
  · walk_at "dl"
    exact ixt0 h1
  rw [names_str]
  walk_at "dl"
  refine ⟨len_le_line (n := 0), .inr fun h hh => ?_⟩
  walk_at "dl"
  refine ⟨_, _, .lst (.lst _), ?_⟩
  refine due_fam (nd_new hh nd) List.mem_cons_self hrl fun ρ M1 hρ nd1 hm1 f1' => ?_
  obtain ⟨x4, rfl⟩ := hρ
  have f1 : Fr [] M M1 := fun z m _ hz => f1' _ _ (not_mem1 (ne_free hh hz)) (List.mem_cons_of_mem _ hz)
  have out : ∀ (p : Str × Str), dueG xs rs root = p → Qd (pairD p) M1 := fun p e => by rw [← e]; exact kQ M1 nd1 f1
  walk_at "dl"
  refine isS_len (.lst _) ?_
  rw [List.length_map]
  walk_at "dl"
  by_cases h6 : 6 < xs.length
  · refine g_ift (by simp; omega) ?_
    walk_at "dl"
    refine ⟨len_le_line (n := 2), out ("limit", "fields") ?_⟩
    unfold dueG fieldsErr
    rw [if_pos h6]
    rfl
  refine g_iff' (by simp; omega) ?_
  walk_at "dl"
  refine ⟨_, _, .lst (.lst _), lt_line (by rw [List.length_map]; omega), lc_map .str (fun x => .bl (decide ((1 : Int) < ((xs.countP fun y => decide (y = x) : Nat) : Int)))) trivial (fun x _ P1 h1 => ?_) (.inl ?_)⟩
  · walk_at "dl"
    refine ⟨.lst (.lst _), ?_⟩
    walk_at "dl"
    refine .lst (.lst _) ?_
    walk_at "dl"
    exact h1
  walk_at "dl"
  refine .lst (bs := xs.map fun x => decide ((1 : Int) < ((xs.countP fun y => decide (y = x) : Nat) : Int))) (by rw [List.map_map]; exact .lst _) ?_
  simp only [Bool.false_eq_true, if_false, any_more]
  walk_at "dl"
  by_cases ho : (ordS xs).length < xs.length
  · refine g_ift (by simpa using ho) ?_
    walk_at "dl"
    refine ⟨len_le_line (n := 2), out ("grammar", "fields") ?_⟩
    unfold dueG fieldsErr
    rw [if_neg h6, if_pos ho]
    rfl
  refine g_iff' (by simpa using ho) ?_
  have e0 : fieldsErr xs = none := (if_neg h6).trans (if_neg ho)
  have out2 : ∀ (e : Bool × Str), kindsErr rs (famsOf rs) = some e → Qd (pairD (errP e)) M1 := fun e h => out _ (by unfold dueG; rw [e0, h])
  walk_at "dl"
  refine isS_len (.lst _) ?_
  rw [List.length_map]
  walk_at "dl"
  by_cases h0 : rs.length = 0
  · refine g_ift (by simp [h0]) ?_
    refine g_t ?_
    walk_at "dl"
    refine ⟨len_le_line (n := 2), out2 (true, "kinds") ?_⟩
    unfold kindsErr
    rw [if_pos (.inl h0)]
  refine g_iff' (by simpa using h0) ?_
  walk_at "dl"
  refine ⟨_, _, .lst (.lst _), lt_line (by rw [List.length_map]; omega), lc_map .str (fun x => .bl (decide ((1 : Int) < (((namesOf rs).countP fun y => decide (y = x) : Nat) : Int)))) trivial (fun x _ P1 h1 => ?_) (.inl ?_)⟩
  · walk_at "dl"
    refine ⟨.lst (.lst _), ?_⟩
    walk_at "dl"
    refine .lst (.lst _) ?_
    walk_at "dl"
    exact h1
  walk_at "dl"
  refine .lst (bs := (namesOf rs).map fun x => decide ((1 : Int) < (((namesOf rs).countP fun y => decide (y = x) : Nat) : Int))) (by rw [List.map_map]; exact .lst _) ?_
  simp only [Bool.false_eq_true, if_false, any_more]
  rw [hnl]
  walk_at "dl"
  by_cases h1 : (ordS (namesOf rs)).length < rs.length
  · refine g_ift (by simpa using h1) ?_
    walk_at "dl"
    refine ⟨len_le_line (n := 2), out2 (true, "kinds") ?_⟩
    unfold kindsErr
    rw [if_pos (.inr h1)]
  refine g_iff' (by simpa using h1) ?_
  have n1 : ¬ (rs.length = 0 ∨ (ordS (rs.map (·.n))).length < rs.length) := fun z => z.elim h0 h1
  walk_at "dl"
  refine isS_len (.lst _) ?_
  rw [List.length_map]
  walk_at "dl"
  by_cases h8 : 8 < rs.length
  · refine g_ift (by simp; omega) ?_
    walk_at "dl"
    refine ⟨len_le_line (n := 2), out2 (false, "kinds") ?_⟩
    unfold kindsErr
    rw [if_neg n1, if_pos h8]
  refine g_iff' (by simp; omega) ?_
  walk_at "dl"
  refine ⟨_, _, .lst (.lst _), hsz, lc_map kdL (fun r => .bl (decide (3 < r.ch.length))) trivial (fun r _ P1 k1 => ?_) (.inl ?_)⟩
  · walk_at "dl"
    refine ixt2 ?_
    walk_at "dl"
    refine isS_len (.lst _) ?_
    rw [List.length_map]
    walk_at "dl"
    rw [show decide ((3 : Int) < ((r.ch.length : Nat) : Int)) = decide (3 < r.ch.length) by by_cases z : 3 < r.ch.length <;> simp [z] <;> omega]
    exact k1
  walk_at "dl"
  refine .lst (bs := rs.map fun r => decide (3 < r.ch.length)) (by rw [List.map_map]; exact .lst _) ?_
  simp only [Bool.false_eq_true, if_false, any_map_id]
  walk_at "dl"
  cases h3 : rs.any fun r => decide (3 < r.ch.length) with
  | true =>
    refine g_ift rfl ?_
    walk_at "dl"
    refine ⟨len_le_line (n := 2), out2 (false, "children") ?_⟩
    unfold kindsErr
    rw [if_neg n1, if_neg h8, if_pos h3]
  | false =>
  refine g_iff' rfl ?_
  have n3 : ¬ (rs.any fun r => decide (3 < r.ch.length)) = true := by rw [h3]; exact Bool.false_ne_true
  walk_at "dl"
  refine isS_len (.ptr hm1) ?_
  rw [List.length_map]
  walk_at "dl"
  by_cases hf : 3 < (famsOf rs).length
  · refine g_ift (by simp; omega) ?_
    walk_at "dl"
    refine ⟨len_le_line (n := 2), out2 (false, "families") ?_⟩
    unfold kindsErr
    rw [if_neg n1, if_neg h8, if_neg n3, if_pos hf]
  refine g_iff' (by simp; omega) ?_
  walk_at "dl"
  refine ⟨_, _, .lst (.lst _), ?_⟩
  let P : Nat → Rho → Mem → Prop := fun i ρ M' => (∃ x4, ρ = [some (.lst (xs.map .str)), some (.lst (rs.map kdL)), some (rootD root), some (.lst ((namesOf rs).map .str)), x4, some (.ptr h), none, none, none]) ∧ M' = M1 ∧ ∀ r ∈ rs.take i, ∀ c ∈ r.ch, c ∈ famsOf rs
  refine goF_inv P (fun _ _ _ _ => trivial) (fun i d ρ M' hd hP go hgo => ?_) (fun ρ M' hP => ?_) ⟨⟨_, rfl⟩, rfl, by simp⟩
  · obtain ⟨⟨x4, rfl⟩, rfl, hin⟩ := hP
    rw [List.getElem?_map] at hd
    cases ei : rs[i]? with
    | none => rw [ei] at hd; cases hd
    | some r =>
    rw [ei] at hd
    cases hd
    have hr := List.mem_of_getElem? ei
    have htk : rs.take (i + 1) = rs.take i ++ [r] := by rw [List.take_succ, ei]; rfl
    walk_at "dl"
    refine ixt2 ?_
    refine ⟨_, _, .lst (.lst _), lt_line (by rw [List.length_map]; have := hch r hr; omega), lc_map .str (fun c => .bl (decide (c ∉ famsOf rs))) trivial (fun c _ P1 k1 => ?_) (.inl ?_)⟩
    · walk_at "dl"
      refine nin_strs (.ptr hm1) ?_
      rw [show (decide (c ∈ famsOf rs) != true) = decide (c ∉ famsOf rs) by by_cases q : c ∈ famsOf rs <;> simp [q]]
      exact k1
    walk_at "dl"
    refine .lst (bs := r.ch.map fun c => decide (c ∉ famsOf rs)) (by rw [List.map_map]; exact .lst _) ?_
    simp only [Bool.false_eq_true, if_false, any_map_id]
    walk_at "dl"
    cases hc : r.ch.any fun c => decide (c ∉ famsOf rs) with
    | true =>
      refine g_ift rfl ?_
      walk_at "dl"
      refine ⟨len_le_line (n := 2), out2 (true, "children") ?_⟩
      unfold kindsErr
      rw [if_neg n1, if_neg h8, if_neg n3, if_neg hf, if_pos (List.any_eq_true.mpr ⟨r, hr, hc⟩)]
    | false =>
      refine g_iff' rfl ?_
      walk_at "dl"
      refine hgo _ _ ⟨⟨_, rfl⟩, rfl, fun q hq c hcc => ?_⟩
      rw [htk] at hq
      rcases List.mem_append.mp hq with e | e
      · exact hin q e c hcc
      · rw [List.mem_singleton.mp e] at hcc
        have := List.any_eq_false.mp hc c hcc
        simpa using this
  obtain ⟨⟨x4, rfl⟩, rfl, hin⟩ := hP
  rw [List.length_map, List.take_of_length_le (Nat.le_refl _)] at hin
  have nk : kindsErr rs (famsOf rs) = none := by
    unfold kindsErr
    rw [if_neg n1, if_neg h8, if_neg n3, if_neg hf, if_neg]
    intro z
    obtain ⟨r, hr, z⟩ := List.any_eq_true.mp z
    obtain ⟨c, hc, z⟩ := List.any_eq_true.mp z
    exact (of_decide_eq_true z) (hin r hr c hc)
  have out3 : dueG xs rs root = if rootBad rs root = true then (("grammar" : Str), ("root" : Str)) else if endless rs = true then (("grammar" : Str), ("finite" : Str)) else (("" : Str), ("" : Str)) := by unfold dueG; rw [e0, nk]
  walk_at "dl"
  have hroot : ∀ (ρ : Rho) (k : Bool → Mem → Prop) (E : XD), at_ ρ 2 = some (rootD root) → at_ ρ 5 = some (.ptr h) → k (rootBad rs root) M' → if (isN (rootD root) != true) = true then dB (dOp rNin (dVar 2) (dVar 5)) ρ M' k E else k false M' := by
    intro ρ k E h3 h8 hk
    cases root with
    | none => exact g_iff' rfl hk
    | some s =>
      refine g_ift rfl ?_
      refine g_B (g_op (g_var h3 (g_var h8 (nin_strs (.ptr hm1) ?_))))
      walk_at "dl"
      rw [show (decide (s ∈ famsOf rs) != true) = decide (s ∉ famsOf rs) by by_cases z : s ∈ famsOf rs <;> simp [z]]
      exact hk
  refine hroot _ _ _ rfl rfl ?_
  cases hb : rootBad rs root with
  | true =>
    refine g_ift rfl ?_
    walk_at "dl"
    exact ⟨len_le_line (n := 2), out ("grammar", "root") (by rw [out3, if_pos hb])⟩
  | false =>
  refine g_iff' rfl ?_
  rw [if_neg (by rw [hb]; exact Bool.false_ne_true)] at out3
  walk_at "dl"
  refine ⟨rs, rfl, hrl, hch, nd1, fun M2 nd2 f2 => ?_⟩
  refine ⟨_, _, .refl, ?_⟩
  have hm2 := f2 _ _ (by simp) hm1
  walk_at "dl"
  have hfl : (famsOf rs).length ≤ 3 := by omega
  refine ⟨_, _, .lst (.ptr hm2), lt_line (by rw [List.length_map]; omega), lc_map .str (fun f => .bl (!(getN (roundsL rs rs.length) f).isSome)) hm2 (fun f _ P1 k1 => ?_) (.inl ?_)⟩
  · walk_at "dl"
    refine InR.dic (k := .inr f) (.dic _) ?_
    rw [look_emb, ne_true]
    cases e : getN (roundsL rs rs.length) f with
    | none => rw [e] at k1; exact k1
    | some n => rw [e] at k1; exact k1
  walk_at "dl"
  refine .lst (bs := (famsOf rs).map fun f => !(getN (roundsL rs rs.length) f).isSome) (by rw [List.map_map]; exact .lst _) ?_
  simp only [Bool.false_eq_true, if_false, any_map_id]
  rw [show ((famsOf rs).any fun f => !(getN (roundsL rs rs.length) f).isSome) = endless rs from rfl]
  have out4 : ∀ p : Str × Str, dueG xs rs root = p → Qd (pairD p) M2 := fun p e => by rw [← e]; exact kQ M2 nd2 (f1.trans f2)
  walk_at "dl"
  cases he : endless rs with
  | true =>
    refine g_ift rfl ?_
    walk_at "dl"
    exact ⟨len_le_line (n := 2), out4 ("grammar", "finite") (by rw [out3, if_pos he])⟩
  | false =>
    refine g_iff' rfl ?_
    walk_at "dl"
    exact ⟨len_le_line (n := 2), out4 ("", "") (by rw [out3, if_neg (by rw [he]; exact Bool.false_ne_true)])⟩
end
end DL
namespace DL
variable [Wd]
open PySem L2 PySem.Spec PyProof.Rows
section
variable {M : Mem} {K : PySem.W.Frag} {ds : List D} {Qd : D → Mem → Prop} {Ed : XD}
/-- kinds that break no rule have their children's families among their own -/
theorem noErr_ch {rs : List Kd} (h : kindsErr rs (famsOf rs) = none) : (rs.map (·.n)).Nodup ∧ rs.length ≤ 8 ∧ ∀ r ∈ rs, ∀ c ∈ r.ch, c ∈ famsOf rs := by
  unfold kindsErr at h
  split at h
  · cases h
  rename_i e1
  split at h
  · cases h
  rename_i e2
  split at h
  · cases h
  split at h
  · cases h
  split at h
  · cases h
  rename_i e5
  refine ⟨ord_len (by rw [List.length_map]; exact fun z => e1 (.inr z)), by omega, fun r hr c hc => ?_⟩
  apply Classical.byContradiction
  intro z
  exact e5 (List.any_eq_true.mpr ⟨r, hr, List.any_eq_true.mpr ⟨c, hc, decide_eq_true z⟩⟩)
/-- the program's test of finiteness and the law's are one -/
theorem endless_iff {rs : List Kd} {S L : Tab} (h : kindsErr rs (famsOf rs) = none) (z : Szs rs S L) (hs : ∀ r ∈ rs, Settled S L r) : endless rs = true ↔ S.length < rs.length := by
  obtain ⟨nd, _, hc⟩ := noErr_ch h
  have f := full_iff nd z hs hc
  constructor
  · intro he
    apply Classical.byContradiction
    intro hn
    have hall := f.mp hn
    unfold endless at he
    obtain ⟨x, hx, hx2⟩ := List.any_eq_true.mp he
    have := (reached_iff rs x).mpr (hall x hx)
    rw [this] at hx2
    cases hx2
  · intro hl
    apply Classical.byContradiction
    intro hn
    refine absurd hl (f.mpr fun x hx => ?_)
    apply Classical.byContradiction
    intro hx2
    refine hn (List.any_eq_true.mpr ⟨x, hx, ?_⟩)
    cases e : (getN (roundsL rs rs.length) x).isSome with
    | true => exact absurd ((reached_iff rs x).mp e) hx2
    | false => rfl
/-- Grammar(..) by what is due: refused as dueG says, or made -/
theorem gram_due {cG cL cB q : Addr} {a b : D} {root : Option Str} {xs : List Str} {ps : List (Kd × D)} {Q : D → Mem → Prop} {E : XD} (hq : (q, MO.obj cG []) ∈ M) (nd : Nd M) (ha : IsS M a (xs.map .str)) (hx : xs.length ≤ 1000) (hb : IsS M b (rowsD ps)) (hpl : ps.length ≤ 1000) (hch : ∀ p ∈ ps, IsS M p.2 (p.1.ch.map .str))
    {rs : List Kd} (hrs : ps.map (·.1) = rs)
    (e1 : ∀ s M', dueG xs rs root = (("grammar" : Str), s) → Nd M' → Fr [] M M' → Errs E cB "part" s M') (e2 : ∀ s, dueG xs rs root = (("limit" : Str), s) → Errs E cL "limit" s M)
    (fin : ∀ M', dueG xs rs root = (("" : Str), ("" : Str)) → Nd M' → Fr [q] M M' → Q .non M') : spGram cG cL cB [.ptr q, a, b, rootD root] M Q E := by
  subst hrs
  refine ⟨q, a, b, root, xs, ps, rfl, hq, nd, ha, hx, hb, hpl, hch, ?_⟩
  unfold dueG at e1 e2 fin
  cases h1 : fieldsErr xs with
  | some e =>
    rw [h1] at e1 e2
    obtain ⟨bb, s⟩ := e
    cases bb
    · exact e2 s rfl
    · exact e1 s M rfl nd Fr.refl
  | none =>
  rw [h1] at e1 e2 fin
  show Out _ _ _ _ _ (kindsErr _ _)
  cases h2 : kindsErr (ps.map (·.1)) (famsOf (ps.map (·.1))) with
  | some e =>
    simp only [h2] at e1 e2
    obtain ⟨bb, s⟩ := e
    cases bb
    · exact e2 s rfl
    · exact e1 s M rfl nd Fr.refl
  | none =>
  simp only [h2] at e1 e2 fin
  show if rootBad (ps.map (·.1)) root = true then Errs E cB "part" "root" M else _
  cases h3 : rootBad (ps.map (·.1)) root with
  | true =>
    refine g_ift rfl ?_
    exact e1 "root" M (by rw [if_pos h3]) nd Fr.refl
  | false =>
  refine g_iff' rfl ?_
  rw [if_neg (by rw [h3]; exact Bool.false_ne_true)] at e1 fin
  rintro S M5 nd5 ⟨L, hz, hS⟩
  have he := endless_iff h2 hz hS
  rw [List.length_map] at he
  refine ⟨fun hl f5 => e1 "finite" M5 (by rw [if_pos (he.mpr hl)]) nd5 f5, fun hl h5 f5 => fin M5 (by rw [if_neg fun z => hl (he.mp z)]) nd5 f5⟩
end
end DL
namespace Q
open PySem PySem.Spec PyProof.Rows L2 DL
variable [Wd]
def top (i : Nat) : Stmt := PySem.Challenge.pw_fusewalks_k02_grammar_refused.main.body.getD i (.Pass ⟨0, 0, 0, 0⟩)
/-- where things stand -/
structure Ad where
  c_LimitExceeded : Addr
  c_BadGrammar : Addr
  c_Grammar : Addr
  c_WalkError : Addr
  f__in_order : Addr
  f__least_sizes : Addr
  f__law_source : Addr
  f__law_draw : Addr
  f__law_sizes : Addr
  m_LimitExceeded___init__ : Addr
  m_BadGrammar___init__ : Addr
  f__law_names : Addr
  f__law_changed : Addr
  f__law_due : Addr
  f__check_fields : Addr
  f__check_kinds : Addr
  f__law_kinds : Addr
  m_Grammar___init__ : Addr
  f__law_told : Addr
  f_law : Addr
abbrev s__in_order : Stmt := top 7
abbrev N__in_order : List Str := ["names", "name"]
theorem sc__in_order : FnScope N__in_order ["names"] (defScope s__in_order) := ⟨rfl, rfl, rfl, by decide +kernel, rfl, by decide +kernel, by decide +kernel⟩
abbrev s__least_sizes : Stmt := top 10
abbrev N__least_sizes : List Str := ["rows", "sizes", "least", "changed", "name", "family", "children", "child", "size"]
theorem sc__least_sizes : FnScope N__least_sizes ["rows"] (defScope s__least_sizes) := ⟨rfl, rfl, rfl, by decide +kernel, rfl, by decide +kernel, by decide +kernel⟩
abbrev s__law_source : Stmt := top 12
abbrev N__law_source : List Str := ["_law_script", "_law_cells", "_law_cell"]
theorem sc__law_source : FnScope N__law_source ["_law_script"] (defScope s__law_source) := ⟨rfl, rfl, rfl, by decide +kernel, rfl, by decide +kernel, by decide +kernel⟩
abbrev s__law_draw : Stmt := top 13
abbrev N__law_draw : List Str := ["_law_source_here", "_law_many", "_law_cells", "_law_at", "_law_number", "_law_mixed"]
theorem sc__law_draw : FnScope N__law_draw ["_law_source_here", "_law_many"] (defScope s__law_draw) := ⟨rfl, rfl, rfl, by decide +kernel, rfl, by decide +kernel, by decide +kernel⟩
abbrev s__law_sizes : Stmt := top 16
abbrev N__law_sizes : List Str := ["_law_kinds_here", "_law_sizes_here", "_law_n", "_law_kind", "_law_family", "_law_size"]
theorem sc__law_sizes : FnScope N__law_sizes ["_law_kinds_here"] (defScope s__law_sizes) := ⟨rfl, rfl, rfl, by decide +kernel, rfl, by decide +kernel, by decide +kernel⟩
abbrev s_LimitExceeded___init__ : Stmt := inClass (top 3) 0
abbrev N_LimitExceeded___init__ : List Str := ["self", "limit"]
theorem sc_LimitExceeded___init__ : FnScope N_LimitExceeded___init__ ["self", "limit"] (defScope s_LimitExceeded___init__) := ⟨rfl, rfl, rfl, by decide +kernel, rfl, by decide +kernel, by decide +kernel⟩
abbrev s_BadGrammar___init__ : Stmt := inClass (top 4) 0
abbrev N_BadGrammar___init__ : List Str := ["self", "part"]
theorem sc_BadGrammar___init__ : FnScope N_BadGrammar___init__ ["self", "part"] (defScope s_BadGrammar___init__) := ⟨rfl, rfl, rfl, by decide +kernel, rfl, by decide +kernel, by decide +kernel⟩
abbrev s__law_names : Stmt := top 14
abbrev N__law_names : List Str := ["_law_source_here", "_law_count", "_law_letters", "_law_ahead", "_law_behind", "_law_uneven", "_law_first", "_law_fill", "_law_k"]
theorem sc__law_names : FnScope N__law_names ["_law_source_here", "_law_count"] (defScope s__law_names) := ⟨rfl, rfl, rfl, by decide +kernel, rfl, by decide +kernel, by decide +kernel⟩
abbrev s__law_changed : Stmt := top 17
abbrev N__law_changed : List Str := ["_law_source_here", "_law_fields", "_law_kinds_here", "_law_root", "_law_fault", "_law_at", "_law_letter", "_law_kind", "_law_family"]
theorem sc__law_changed : FnScope N__law_changed ["_law_source_here", "_law_fields", "_law_kinds_here", "_law_root", "_law_fault"] (defScope s__law_changed) := ⟨rfl, rfl, rfl, by decide +kernel, rfl, by decide +kernel, by decide +kernel⟩
abbrev s__law_due : Stmt := top 18
abbrev N__law_due : List Str := ["_law_fields", "_law_kinds_here", "_law_root", "_law_names_here", "_law_kind", "_law_families", "_law_name", "_law_family", "_law_sizes_here"]
theorem sc__law_due : FnScope N__law_due ["_law_fields", "_law_kinds_here", "_law_root"] (defScope s__law_due) := ⟨rfl, rfl, rfl, by decide +kernel, rfl, by decide +kernel, by decide +kernel⟩
abbrev s__check_fields : Stmt := top 8
abbrev N__check_fields : List Str := ["fields"]
theorem sc__check_fields : FnScope N__check_fields ["fields"] (defScope s__check_fields) := ⟨rfl, rfl, rfl, by decide +kernel, rfl, by decide +kernel, by decide +kernel⟩
abbrev s__check_kinds : Stmt := top 9
abbrev N__check_kinds : List Str := ["rows", "families", "row", "child"]
theorem sc__check_kinds : FnScope N__check_kinds ["rows", "families"] (defScope s__check_kinds) := ⟨rfl, rfl, rfl, by decide +kernel, rfl, by decide +kernel, by decide +kernel⟩
abbrev s__law_kinds : Stmt := top 15
abbrev N__law_kinds : List Str := ["_law_source_here", "_law_families", "_law_extra", "_law_width", "_law_count", "_law_names_here", "_law_kinds_here", "_law_k", "_law_family", "_law_known", "_law_children", "_law_n", "_law_cut"]
theorem sc__law_kinds : FnScope N__law_kinds ["_law_source_here", "_law_families", "_law_extra", "_law_width"] (defScope s__law_kinds) := ⟨rfl, rfl, rfl, by decide +kernel, rfl, by decide +kernel, by decide +kernel⟩
abbrev s_Grammar___init__ : Stmt := inClass (top 6) 4
abbrev N_Grammar___init__ : List Str := ["self", "fields", "kinds", "root", "rows", "name", "family", "children", "families", "row", "sizes"]
theorem sc_Grammar___init__ : FnScope N_Grammar___init__ ["self", "fields", "kinds", "root"] (defScope s_Grammar___init__) := ⟨rfl, rfl, rfl, by decide +kernel, rfl, by decide +kernel, by decide +kernel⟩
abbrev s__law_told : Stmt := top 19
abbrev N__law_told : List Str := ["_law_fields", "_law_kinds_here", "_law_root", "_law_given", "_law_kind", "_law_given_fields", "_law_told_here", "e"]
theorem sc__law_told : FnScope N__law_told ["_law_fields", "_law_kinds_here", "_law_root"] (defScope s__law_told) := ⟨rfl, rfl, rfl, by decide +kernel, rfl, by decide +kernel, by decide +kernel⟩
abbrev s_law : Stmt := top 20
abbrev N_law : List Str := ["_law_script", "_law_source_here", "_law_fields", "_law_families", "_law_kinds_here", "_law_chosen", "_law_root", "_law_changed_here", "_law_n", "_law_fault", "_law_due_here"]
theorem sc_law : FnScope N_law ["_law_script"] (defScope s_law) := ⟨rfl, rfl, rfl, by decide +kernel, rfl, by decide +kernel, by decide +kernel⟩
/-! ### the promises -/
def sd_LimitExceeded___init__ (K : PySem.W.Frag) (A : Ad) : SpD := spErr A.c_LimitExceeded "limit"
def sd_BadGrammar___init__ (K : PySem.W.Frag) (A : Ad) : SpD := spErr A.c_BadGrammar "part"
def sd__law_source (K : PySem.W.Frag) (A : Ad) : SpD := spSource
def sd__law_draw (K : PySem.W.Frag) (A : Ad) : SpD := spDraw
def sd__law_names (K : PySem.W.Frag) (A : Ad) : SpD := spNames
def sd__in_order (K : PySem.W.Frag) (A : Ad) : SpD := spOrder
def sd__check_fields (K : PySem.W.Frag) (A : Ad) : SpD := spChkF A.c_LimitExceeded A.c_BadGrammar
def sd__check_kinds (K : PySem.W.Frag) (A : Ad) : SpD := spChkK A.c_LimitExceeded A.c_BadGrammar
def sd__least_sizes (K : PySem.W.Frag) (A : Ad) : SpD := spLeast
def sdf_Grammar___init__ (K : PySem.W.Frag) (A : Ad) : SpD := spGram A.c_Grammar A.c_LimitExceeded A.c_BadGrammar
def sd_Grammar___init__ (K : PySem.W.Frag) (A : Ad) : SpD := SpD.dflt (sdf_Grammar___init__ K A) [.non]
def sd__law_kinds (K : PySem.W.Frag) (A : Ad) : SpD := spKinds
/-- texts that may be compared -/
def Oks (xs : List Str) (rs : List Kd) : Prop := (∀ x ∈ xs, PyData.strOk x = true) ∧ ∀ r ∈ rs, PyData.strOk r.n = true ∧ PyData.strOk r.f = true ∧ ∀ c ∈ r.ch, PyData.strOk c = true
/-- a grammar's parts, not too long to be handled -/
structure Lim (n : Nat) (xs : List Str) (rs : List Kd) : Prop where
  xl : xs.length ≤ n
  rl : rs.length ≤ n
  cl : ∀ r ∈ rs, r.ch.length ≤ 4
  ok : Oks xs rs
def sd__law_sizes (K : PySem.W.Frag) (A : Ad) : SpD := spSizes
def sd__law_due (K : PySem.W.Frag) (A : Ad) : SpD := spDue
def sd__law_told (K : PySem.W.Frag) (A : Ad) : SpD := fun ds M Q _ => ∃ (xs : List Str) (rs : List Kd) (root : Option Str), ds = [.lst (xs.map .str), .lst (rs.map kdL), rootD root] ∧ Lim 300 xs rs ∧ Nd M ∧ ∀ M', Nd M' → Fr [] M M' → Q (pairD (dueG xs rs root)) M'
def sd__law_changed (K : PySem.W.Frag) (A : Ad) : SpD := fun ds M Q _ => ∃ (p c : Addr) (xs : List Str) (rs : List Kd) (root : Option Str) (fault b n : Nat), ds = [.ptr p, .lst (xs.map .str), .lst (rs.map kdL), rootD root, .int (fault : Nat)] ∧ n ≤ 200 ∧ Lim n xs rs ∧ Nd M ∧ b < 900000 ∧ Src p c b M ∧ ∀ xs' rs' root' M', Lim (n + 100) xs' rs' → Nd M' → Src p c (b + 1) M' → Fr [p, c] M M' → Q (.lst [.lst (xs'.map .str), .lst (rs'.map kdL), rootD root']) M'
def lawSp : SpD := fun ds M Q _ => ∃ ns : List Int, ds = [.rol (ns.map .int)] ∧ ns.length ≤ 63 ∧ Nd M ∧ ∀ M', Q (.bl true) M'
def sd_law (K : PySem.W.Frag) (A : Ad) : SpD := lawSp
/-- what the top has left -/
structure Txt (K : PySem.W.Frag) (mg : Str → Option Value) (A : Ad) : Prop where
  g__in_order : mg "_in_order" = some (.ref A.f__in_order)
  k__in_order : PySem.W.keepIn K (.ref A.f__in_order) = true
  g__least_sizes : mg "_least_sizes" = some (.ref A.f__least_sizes)
  k__least_sizes : PySem.W.keepIn K (.ref A.f__least_sizes) = true
  g__law_source : mg "_law_source" = some (.ref A.f__law_source)
  k__law_source : PySem.W.keepIn K (.ref A.f__law_source) = true
  g__law_draw : mg "_law_draw" = some (.ref A.f__law_draw)
  k__law_draw : PySem.W.keepIn K (.ref A.f__law_draw) = true
  g__law_sizes : mg "_law_sizes" = some (.ref A.f__law_sizes)
  k__law_sizes : PySem.W.keepIn K (.ref A.f__law_sizes) = true
  g__law_names : mg "_law_names" = some (.ref A.f__law_names)
  k__law_names : PySem.W.keepIn K (.ref A.f__law_names) = true
  g__law_changed : mg "_law_changed" = some (.ref A.f__law_changed)
  k__law_changed : PySem.W.keepIn K (.ref A.f__law_changed) = true
  g__law_due : mg "_law_due" = some (.ref A.f__law_due)
  k__law_due : PySem.W.keepIn K (.ref A.f__law_due) = true
  g__check_fields : mg "_check_fields" = some (.ref A.f__check_fields)
  k__check_fields : PySem.W.keepIn K (.ref A.f__check_fields) = true
  g__check_kinds : mg "_check_kinds" = some (.ref A.f__check_kinds)
  k__check_kinds : PySem.W.keepIn K (.ref A.f__check_kinds) = true
  g__law_kinds : mg "_law_kinds" = some (.ref A.f__law_kinds)
  k__law_kinds : PySem.W.keepIn K (.ref A.f__law_kinds) = true
  g__law_told : mg "_law_told" = some (.ref A.f__law_told)
  k__law_told : PySem.W.keepIn K (.ref A.f__law_told) = true
  g_law : mg "law" = some (.ref A.f_law)
  k_law : PySem.W.keepIn K (.ref A.f_law) = true
  g_LimitExceeded : mg "LimitExceeded" = some (.ref A.c_LimitExceeded)
  ox_LimitExceeded : OexC K A.c_LimitExceeded
  ini_LimitExceeded : PySem.W.findIn K (.ref A.c_LimitExceeded) "__init__" = some (some (.ref A.m_LimitExceeded___init__))
  ti_LimitExceeded : PySem.W.typeIn K (.ref A.m_LimitExceeded___init__) = some (.type "function")
  g_BadGrammar : mg "BadGrammar" = some (.ref A.c_BadGrammar)
  ox_BadGrammar : OexC K A.c_BadGrammar
  ini_BadGrammar : PySem.W.findIn K (.ref A.c_BadGrammar) "__init__" = some (some (.ref A.m_BadGrammar___init__))
  ti_BadGrammar : PySem.W.typeIn K (.ref A.m_BadGrammar___init__) = some (.type "function")
  g_Grammar : mg "Grammar" = some (.ref A.c_Grammar)
  cl_Grammar : Cls K A.c_Grammar
  mk_Grammar : Mk K A.c_Grammar A.m_Grammar___init__
  g_WalkError : mg "WalkError" = some (.ref A.c_WalkError)
  co_Grammar_MOST_FIELDS : ∃ mc u, ClX.CRead K A.c_Grammar mc ∧ ClX.CVal K A.c_Grammar mc "MOST_FIELDS" (.int 6) u
  co_Grammar_MOST_KINDS : ∃ mc u, ClX.CRead K A.c_Grammar mc ∧ ClX.CVal K A.c_Grammar mc "MOST_KINDS" (.int 8) u
  co_Grammar_MOST_CHILDREN : ∃ mc u, ClX.CRead K A.c_Grammar mc ∧ ClX.CVal K A.c_Grammar mc "MOST_CHILDREN" (.int 3) u
  co_Grammar_MOST_FAMILIES : ∃ mc u, ClX.CRead K A.c_Grammar mc ∧ ClX.CVal K A.c_Grammar mc "MOST_FAMILIES" (.int 3) u
  fo_Grammar__children : FldOk K A.c_Grammar "_children"
  fo_Grammar__families : FldOk K A.c_Grammar "_families"
  fo_Grammar__sizes : FldOk K A.c_Grammar "_sizes"
  fo_Grammar_families : FldOk K A.c_Grammar "families"
  fo_Grammar_fields : FldOk K A.c_Grammar "fields"
  fo_Grammar_kinds : FldOk K A.c_Grammar "kinds"
  fo_Grammar_root : FldOk K A.c_Grammar "root"
  nf_LimitExceeded_limit : PySem.W.findIn K (.ref A.c_LimitExceeded) "limit" = some none
  xf_LimitExceeded : XfC K A.c_LimitExceeded
  ec_LimitExceeded : ExcC K A.c_LimitExceeded
  em_LimitExceeded_LimitExceeded : PySem.W.exmOne K (.ref A.c_LimitExceeded) (.ref A.c_LimitExceeded) = some true
  em_LimitExceeded_BadGrammar : PySem.W.exmOne K (.ref A.c_LimitExceeded) (.ref A.c_BadGrammar) = some false
  ki_LimitExceeded_BadGrammar : PySem.W.kitOne K (.ref A.c_LimitExceeded) (.ref A.c_BadGrammar) = some false
  ki_LimitExceeded_WalkError : PySem.W.kitOne K (.ref A.c_LimitExceeded) (.ref A.c_WalkError) = some true
  ki_LimitExceeded_ValueError : PySem.W.kitOne K (.ref A.c_LimitExceeded) (.type "ValueError") = some true
  nf_BadGrammar_part : PySem.W.findIn K (.ref A.c_BadGrammar) "part" = some none
  xf_BadGrammar : XfC K A.c_BadGrammar
  ec_BadGrammar : ExcC K A.c_BadGrammar
  em_BadGrammar_LimitExceeded : PySem.W.exmOne K (.ref A.c_BadGrammar) (.ref A.c_LimitExceeded) = some false
  em_BadGrammar_BadGrammar : PySem.W.exmOne K (.ref A.c_BadGrammar) (.ref A.c_BadGrammar) = some true
  ki_BadGrammar_BadGrammar : PySem.W.kitOne K (.ref A.c_BadGrammar) (.ref A.c_BadGrammar) = some true
  ki_BadGrammar_WalkError : PySem.W.kitOne K (.ref A.c_BadGrammar) (.ref A.c_WalkError) = some true
  ki_BadGrammar_ValueError : PySem.W.kitOne K (.ref A.c_BadGrammar) (.type "ValueError") = some true
  z_ValueError : mg "ValueError" = none
  z_all : mg "all" = none
  z_any : mg "any" = none
  z_int : mg "int" = none
  z_isinstance : mg "isinstance" = none
  z_len : mg "len" = none
  z_list : mg "list" = none
  z_max : mg "max" = none
  z_min : mg "min" = none
  z_range : mg "range" = none
  z_sum : mg "sum" = none
  z_tuple : mg "tuple" = none
def d__in_order (K : PySem.W.Frag) (A : Ad) : DS := sRet (dCB rList (dCons (dDe (iAny (dVar 0)) (.nm 1) (dYes) (dVar 1) (dC (.bl true)) [1]) (dNil)))
def d__least_sizes (K : PySem.W.Frag) (A : Ad) : DS := sSeq (sAsg (dDic) (gNm 1)) (sSeq (sAsg (dDic) (gNm 2)) (sSeq (sAsg (dC (.bl true)) (gNm 3)) (sSeq (sWhile (dB (dVar 3)) (sSeq (sAsg (dC (.bl false)) (gNm 3)) (sFor (iAny (dVar 0)) (gTp 3 (gsCons (gNm 4) (gsCons (gNm 5) (gsCons (gNm 6) (gsNil))))) (sSeq (sIf (dB (dCB rAny (dCons (dLc (iAny (dVar 6)) (.nm 7) (dYes) (dOp rNin (dVar 7) (dVar 2)) [7]) (dNil)))) (sCont) (sNext)) (sSeq (sAsg (dOp rAdd (dC (.int 1)) (dCB rSum (dCons (dLc (iAny (dVar 6)) (.nm 7) (dYes) (dOp rIx (dVar 2) (dVar 7)) [7]) (dNil)))) (gNm 8)) (sSeq (sIf (dOr (dB (dOp rNin (dVar 4) (dVar 1))) (dB (dOp rLt (dVar 8) (dOp rIx (dVar 1) (dVar 4))))) (sSeq (sAsg (dVar 8) (gSub (dVar 1) (dVar 4))) (sAsg (dC (.bl true)) (gNm 3))) (sNext)) (sIf (dOr (dB (dOp rNin (dVar 5) (dVar 2))) (dB (dOp rLt (dVar 8) (dOp rIx (dVar 2) (dVar 5))))) (sAsg (dVar 8) (gSub (dVar 2) (dVar 5))) (sNext)))))))) (sRet (dVar 1)))))
def d__law_source (K : PySem.W.Frag) (A : Ad) : DS := sSeq (sAsg (dLc (iAny (dSl (dVar 0) (oNone) (oSome (dC (.int 63))))) (.nm 2) (dYes) (dCB rInt (dCons (dVar 2) (dNil))) [2]) (gNm 1)) (sRet (dLst (dCons (dVar 1) (dCons (dLc (iAny (dVar 1)) (.nm 2) (dYes) (dOp rGe (dVar 2) (dOp rPow (dC (.int 10)) (dC (.int 18)))) [2]) (dCons (dC (.int 0)) (dCons (dC (.int 0)) (dCons (dOp rMod (dCB rInt (dCons (dCB rSum (dCons (dVar 1) (dNil))) (dNil))) (dC (.int 1000003))) (dNil))))))))
def d__law_draw (K : PySem.W.Frag) (A : Ad) : DS := sSeq (sAsg (dOp rIx (dVar 0) (dC (.int 0))) (gNm 2)) (sSeq (sAsg (dOp rIx (dVar 0) (dC (.int 2))) (gNm 3)) (sSeq (sIf (dB (dOp rLt (dVar 3) (dCB rLen (dCons (dVar 2) (dNil))))) (sSeq (sAsg (dOp rIx (dVar 2) (dVar 3)) (gNm 4)) (sSeq (sAsg (dOp rDiv (dVar 4) (dVar 1)) (gSub (dVar 2) (dVar 3))) (sSeq (sIf (dOr (dNot (dB (dOp rIx (dOp rIx (dVar 0) (dC (.int 1))) (dVar 3)))) (dB (dOp rEq (dOp rIx (dVar 2) (dVar 3)) (dC (.int 0))))) (sAsg (dOp rAdd (dVar 3) (dC (.int 1))) (gSub (dVar 0) (dC (.int 2)))) (sNext)) (sRet (dOp rMod (dCB rInt (dCons (dVar 4) (dNil))) (dVar 1)))))) (sNext)) (sSeq (sIf (dB (dOp rEq (dOp rIx (dVar 0) (dC (.int 4))) (dC (.int 0)))) (sRet (dC (.int 0))) (sNext)) (sSeq (sAsg (dOp rAdd (dOp rIx (dVar 0) (dC (.int 3))) (dC (.int 1))) (gSub (dVar 0) (dC (.int 3)))) (sSeq (sAsg (dOp rMod (dCB rInt (dCons (dOp rMul (dOp rAdd (dOp rIx (dVar 0) (dC (.int 4))) (dOp rMul (dOp rIx (dVar 0) (dC (.int 3))) (dC (.int 7919)))) (dC (.int 48271))) (dNil))) (dC (.int 2147483647))) (gNm 5)) (sRet (dOp rMod (dOp rDiv (dOp rMod (dCB rInt (dCons (dOp rMul (dVar 5) (dVar 5)) (dNil))) (dC (.int 998244353))) (dC (.int 7))) (dVar 1))))))))
def d__law_sizes (K : PySem.W.Frag) (A : Ad) : DS := sSeq (sAsg (dDic) (gNm 1)) (sSeq (sFor (iRg1 (dCons (dCB rLen (dCons (dVar 0) (dNil))) (dNil))) (gNm 2) (sFor (iAny (dVar 0)) (gNm 3) (sIf (dB (dCB rAll (dCons (dLc (iAny (dOp rIx (dVar 3) (dC (.int 2)))) (.nm 4) (dYes) (dOp rIn (dVar 4) (dVar 1)) [4]) (dNil)))) (sSeq (sAsg (dOp rAdd (dC (.int 1)) (dCB rSum (dCons (dLc (iAny (dOp rIx (dVar 3) (dC (.int 2)))) (.nm 4) (dYes) (dOp rIx (dVar 1) (dVar 4)) [4]) (dNil)))) (gNm 5)) (sIf (dOr (dB (dOp rNin (dOp rIx (dVar 3) (dC (.int 1))) (dVar 1))) (dB (dOp rLt (dVar 5) (dOp rIx (dVar 1) (dOp rIx (dVar 3) (dC (.int 1))))))) (sAsg (dZK K (dVar 5)) (gSub (dVar 1) (dOp rIx (dVar 3) (dC (.int 1))))) (sNext))) (sNext)))) (sRet (dZK K (dVar 1))))
def d_LimitExceeded___init__ (K : PySem.W.Frag) (A : Ad) : DS := sOst K "limit" (dVar 0) (dVar 1)
def d_BadGrammar___init__ (K : PySem.W.Frag) (A : Ad) : DS := sOst K "part" (dVar 0) (dVar 1)
def d__law_names (K : PySem.W.Frag) (A : Ad) : DS := sSeq (sAsg (dC (.str ("abcdefghijklmnopqrstuvwxyz" : Str))) (gNm 2)) (sSeq (sAsg (dCall (sd__law_draw K A) (dCons (dVar 0) (dCons (dC (.int 4)) (dNil)))) (gNm 3)) (sSeq (sAsg (dCall (sd__law_draw K A) (dCons (dVar 0) (dCons (dC (.int 4)) (dNil)))) (gNm 4)) (sSeq (sAsg (dCall (sd__law_draw K A) (dCons (dVar 0) (dCons (dC (.int 2)) (dNil)))) (gNm 5)) (sSeq (sAsg (dCall (sd__law_draw K A) (dCons (dVar 0) (dCons (dC (.int 26)) (dNil)))) (gNm 6)) (sSeq (sAsg (dOp rIx (dVar 2) (dCall (sd__law_draw K A) (dCons (dVar 0) (dCons (dC (.int 26)) (dNil))))) (gNm 7)) (sRet (dLc (iRg1 (dCons (dVar 1) (dNil))) (.nm 8) (dYes) (dOp rAdd (dOp rAdd (dOp rMul (dVar 7) (dVar 3)) (dOp rIx (dVar 2) (dOp rMod (dCB rInt (dCons (dOp rAdd (dVar 6) (dVar 8)) (dNil))) (dC (.int 26))))) (dOp rMul (dVar 7) (dOp rAdd (dVar 4) (dOp rMul (dVar 5) (dOp rMod (dCB rInt (dCons (dVar 8) (dNil))) (dC (.int 3))))))) [8])))))))
def d__law_changed (K : PySem.W.Frag) (A : Ad) : DS := sSeq (sAsg (dCall (sd__law_draw K A) (dCons (dVar 0) (dCons (dOp rAdd (dCB rLen (dCons (dVar 2) (dNil))) (dC (.int 1))) (dNil)))) (gNm 5)) (sSeq (sIf (dB (dOp rEq (dVar 4) (dC (.int 1)))) (sAsg (dOp rAdd (dVar 1) (dSl (dLc (iTxt (dC (.str ("abcdefg" : Str)))) (.nm 6) (dYes) (dOp rAdd (dC (.str ("xa" : Str))) (dVar 6)) [6]) (oNone) (oSome (dCB rMax (dCons (dC (.int 0)) (dCons (dOp rSub (dC (.int 7)) (dCB rLen (dCons (dVar 1) (dNil)))) (dNil))))))) (gNm 1)) (sNext)) (sSeq (sIf (dB (dOp rEq (dVar 4) (dC (.int 2)))) (sAsg (dOp rAdd (dOp rAdd (dSl (dVar 1) (oNone) (oSome (dC (.int 3)))) (dSl (dVar 1) (oNone) (oSome (dC (.int 1))))) (dSl (dVar 1) (oSome (dC (.int 3))) (oNone))) (gNm 1)) (sNext)) (sSeq (sIf (dB (dOp rEq (dVar 4) (dC (.int 3)))) (sAsg (dLst (dNil)) (gNm 2)) (sNext)) (sSeq (sIf (dB (dOp rEq (dVar 4) (dC (.int 4)))) (sAsg (dOp rAdd (dOp rAdd (dSl (dVar 2) (oNone) (oSome (dVar 5))) (dLc (iAny (dSl (dVar 2) (oNone) (oSome (dC (.int 1))))) (.nm 7) (dYes) (dTup (dCons (dOp rIx (dVar 7) (dC (.int 0))) (dCons (dOp rIx (dVar 7) (dC (.int 1))) (dCons (dLst (dNil)) (dNil))))) [7])) (dSl (dVar 2) (oSome (dVar 5)) (oNone))) (gNm 2)) (sNext)) (sSeq (sIf (dB (dOp rEq (dVar 4) (dC (.int 5)))) (sSeq (sAsg (dIf (dB (dOp rGt (dCB rLen (dCons (dVar 2) (dNil))) (dC (.int 0)))) (dOp rIx (dOp rIx (dVar 2) (dC (.int 0))) (dC (.int 1))) (dC (.str ("some" : Str)))) (gNm 8)) (sAsg (dOp rAdd (dVar 2) (dSl (dLc (iTxt (dC (.str ("abcdefghi" : Str)))) (.nm 6) (dYes) (dTup (dCons (dOp rAdd (dC (.str ("xk" : Str))) (dVar 6)) (dCons (dVar 8) (dCons (dLst (dNil)) (dNil))))) [6]) (oNone) (oSome (dCB rMax (dCons (dC (.int 0)) (dCons (dOp rSub (dC (.int 9)) (dCB rLen (dCons (dVar 2) (dNil)))) (dNil))))))) (gNm 2))) (sNext)) (sSeq (sIf (dB (dOp rEq (dVar 4) (dC (.int 6)))) (sAsg (dOp rAdd (dOp rAdd (dSl (dVar 2) (oNone) (oSome (dVar 5))) (dLc (iAny (dSl (dVar 2) (oNone) (oSome (dC (.int 1))))) (.nm 7) (dYes) (dTup (dCons (dC (.str ("four" : Str))) (dCons (dOp rIx (dVar 7) (dC (.int 1))) (dCons (dLst (dCons (dOp rIx (dVar 7) (dC (.int 1))) (dCons (dOp rIx (dVar 7) (dC (.int 1))) (dCons (dOp rIx (dVar 7) (dC (.int 1))) (dCons (dOp rIx (dVar 7) (dC (.int 1))) (dNil)))))) (dNil))))) [7])) (dSl (dVar 2) (oSome (dVar 5)) (oNone))) (gNm 2)) (sNext)) (sSeq (sIf (dB (dOp rEq (dVar 4) (dC (.int 7)))) (sAsg (dOp rAdd (dVar 2) (dLc (iTxt (dC (.str ("abc" : Str)))) (.nm 6) (dYes) (dTup (dCons (dOp rAdd (dC (.str ("xf" : Str))) (dVar 6)) (dCons (dOp rAdd (dC (.str ("xf" : Str))) (dVar 6)) (dCons (dLst (dNil)) (dNil))))) [6])) (gNm 2)) (sNext)) (sSeq (sIf (dB (dOp rEq (dVar 4) (dC (.int 8)))) (sAsg (dOp rAdd (dOp rAdd (dSl (dVar 2) (oNone) (oSome (dVar 5))) (dLc (iAny (dSl (dVar 2) (oNone) (oSome (dC (.int 1))))) (.nm 7) (dYes) (dTup (dCons (dC (.str ("lost" : Str))) (dCons (dOp rIx (dVar 7) (dC (.int 1))) (dCons (dLst (dCons (dOp rIx (dVar 7) (dC (.int 1))) (dCons (dC (.str ("unknownname" : Str))) (dNil)))) (dNil))))) [7])) (dSl (dVar 2) (oSome (dVar 5)) (oNone))) (gNm 2)) (sNext)) (sSeq (sIf (dB (dOp rEq (dVar 4) (dC (.int 9)))) (sAsg (dC (.str ("unknownname" : Str))) (gNm 3)) (sNext)) (sSeq (sIf (dB (dOp rEq (dVar 4) (dC (.int 10)))) (sAsg (dOp rAdd (dVar 2) (dLst (dCons (dTup (dCons (dC (.str ("endless" : Str))) (dCons (dC (.str ("endless" : Str))) (dCons (dLst (dCons (dC (.str ("endless" : Str))) (dNil))) (dNil))))) (dNil)))) (gNm 2)) (sNext)) (sSeq (sIf (dB (dOp rEq (dVar 4) (dC (.int 11)))) (sAsg (dOp rAdd (dVar 2) (dLst (dCons (dTup (dCons (dC (.str ("pings" : Str))) (dCons (dC (.str ("ping" : Str))) (dCons (dLst (dCons (dC (.str ("pong" : Str))) (dNil))) (dNil))))) (dCons (dTup (dCons (dC (.str ("pongs" : Str))) (dCons (dC (.str ("pong" : Str))) (dCons (dLst (dCons (dC (.str ("ping" : Str))) (dNil))) (dNil))))) (dNil))))) (gNm 2)) (sNext)) (sRet (dLst (dCons (dVar 1) (dCons (dVar 2) (dCons (dVar 3) (dNil)))))))))))))))))
def d__law_due (K : PySem.W.Frag) (A : Ad) : DS := sSeq (sAsg (dLc (iAny (dVar 1)) (.nm 4) (dYes) (dOp rIx (dVar 4) (dC (.int 0))) [4]) (gNm 3)) (sSeq (sAsg (dLst (dNil)) (gNm 5)) (sSeq (sFor (iAny (dVar 1)) (gNm 4) (sIf (dB (dOp rNin (dOp rIx (dVar 4) (dC (.int 1))) (dVar 5))) (sDrop (dBM "list" rApp (dVar 5) (dCons (dOp rIx (dVar 4) (dC (.int 1))) (dNil)))) (sNext))) (sSeq (sIf (dB (dOp rGt (dCB rLen (dCons (dVar 0) (dNil))) (dC (.int 6)))) (sRet (dTup (dCons (dC (.str ("limit" : Str))) (dCons (dC (.str ("fields" : Str))) (dNil))))) (sNext)) (sSeq (sIf (dB (dCB rAny (dCons (dLc (iAny (dVar 0)) (.nm 6) (dYes) (dOp rGt (dBM "list" rCnt (dVar 0) (dCons (dVar 6) (dNil))) (dC (.int 1))) [6]) (dNil)))) (sRet (dTup (dCons (dC (.str ("grammar" : Str))) (dCons (dC (.str ("fields" : Str))) (dNil))))) (sNext)) (sSeq (sIf (dOr (dB (dOp rEq (dCB rLen (dCons (dVar 1) (dNil))) (dC (.int 0)))) (dB (dCB rAny (dCons (dLc (iAny (dVar 3)) (.nm 6) (dYes) (dOp rGt (dBM "list" rCnt (dVar 3) (dCons (dVar 6) (dNil))) (dC (.int 1))) [6]) (dNil))))) (sRet (dTup (dCons (dC (.str ("grammar" : Str))) (dCons (dC (.str ("kinds" : Str))) (dNil))))) (sNext)) (sSeq (sIf (dB (dOp rGt (dCB rLen (dCons (dVar 1) (dNil))) (dC (.int 8)))) (sRet (dTup (dCons (dC (.str ("limit" : Str))) (dCons (dC (.str ("kinds" : Str))) (dNil))))) (sNext)) (sSeq (sIf (dB (dCB rAny (dCons (dLc (iAny (dVar 1)) (.nm 4) (dYes) (dOp rGt (dCB rLen (dCons (dOp rIx (dVar 4) (dC (.int 2))) (dNil))) (dC (.int 3))) [4]) (dNil)))) (sRet (dTup (dCons (dC (.str ("limit" : Str))) (dCons (dC (.str ("children" : Str))) (dNil))))) (sNext)) (sSeq (sIf (dB (dOp rGt (dCB rLen (dCons (dVar 5) (dNil))) (dC (.int 3)))) (sRet (dTup (dCons (dC (.str ("limit" : Str))) (dCons (dC (.str ("families" : Str))) (dNil))))) (sNext)) (sSeq (sFor (iAny (dVar 1)) (gNm 4) (sIf (dB (dCB rAny (dCons (dLc (iAny (dOp rIx (dVar 4) (dC (.int 2)))) (.nm 7) (dYes) (dOp rNin (dVar 7) (dVar 5)) [7]) (dNil)))) (sRet (dTup (dCons (dC (.str ("grammar" : Str))) (dCons (dC (.str ("children" : Str))) (dNil))))) (sNext))) (sSeq (sIf (dAnd (dB (dOp rIsn (dVar 2) (dC .non))) (dB (dOp rNin (dVar 2) (dVar 5)))) (sRet (dTup (dCons (dC (.str ("grammar" : Str))) (dCons (dC (.str ("root" : Str))) (dNil))))) (sNext)) (sSeq (sAsg (dZK K (dCall (sd__law_sizes K A) (dCons (dVar 1) (dNil)))) (gNm 8)) (sSeq (sIf (dB (dCB rAny (dCons (dLc (iAny (dVar 5)) (.nm 7) (dYes) (dOp rNin (dVar 7) (dVar 8)) [7]) (dNil)))) (sRet (dTup (dCons (dC (.str ("grammar" : Str))) (dCons (dC (.str ("finite" : Str))) (dNil))))) (sNext)) (sRet (dTup (dCons (dC (.str ("" : Str))) (dCons (dC (.str ("" : Str))) (dNil)))))))))))))))))
def d__check_fields (K : PySem.W.Frag) (A : Ad) : DS := sSeq (sIf (dB (dOp rGt (dCB rLen (dCons (dVar 0) (dNil))) (dCon K (dC (.ptr A.c_Grammar)) "MOST_FIELDS"))) (sRaise A.c_LimitExceeded (sd_LimitExceeded___init__ K A) (dCons (dC (.str ("fields" : Str))) (dNil))) (sNext)) (sIf (dB (dOp rLt (dCB rLen (dCons (dCall (sd__in_order K A) (dCons (dVar 0) (dNil))) (dNil))) (dCB rLen (dCons (dVar 0) (dNil))))) (sRaise A.c_BadGrammar (sd_BadGrammar___init__ K A) (dCons (dC (.str ("fields" : Str))) (dNil))) (sNext))
def d__check_kinds (K : PySem.W.Frag) (A : Ad) : DS := sSeq (sIf (dOr (dB (dOp rEq (dCB rLen (dCons (dVar 0) (dNil))) (dC (.int 0)))) (dB (dOp rLt (dCB rLen (dCons (dCall (sd__in_order K A) (dCons (dLc (iAny (dVar 0)) (.nm 2) (dYes) (dOp rIx (dVar 2) (dC (.int 0))) [2]) (dNil))) (dNil))) (dCB rLen (dCons (dVar 0) (dNil)))))) (sRaise A.c_BadGrammar (sd_BadGrammar___init__ K A) (dCons (dC (.str ("kinds" : Str))) (dNil))) (sNext)) (sSeq (sIf (dB (dOp rGt (dCB rLen (dCons (dVar 0) (dNil))) (dCon K (dC (.ptr A.c_Grammar)) "MOST_KINDS"))) (sRaise A.c_LimitExceeded (sd_LimitExceeded___init__ K A) (dCons (dC (.str ("kinds" : Str))) (dNil))) (sNext)) (sSeq (sIf (dB (dCB rAny (dCons (dLc (iAny (dVar 0)) (.nm 2) (dYes) (dOp rGt (dCB rLen (dCons (dOp rIx (dVar 2) (dC (.int 2))) (dNil))) (dCon K (dC (.ptr A.c_Grammar)) "MOST_CHILDREN")) [2]) (dNil)))) (sRaise A.c_LimitExceeded (sd_LimitExceeded___init__ K A) (dCons (dC (.str ("children" : Str))) (dNil))) (sNext)) (sSeq (sIf (dB (dOp rGt (dCB rLen (dCons (dVar 1) (dNil))) (dCon K (dC (.ptr A.c_Grammar)) "MOST_FAMILIES"))) (sRaise A.c_LimitExceeded (sd_LimitExceeded___init__ K A) (dCons (dC (.str ("families" : Str))) (dNil))) (sNext)) (sIf (dB (dCB rAny (dCons (dLc2 (iAny (dVar 0)) (.nm 2) (dYes) (iAny (dOp rIx (dVar 2) (dC (.int 2)))) (.nm 3) (dYes) (dOp rNin (dVar 3) (dVar 1)) [2, 3] [3]) (dNil)))) (sRaise A.c_BadGrammar (sd_BadGrammar___init__ K A) (dCons (dC (.str ("children" : Str))) (dNil))) (sNext)))))
def d__law_kinds (K : PySem.W.Frag) (A : Ad) : DS := sSeq (sAsg (dOp rAdd (dCB rLen (dCons (dVar 1) (dNil))) (dCall (sd__law_draw K A) (dCons (dVar 0) (dCons (dOp rAdd (dVar 2) (dC (.int 1))) (dNil))))) (gNm 4)) (sSeq (sAsg (dZK K (dCall (sd__law_names K A) (dCons (dVar 0) (dCons (dVar 4) (dNil))))) (gNm 5)) (sSeq (sAsg (dLst (dNil)) (gNm 6)) (sSeq (sFor (iRg1 (dCons (dVar 4) (dNil))) (gNm 7) (sSeq (sAsg (dIf (dB (dOp rLt (dVar 7) (dCB rLen (dCons (dVar 1) (dNil))))) (dOp rIx (dVar 1) (dVar 7)) (dOp rIx (dVar 1) (dCall (sd__law_draw K A) (dCons (dVar 0) (dCons (dCB rLen (dCons (dVar 1) (dNil))) (dNil)))))) (gNm 8)) (sSeq (sAsg (dCB rMin (dCons (dVar 7) (dCons (dCB rInt (dCons (dCB rLen (dCons (dVar 1) (dNil))) (dNil))) (dNil)))) (gNm 9)) (sSeq (sAsg (dLst (dNil)) (gNm 10)) (sSeq (sIf (dB (dOp rGt (dVar 9) (dC (.int 0)))) (sAsg (dLc (iRg1 (dCons (dCall (sd__law_draw K A) (dCons (dVar 0) (dCons (dOp rAdd (dVar 3) (dC (.int 1))) (dNil)))) (dNil))) (.nm 11) (dYes) (dOp rIx (dVar 1) (dCall (sd__law_draw K A) (dCons (dVar 0) (dCons (dVar 9) (dNil))))) [11]) (gNm 10)) (sNext)) (sDrop (dBM "list" rApp (dVar 6) (dCons (dTup (dCons (dOp rIx (dVar 5) (dVar 7)) (dCons (dVar 8) (dCons (dVar 10) (dNil))))) (dNil))))))))) (sSeq (sAsg (dCall (sd__law_draw K A) (dCons (dVar 0) (dCons (dVar 4) (dNil)))) (gNm 12)) (sRet (dOp rAdd (dSl (dVar 6) (oSome (dVar 12)) (oNone)) (dSl (dVar 6) (oNone) (oSome (dVar 12)))))))))
def d_Grammar___init__ (K : PySem.W.Frag) (A : Ad) : DS := sSeq (sAsg (dLc (iAny (dVar 2)) (.tp [5, 6, 7]) (dYes) (dTup (dCons (dVar 5) (dCons (dVar 6) (dCons (dCB rTuple (dCons (dVar 7) (dNil))) (dNil))))) [5, 6, 7]) (gNm 4)) (sSeq (sAsg (dCall (sd__in_order K A) (dCons (dLc (iAny (dVar 4)) (.nm 9) (dYes) (dOp rIx (dVar 9) (dC (.int 1))) [9]) (dNil))) (gNm 8)) (sSeq (sDrop (dCall (sd__check_fields K A) (dCons (dVar 1) (dNil)))) (sSeq (sDrop (dCall (sd__check_kinds K A) (dCons (dVar 4) (dCons (dVar 8) (dNil))))) (sSeq (sIf (dAnd (dB (dOp rIsn (dVar 3) (dC .non))) (dB (dOp rNin (dVar 3) (dVar 8)))) (sRaise A.c_BadGrammar (sd_BadGrammar___init__ K A) (dCons (dC (.str ("root" : Str))) (dNil))) (sNext)) (sSeq (sAsg (dZK K (dCall (sd__least_sizes K A) (dCons (dVar 4) (dNil)))) (gNm 10)) (sSeq (sIf (dB (dOp rLt (dCB rLen (dCons (dVar 10) (dNil))) (dCB rLen (dCons (dVar 4) (dNil))))) (sRaise A.c_BadGrammar (sd_BadGrammar___init__ K A) (dCons (dC (.str ("finite" : Str))) (dNil))) (sNext)) (sSeq (sFldD K (dVar 0) (dCB rTuple (dCons (dVar 1) (dNil))) "fields") (sSeq (sFldD K (dVar 0) (dCB rTuple (dCons (dLc (iAny (dVar 4)) (.nm 9) (dYes) (dOp rIx (dVar 9) (dC (.int 0))) [9]) (dNil))) "kinds") (sSeq (sFldD K (dVar 0) (dCB rTuple (dCons (dVar 8) (dNil))) "families") (sSeq (sFldD K (dVar 0) (dIf (dB (dOp rIs (dVar 3) (dC .non))) (dOp rIx (dVar 8) (dC (.int 0))) (dVar 3)) "root") (sSeq (sFldD K (dVar 0) (dDe (iAny (dVar 4)) (.nm 9) (dYes) (dOp rIx (dVar 9) (dC (.int 0))) (dOp rIx (dVar 9) (dC (.int 1))) [9]) "_families") (sSeq (sFldD K (dVar 0) (dDe (iAny (dVar 4)) (.nm 9) (dYes) (dOp rIx (dVar 9) (dC (.int 0))) (dOp rIx (dVar 9) (dC (.int 2))) [9]) "_children") (sFldD K (dVar 0) (dZK K (dVar 10)) "_sizes")))))))))))))
def d__law_told (K : PySem.W.Frag) (A : Ad) : DS := sSeq (sAsg (dLc (iAny (dVar 1)) (.nm 4) (dYes) (dTup (dCons (dOp rIx (dVar 4) (dC (.int 0))) (dCons (dOp rIx (dVar 4) (dC (.int 1))) (dCons (dCB rList (dCons (dOp rIx (dVar 4) (dC (.int 2))) (dNil))) (dNil))))) [4]) (gNm 3)) (sSeq (sAsg (dCB rList (dCons (dVar 0) (dNil))) (gNm 5)) (sSeq (sAsg (dTup (dCons (dC (.str ("" : Str))) (dCons (dC (.str ("" : Str))) (dNil)))) (gNm 6)) (sSeq (sTry K (sDrop (dMakeK A.c_Grammar 2 1 (sdf_Grammar___init__ K A) kwD (dCons (dVar 5) (dCons (dVar 3) (dNil))) (dCons (dVar 2) dNil))) [(.ref A.c_LimitExceeded, some 7, fun a C dd => sSeq (sAsg (dTup (dCons (dC (.str ("limit" : Str))) (dCons (dXf K a C dd "limit" (dVar 7)) (dNil)))) (gNm 6)) (sIf (dOr (dB (dCB (rIsE K a C dd) (dCons (dVar 7) (dCons (dC (.ptr A.c_BadGrammar)) (dNil))))) (dOr (dNot (dB (dCB (rIsE K a C dd) (dCons (dVar 7) (dCons (dC (.ptr A.c_WalkError)) (dNil)))))) (dNot (dB (dCB (rIsE K a C dd) (dCons (dVar 7) (dCons (dC (.ty "ValueError")) (dNil)))))))) (sAsg (dTup (dCons (dC (.str ("mixed" : Str))) (dCons (dC (.str ("" : Str))) (dNil)))) (gNm 6)) (sNext))), (.ref A.c_BadGrammar, some 7, fun a C dd => sSeq (sAsg (dTup (dCons (dC (.str ("grammar" : Str))) (dCons (dXf K a C dd "part" (dVar 7)) (dNil)))) (gNm 6)) (sIf (dOr (dNot (dB (dCB (rIsE K a C dd) (dCons (dVar 7) (dCons (dC (.ptr A.c_WalkError)) (dNil)))))) (dNot (dB (dCB (rIsE K a C dd) (dCons (dVar 7) (dCons (dC (.ty "ValueError")) (dNil))))))) (sAsg (dTup (dCons (dC (.str ("mixed" : Str))) (dCons (dC (.str ("" : Str))) (dNil)))) (gNm 6)) (sNext)))]) (sSeq (sIf (dOr (dB (dOp rNe (dVar 5) (dVar 0))) (dB (dOp rNe (dVar 3) (dLc (iAny (dVar 1)) (.nm 4) (dYes) (dTup (dCons (dOp rIx (dVar 4) (dC (.int 0))) (dCons (dOp rIx (dVar 4) (dC (.int 1))) (dCons (dCB rList (dCons (dOp rIx (dVar 4) (dC (.int 2))) (dNil))) (dNil))))) [4])))) (sAsg (dTup (dCons (dC (.str ("changed" : Str))) (dCons (dC (.str ("" : Str))) (dNil)))) (gNm 6)) (sNext)) (sRet (dZK K (dVar 6)))))))
def d_law (K : PySem.W.Frag) (A : Ad) : DS := sSeq (sAsg (dCall (sd__law_source K A) (dCons (dVar 0) (dNil))) (gNm 1)) (sSeq (sAsg (dZK K (dCall (sd__law_names K A) (dCons (dVar 1) (dCons (dOp rAdd (dC (.int 1)) (dCall (sd__law_draw K A) (dCons (dVar 1) (dCons (dC (.int 6)) (dNil))))) (dNil))))) (gNm 2)) (sSeq (sAsg (dZK K (dCall (sd__law_names K A) (dCons (dVar 1) (dCons (dOp rAdd (dC (.int 1)) (dCall (sd__law_draw K A) (dCons (dVar 1) (dCons (dC (.int 3)) (dNil))))) (dNil))))) (gNm 3)) (sSeq (sAsg (dZK K (dCall (sd__law_kinds K A) (dCons (dVar 1) (dCons (dVar 3) (dCons (dC (.int 5)) (dCons (dC (.int 3)) (dNil))))))) (gNm 4)) (sSeq (sAsg (dCall (sd__law_draw K A) (dCons (dVar 1) (dCons (dOp rAdd (dCB rLen (dCons (dVar 3) (dNil))) (dC (.int 1))) (dNil)))) (gNm 5)) (sSeq (sAsg (dIf (dB (dOp rEq (dVar 5) (dC (.int 0)))) (dC .non) (dOp rIx (dVar 3) (dOp rSub (dVar 5) (dC (.int 1))))) (gNm 6)) (sSeq (sIf (dB (dOp rNe (dZK K (dCall (sd__law_told K A) (dCons (dVar 2) (dCons (dVar 4) (dCons (dVar 6) (dNil)))))) (dTup (dCons (dC (.str ("" : Str))) (dCons (dC (.str ("" : Str))) (dNil)))))) (sRet (dC (.bl false))) (sNext)) (sSeq (sAsg (dLst (dCons (dVar 2) (dCons (dVar 4) (dCons (dVar 6) (dNil))))) (gNm 7)) (sSeq (sFor (iRg1 (dCons (dC (.int 2)) (dNil))) (gNm 8) (sSeq (sAsg (dCall (sd__law_draw K A) (dCons (dVar 1) (dCons (dC (.int 12)) (dNil)))) (gNm 9)) (sAsg (dZK K (dCall (sd__law_changed K A) (dCons (dVar 1) (dCons (dOp rIx (dVar 7) (dC (.int 0))) (dCons (dOp rIx (dVar 7) (dC (.int 1))) (dCons (dOp rIx (dVar 7) (dC (.int 2))) (dCons (dVar 9) (dNil)))))))) (gNm 7)))) (sSeq (sAsg (dZK K (dCall (sd__law_due K A) (dCons (dOp rIx (dVar 7) (dC (.int 0))) (dCons (dOp rIx (dVar 7) (dC (.int 1))) (dCons (dOp rIx (dVar 7) (dC (.int 2))) (dNil)))))) (gNm 10)) (sSeq (sIf (dB (dOp rNe (dZK K (dCall (sd__law_told K A) (dCons (dOp rIx (dVar 7) (dC (.int 0))) (dCons (dOp rIx (dVar 7) (dC (.int 1))) (dCons (dOp rIx (dVar 7) (dC (.int 2))) (dNil)))))) (dVar 10))) (sRet (dC (.bl false))) (sNext)) (sRet (dAndV (dOp rEq (dZK K (dCall (sd__law_told K A) (dCons (dOp rIx (dVar 7) (dC (.int 0))) (dCons (dOp rIx (dVar 7) (dC (.int 1))) (dCons (dOp rIx (dVar 7) (dC (.int 2))) (dNil)))))) (dVar 10)) (dOp rEq (dZK K (dCall (sd__law_told K A) (dCons (dVar 2) (dCons (dVar 4) (dCons (dVar 6) (dNil)))))) (dTup (dCons (dC (.str ("" : Str))) (dCons (dC (.str ("" : Str))) (dNil)))))))))))))))))
section
variable {P : Program} {K : PySem.W.Frag} {mg : Str → Option Value} {base : Heap} {A : Ad}
theorem h__in_order (T : Txt K mg A) {f : Addr} {cdv : Value} {A0 : Around} {outer : List PySem.Env} {s : Shared} {H U : Hp} {E : XK} (hr : Room 0 (A0.deeper (envOfC "_in_order" (defScope s__in_order) s.heap.objs.size f cdv))) :
    PSs (cxOf (L2.CX P Wd.w) P Wd.w K mg base N__in_order "_in_order" (defScope s__in_order) f cdv A0 outer s H E) (defBody s__in_order) (liftS ⟨K, U⟩ (fun cls d _ H => E cls d H) (d__in_order K A)) :=
  (dss_one (ds_ret (de_callTy (cd_list rfl rfl rfl) (by rfl) T.z_list dboot_list (da_cons (de_de (own := [("name", 1)]) (ct := .nm 1) (dt := dYes) (dk := dVar 1) (dv := dC (.bl true)) rfl (hu64 hr) rfl rfl sc__in_order.nd (di_any rfl (de_var 0)) (blkOk_by (N := N__in_order) (sc := defScope s__in_order) (by decide +kernel)) (by decide) (fun _ _ _ _ _ => (pg_name (i := 1) sc__in_order.nd rfl (by first | exact Or.inl rfl | exact Or.inr rfl))) (fun _ _ _ _ _ _ => dts_nil) (fun _ _ _ _ _ _ => (de_var 1)) (fun _ _ _ _ _ _ => de_bl)) da_nil))))
theorem h__least_sizes (T : Txt K mg A) {f : Addr} {cdv : Value} {A0 : Around} {outer : List PySem.Env} {s : Shared} {H U : Hp} {E : XK} (hr : Room 0 (A0.deeper (envOfC "_least_sizes" (defScope s__least_sizes) s.heap.objs.size f cdv))) :
    PSs (cxOf (L2.CX P Wd.w) P Wd.w K mg base N__least_sizes "_least_sizes" (defScope s__least_sizes) f cdv A0 outer s H E) (defBody s__least_sizes) (liftS ⟨K, U⟩ (fun cls d _ H => E cls d H) (d__least_sizes K A)) :=
  (dss_cons (ds_set (i := 1) sc__least_sizes.nd rfl (by first | exact Or.inl rfl | exact Or.inr rfl) de_dic) (dss_cons (ds_set (i := 2) sc__least_sizes.nd rfl (by first | exact Or.inl rfl | exact Or.inr rfl) de_dic) (dss_cons (ds_set (i := 3) sc__least_sizes.nd rfl (by first | exact Or.inl rfl | exact Or.inr rfl) de_bl) (dss_cons (ds_while (passes_of rfl) (dt_val (de_var 3)) (dss_cons (ds_set (i := 3) sc__least_sizes.nd rfl (by first | exact Or.inl rfl | exact Or.inr rfl) de_bl) (dss_one (ds_for (passes_of rfl) rfl (di_any rfl (de_var 0)) (fun _ => (dg_tup rfl rfl (dgs_cons (dg_name (i := 4) sc__least_sizes.nd rfl (by first | exact Or.inl rfl | exact Or.inr rfl)) (dgs_cons (dg_name (i := 5) sc__least_sizes.nd rfl (by first | exact Or.inl rfl | exact Or.inr rfl)) (dgs_cons (dg_name (i := 6) sc__least_sizes.nd rfl (by first | exact Or.inl rfl | exact Or.inr rfl)) dgs_nil))))) (fun _ => (dss_cons (ds_if (dt_val (de_callB (cd_any rfl rfl) (by rfl) T.z_any dboot_any (da_cons (de_lc (own := [("child", 7)]) (ct := .nm 7) (dt := dYes) (de := dOp rNin (dVar 7) (dVar 2)) rfl rfl sc__least_sizes.nd (di_any rfl (de_var 6)) (blkOk_by (N := N__least_sizes) (sc := defScope s__least_sizes) (by decide +kernel)) (by decide) (fun _ _ _ _ _ => (pg_name (i := 7) sc__least_sizes.nd rfl (by first | exact Or.inl rfl | exact Or.inr rfl))) (fun _ _ _ _ _ _ => dts_nil) (fun _ _ _ _ _ _ => (de_cmp (od_notIn rfl rfl (hu65 hr)) (de_var 7) (de_var 2) (by with_unfolding_all rfl)))) da_nil))) (dss_one ds_cont) dss_nil) (dss_cons (ds_set (i := 8) sc__least_sizes.nd rfl (by first | exact Or.inl rfl | exact Or.inr rfl) (de_op (od_add rfl) de_int (de_callB (cd_sum rfl rfl) (by rfl) T.z_sum dboot_sum (da_cons (de_lc (own := [("child", 7)]) (ct := .nm 7) (dt := dYes) (de := dOp rIx (dVar 2) (dVar 7)) rfl rfl sc__least_sizes.nd (di_any rfl (de_var 6)) (blkOk_by (N := N__least_sizes) (sc := defScope s__least_sizes) (by decide +kernel)) (by decide) (fun _ _ _ _ _ => (pg_name (i := 7) sc__least_sizes.nd rfl (by first | exact Or.inl rfl | exact Or.inr rfl))) (fun _ _ _ _ _ _ => dts_nil) (fun _ _ _ _ _ _ => (de_ix (od_ix rfl rfl (hu64 hr)) (de_var 2) (de_var 7)))) da_nil)))) (dss_cons (ds_if (dt_w (dw_or (dt_cmp (od_notIn rfl rfl (hu65 hr)) (de_var 4) (de_var 1) (by with_unfolding_all rfl)) (dw_or1 (dt_cmp od_lt (de_var 8) (de_ix (od_ix rfl rfl (hu64 hr)) (de_var 1) (de_var 4)) (nomark _))))) (dss_cons (ds_asg (de_var 8) (dg_sub rfl (hu64 hr) (de_var 1) (de_var 4))) (dss_one (ds_set (i := 3) sc__least_sizes.nd rfl (by first | exact Or.inl rfl | exact Or.inr rfl) de_bl))) dss_nil) (dss_one (ds_if (dt_w (dw_or (dt_cmp (od_notIn rfl rfl (hu65 hr)) (de_var 5) (de_var 2) (by with_unfolding_all rfl)) (dw_or1 (dt_cmp od_lt (de_var 8) (de_ix (od_ix rfl rfl (hu64 hr)) (de_var 2) (de_var 5)) (nomark _))))) (dss_one (ds_asg (de_var 8) (dg_sub rfl (hu64 hr) (de_var 2) (de_var 5)))) dss_nil)))))))))) (dss_one (ds_ret (de_var 1)))))))
theorem h__law_source (T : Txt K mg A) {f : Addr} {cdv : Value} {A0 : Around} {outer : List PySem.Env} {s : Shared} {H U : Hp} {E : XK} (hr : Room 0 (A0.deeper (envOfC "_law_source" (defScope s__law_source) s.heap.objs.size f cdv))) :
    PSs (cxOf (L2.CX P Wd.w) P Wd.w K mg base N__law_source "_law_source" (defScope s__law_source) f cdv A0 outer s H E) (defBody s__law_source) (liftS ⟨K, U⟩ (fun cls d _ H => E cls d H) (d__law_source K A)) :=
  (dss_cons (ds_setLc (i := 1) (own := [("_law_cell", 2)]) (ct := .nm 2) (dt := dYes) (de := dCB rInt (dCons (dVar 2) (dNil))) rfl rfl sc__law_source.nd rfl rfl (sw_true rfl rfl rfl (by decide +kernel)) (di_any rfl (de_slice rfl (de_var 0) do_none (do_some de_int))) (blkOk_by (N := N__law_source) (sc := defScope s__law_source) (by decide +kernel)) (by decide) (fun _ _ _ _ _ => (pg_name (i := 2) sc__law_source.nd rfl (by first | exact Or.inl rfl | exact Or.inr rfl))) (fun _ _ _ _ _ _ => dts_nil) (fun _ _ _ _ _ _ => (de_callTy cd_int (by rfl) T.z_int dboot_int (da_cons (de_var 2) da_nil)))) (dss_one (ds_ret (de_lst (da_cons (de_var 1) (da_cons (de_lc (own := [("_law_cell", 2)]) (ct := .nm 2) (dt := dYes) (de := dOp rGe (dVar 2) (dOp rPow (dC (.int 10)) (dC (.int 18)))) rfl rfl sc__law_source.nd (di_any rfl (de_var 1)) (blkOk_by (N := N__law_source) (sc := defScope s__law_source) (by decide +kernel)) (by decide) (fun _ _ _ _ _ => (pg_name (i := 2) sc__law_source.nd rfl (by first | exact Or.inl rfl | exact Or.inr rfl))) (fun _ _ _ _ _ _ => dts_nil) (fun _ _ _ _ _ _ => (de_cmp od_ge (de_var 2) (de_op od_pow de_int de_int) (nomark _)))) (da_cons de_int (da_cons de_int (da_cons (de_op od_mod (de_callTy cd_int (by rfl) T.z_int dboot_int (da_cons (de_callB (cd_sum rfl rfl) (by rfl) T.z_sum dboot_sum (da_cons (de_var 1) da_nil)) da_nil)) de_int) da_nil)))))))))
theorem h__law_draw (T : Txt K mg A) {f : Addr} {cdv : Value} {A0 : Around} {outer : List PySem.Env} {s : Shared} {H U : Hp} {E : XK} (hr : Room 0 (A0.deeper (envOfC "_law_draw" (defScope s__law_draw) s.heap.objs.size f cdv))) :
    PSs (cxOf (L2.CX P Wd.w) P Wd.w K mg base N__law_draw "_law_draw" (defScope s__law_draw) f cdv A0 outer s H E) (defBody s__law_draw) (liftS ⟨K, U⟩ (fun cls d _ H => E cls d H) (d__law_draw K A)) :=
  (dss_cons (ds_set (i := 2) sc__law_draw.nd rfl (by first | exact Or.inl rfl | exact Or.inr rfl) (de_ix (od_ix rfl rfl (hu64 hr)) (de_var 0) de_int)) (dss_cons (ds_set (i := 3) sc__law_draw.nd rfl (by first | exact Or.inl rfl | exact Or.inr rfl) (de_ix (od_ix rfl rfl (hu64 hr)) (de_var 0) de_int)) (dss_cons (ds_if (dt_cmp od_lt (de_var 3) (de_callB (cd_len rfl rfl) (by rfl) T.z_len PySem.boot_len (da_cons (de_var 2) da_nil)) (nomark _)) (dss_cons (ds_set (i := 4) sc__law_draw.nd rfl (by first | exact Or.inl rfl | exact Or.inr rfl) (de_ix (od_ix rfl rfl (hu64 hr)) (de_var 2) (de_var 3))) (dss_cons (ds_asg (de_op od_div (de_var 4) (de_var 1)) (dg_sub rfl (hu64 hr) (de_var 2) (de_var 3))) (dss_cons (ds_if (dt_w (dw_or (dt_not (dt_val (de_ix (od_ix rfl rfl (hu64 hr)) (de_ix (od_ix rfl rfl (hu64 hr)) (de_var 0) de_int) (de_var 3)))) (dw_or1 (dt_cmp (od_eq rfl (hu64 hr)) (de_ix (od_ix rfl rfl (hu64 hr)) (de_var 2) (de_var 3)) de_int (nomark _))))) (dss_one (ds_asg (de_op (od_add rfl) (de_var 3) de_int) (dg_sub rfl (hu64 hr) (de_var 0) de_int))) dss_nil) (dss_one (ds_ret (de_op od_mod (de_callTy cd_int (by rfl) T.z_int dboot_int (da_cons (de_var 4) da_nil)) (de_var 1))))))) dss_nil) (dss_cons (ds_if (dt_cmp (od_eq rfl (hu64 hr)) (de_ix (od_ix rfl rfl (hu64 hr)) (de_var 0) de_int) de_int (nomark _)) (dss_one (ds_ret de_int)) dss_nil) (dss_cons (ds_asg (de_op (od_add rfl) (de_ix (od_ix rfl rfl (hu64 hr)) (de_var 0) de_int) de_int) (dg_sub rfl (hu64 hr) (de_var 0) de_int)) (dss_cons (ds_set (i := 5) sc__law_draw.nd rfl (by first | exact Or.inl rfl | exact Or.inr rfl) (de_op od_mod (de_callTy cd_int (by rfl) T.z_int dboot_int (da_cons (de_op od_mul (de_op (od_add rfl) (de_ix (od_ix rfl rfl (hu64 hr)) (de_var 0) de_int) (de_op od_mul (de_ix (od_ix rfl rfl (hu64 hr)) (de_var 0) de_int) de_int)) de_int) da_nil)) de_int)) (dss_one (ds_ret (de_op od_mod (de_op od_div (de_op od_mod (de_callTy cd_int (by rfl) T.z_int dboot_int (da_cons (de_op od_mul (de_var 5) (de_var 5)) da_nil)) de_int) de_int) (de_var 1))))))))))
theorem h__law_sizes (T : Txt K mg A) {f : Addr} {cdv : Value} {A0 : Around} {outer : List PySem.Env} {s : Shared} {H U : Hp} {E : XK} (hr : Room 0 (A0.deeper (envOfC "_law_sizes" (defScope s__law_sizes) s.heap.objs.size f cdv))) :
    PSs (cxOf (L2.CX P Wd.w) P Wd.w K mg base N__law_sizes "_law_sizes" (defScope s__law_sizes) f cdv A0 outer s H E) (defBody s__law_sizes) (liftS ⟨K, U⟩ (fun cls d _ H => E cls d H) (d__law_sizes K A)) :=
  (dss_cons (ds_set (i := 1) sc__law_sizes.nd rfl (by first | exact Or.inl rfl | exact Or.inr rfl) de_dic) (dss_cons (ds_for (passes_of rfl) rfl (di_range1 (by rfl) T.z_range (da_cons (de_callB (cd_len rfl rfl) (by rfl) T.z_len PySem.boot_len (da_cons (de_var 0) da_nil)) da_nil)) (fun _ => (dg_name (i := 2) sc__law_sizes.nd rfl (by first | exact Or.inl rfl | exact Or.inr rfl))) (fun _ => (dss_one (ds_for (passes_of rfl) rfl (di_any rfl (de_var 0)) (fun _ => (dg_name (i := 3) sc__law_sizes.nd rfl (by first | exact Or.inl rfl | exact Or.inr rfl))) (fun _ => (dss_one (ds_if (dt_val (de_callB (cd_all rfl rfl) (by rfl) T.z_all dboot_all (da_cons (de_lc (own := [("_law_family", 4)]) (ct := .nm 4) (dt := dYes) (de := dOp rIn (dVar 4) (dVar 1)) rfl rfl sc__law_sizes.nd (di_any rfl (de_ix (od_ix rfl rfl (hu64 hr)) (de_var 3) de_int)) (blkOk_by (N := N__law_sizes) (sc := defScope s__law_sizes) (by decide +kernel)) (by decide) (fun _ _ _ _ _ => (pg_name (i := 4) sc__law_sizes.nd rfl (by first | exact Or.inl rfl | exact Or.inr rfl))) (fun _ _ _ _ _ _ => dts_nil) (fun _ _ _ _ _ _ => (de_cmp (od_in rfl rfl (hu65 hr)) (de_var 4) (de_var 1) (by with_unfolding_all rfl)))) da_nil))) (dss_cons (ds_set (i := 5) sc__law_sizes.nd rfl (by first | exact Or.inl rfl | exact Or.inr rfl) (de_op (od_add rfl) de_int (de_callB (cd_sum rfl rfl) (by rfl) T.z_sum dboot_sum (da_cons (de_lc (own := [("_law_family", 4)]) (ct := .nm 4) (dt := dYes) (de := dOp rIx (dVar 1) (dVar 4)) rfl rfl sc__law_sizes.nd (di_any rfl (de_ix (od_ix rfl rfl (hu64 hr)) (de_var 3) de_int)) (blkOk_by (N := N__law_sizes) (sc := defScope s__law_sizes) (by decide +kernel)) (by decide) (fun _ _ _ _ _ => (pg_name (i := 4) sc__law_sizes.nd rfl (by first | exact Or.inl rfl | exact Or.inr rfl))) (fun _ _ _ _ _ _ => dts_nil) (fun _ _ _ _ _ _ => (de_ix (od_ix rfl rfl (hu64 hr)) (de_var 1) (de_var 4)))) da_nil)))) (dss_one (ds_if (dt_w (dw_or (dt_cmp (od_notIn rfl rfl (hu65 hr)) (de_ix (od_ix rfl rfl (hu64 hr)) (de_var 3) de_int) (de_var 1) (by with_unfolding_all rfl)) (dw_or1 (dt_cmp od_lt (de_var 5) (de_ix (od_ix rfl rfl (hu64 hr)) (de_var 1) (de_ix (od_ix rfl rfl (hu64 hr)) (de_var 3) de_int)) (nomark _))))) (dss_one (ds_asg (by exact de_zK rfl (de_var 5)) (dg_sub rfl (hu64 hr) (de_var 1) (de_ix (od_ix rfl rfl (hu64 hr)) (de_var 3) de_int)))) dss_nil))) dss_nil))))))) (dss_one (ds_ret (by exact de_zK rfl (de_var 1))))))
theorem h_LimitExceeded___init__ (T : Txt K mg A) {f : Addr} {cdv : Value} {A0 : Around} {outer : List PySem.Env} {s : Shared} {H U : Hp} {E : XK} (hr : Room 0 (A0.deeper (envOfC "LimitExceeded.__init__" (defScope s_LimitExceeded___init__) s.heap.objs.size f cdv))) :
    PSs (cxOf (L2.CX P Wd.w) P Wd.w K mg base N_LimitExceeded___init__ "LimitExceeded.__init__" (defScope s_LimitExceeded___init__) f cdv A0 outer s H E) (defBody s_LimitExceeded___init__) (liftS ⟨K, U⟩ (fun cls d _ H => E cls d H) (d_LimitExceeded___init__ K A)) :=
  (dss_one (ds_ost rfl (de_var 0) (de_var 1)))
theorem h_BadGrammar___init__ (T : Txt K mg A) {f : Addr} {cdv : Value} {A0 : Around} {outer : List PySem.Env} {s : Shared} {H U : Hp} {E : XK} (hr : Room 0 (A0.deeper (envOfC "BadGrammar.__init__" (defScope s_BadGrammar___init__) s.heap.objs.size f cdv))) :
    PSs (cxOf (L2.CX P Wd.w) P Wd.w K mg base N_BadGrammar___init__ "BadGrammar.__init__" (defScope s_BadGrammar___init__) f cdv A0 outer s H E) (defBody s_BadGrammar___init__) (liftS ⟨K, U⟩ (fun cls d _ H => E cls d H) (d_BadGrammar___init__ K A)) :=
  (dss_one (ds_ost rfl (de_var 0) (de_var 1)))
theorem h__law_names (T : Txt K mg A) (G__law_draw : FnD P Wd.w K mg base 1 A.f__law_draw (sd__law_draw K A)) {f : Addr} {cdv : Value} {A0 : Around} {outer : List PySem.Env} {s : Shared} {H U : Hp} {E : XK} (hr : Room 1 (A0.deeper (envOfC "_law_names" (defScope s__law_names) s.heap.objs.size f cdv))) :
    PSs (cxOf (L2.CX P Wd.w) P Wd.w K mg base N__law_names "_law_names" (defScope s__law_names) f cdv A0 outer s H E) (defBody s__law_names) (liftS ⟨K, U⟩ (fun cls d _ H => E cls d H) (d__law_names K A)) :=
  (dss_cons (ds_set (i := 2) sc__law_names.nd rfl (by first | exact Or.inl rfl | exact Or.inr rfl) de_str) (dss_cons (ds_set (i := 3) sc__law_names.nd rfl (by first | exact Or.inl rfl | exact Or.inr rfl) (de_call G__law_draw (hr.mono (by decide)) (by rfl) T.g__law_draw T.k__law_draw rfl (takes_of rfl rfl rfl rfl) (da_cons (de_var 0) (da_cons de_int da_nil)))) (dss_cons (ds_set (i := 4) sc__law_names.nd rfl (by first | exact Or.inl rfl | exact Or.inr rfl) (de_call G__law_draw (hr.mono (by decide)) (by rfl) T.g__law_draw T.k__law_draw rfl (takes_of rfl rfl rfl rfl) (da_cons (de_var 0) (da_cons de_int da_nil)))) (dss_cons (ds_set (i := 5) sc__law_names.nd rfl (by first | exact Or.inl rfl | exact Or.inr rfl) (de_call G__law_draw (hr.mono (by decide)) (by rfl) T.g__law_draw T.k__law_draw rfl (takes_of rfl rfl rfl rfl) (da_cons (de_var 0) (da_cons de_int da_nil)))) (dss_cons (ds_set (i := 6) sc__law_names.nd rfl (by first | exact Or.inl rfl | exact Or.inr rfl) (de_call G__law_draw (hr.mono (by decide)) (by rfl) T.g__law_draw T.k__law_draw rfl (takes_of rfl rfl rfl rfl) (da_cons (de_var 0) (da_cons de_int da_nil)))) (dss_cons (ds_set (i := 7) sc__law_names.nd rfl (by first | exact Or.inl rfl | exact Or.inr rfl) (de_ix (od_ix rfl rfl (hu64 hr)) (de_var 2) (de_call G__law_draw (hr.mono (by decide)) (by rfl) T.g__law_draw T.k__law_draw rfl (takes_of rfl rfl rfl rfl) (da_cons (de_var 0) (da_cons de_int da_nil))))) (dss_one (ds_ret (de_lc (own := [("_law_k", 8)]) (ct := .nm 8) (dt := dYes) (de := dOp rAdd (dOp rAdd (dOp rMul (dVar 7) (dVar 3)) (dOp rIx (dVar 2) (dOp rMod (dCB rInt (dCons (dOp rAdd (dVar 6) (dVar 8)) (dNil))) (dC (.int 26))))) (dOp rMul (dVar 7) (dOp rAdd (dVar 4) (dOp rMul (dVar 5) (dOp rMod (dCB rInt (dCons (dVar 8) (dNil))) (dC (.int 3))))))) rfl rfl sc__law_names.nd (di_range1 (by rfl) T.z_range (da_cons (de_var 1) da_nil)) (blkOk_by (N := N__law_names) (sc := defScope s__law_names) (by decide +kernel)) (by decide) (fun _ _ _ _ _ => (pg_name (i := 8) sc__law_names.nd rfl (by first | exact Or.inl rfl | exact Or.inr rfl))) (fun _ _ _ _ _ _ => dts_nil) (fun _ _ _ _ _ _ => (de_op (od_add rfl) (de_op (od_add rfl) (de_op od_mul (de_var 7) (de_var 3)) (de_ix (od_ix rfl rfl (hu64 hr)) (de_var 2) (de_op od_mod (de_callTy cd_int (by rfl) T.z_int dboot_int (da_cons (de_op (od_add rfl) (de_var 6) (de_var 8)) da_nil)) de_int))) (de_op od_mul (de_var 7) (de_op (od_add rfl) (de_var 4) (de_op od_mul (de_var 5) (de_op od_mod (de_callTy cd_int (by rfl) T.z_int dboot_int (da_cons (de_var 8) da_nil)) de_int)))))))))))))))
theorem h__law_changed (T : Txt K mg A) (G__law_draw : FnD P Wd.w K mg base 1 A.f__law_draw (sd__law_draw K A)) {f : Addr} {cdv : Value} {A0 : Around} {outer : List PySem.Env} {s : Shared} {H U : Hp} {E : XK} (hr : Room 1 (A0.deeper (envOfC "_law_changed" (defScope s__law_changed) s.heap.objs.size f cdv))) :
    PSs (cxOf (L2.CX P Wd.w) P Wd.w K mg base N__law_changed "_law_changed" (defScope s__law_changed) f cdv A0 outer s H E) (defBody s__law_changed) (liftS ⟨K, U⟩ (fun cls d _ H => E cls d H) (d__law_changed K A)) :=
  (dss_cons (ds_set (i := 5) sc__law_changed.nd rfl (by first | exact Or.inl rfl | exact Or.inr rfl) (de_call G__law_draw (hr.mono (by decide)) (by rfl) T.g__law_draw T.k__law_draw rfl (takes_of rfl rfl rfl rfl) (da_cons (de_var 0) (da_cons (de_op (od_add rfl) (de_callB (cd_len rfl rfl) (by rfl) T.z_len PySem.boot_len (da_cons (de_var 2) da_nil)) de_int) da_nil)))) (dss_cons (ds_if (dt_cmp (od_eq rfl (hu64 hr)) (de_var 4) de_int (nomark _)) (dss_one (ds_set (i := 1) sc__law_changed.nd rfl (by first | exact Or.inl rfl | exact Or.inr rfl) (de_op (od_add rfl) (de_var 1) (de_slice rfl (de_lc (own := [("_law_letter", 6)]) (ct := .nm 6) (dt := dYes) (de := dOp rAdd (dC (.str ("xa" : Str))) (dVar 6)) rfl rfl sc__law_changed.nd (di_txt de_str) (blkOk_by (N := N__law_changed) (sc := defScope s__law_changed) (by decide +kernel)) (by decide) (fun _ _ _ _ _ => (pg_name (i := 6) sc__law_changed.nd rfl (by first | exact Or.inl rfl | exact Or.inr rfl))) (fun _ _ _ _ _ _ => dts_nil) (fun _ _ _ _ _ _ => (de_op (od_add rfl) de_str (de_var 6)))) do_none (do_some (de_callB (cd_max rfl rfl) (by rfl) T.z_max dboot_max (da_cons de_int (da_cons (de_op od_sub de_int (de_callB (cd_len rfl rfl) (by rfl) T.z_len PySem.boot_len (da_cons (de_var 1) da_nil))) da_nil)))))))) dss_nil) (dss_cons (ds_if (dt_cmp (od_eq rfl (hu64 hr)) (de_var 4) de_int (nomark _)) (dss_one (ds_set (i := 1) sc__law_changed.nd rfl (by first | exact Or.inl rfl | exact Or.inr rfl) (de_op (od_add rfl) (de_op (od_add rfl) (de_slice rfl (de_var 1) do_none (do_some de_int)) (de_slice rfl (de_var 1) do_none (do_some de_int))) (de_slice rfl (de_var 1) (do_some de_int) do_none)))) dss_nil) (dss_cons (ds_if (dt_cmp (od_eq rfl (hu64 hr)) (de_var 4) de_int (nomark _)) (dss_one (ds_set (i := 2) sc__law_changed.nd rfl (by first | exact Or.inl rfl | exact Or.inr rfl) (de_lst da_nil))) dss_nil) (dss_cons (ds_if (dt_cmp (od_eq rfl (hu64 hr)) (de_var 4) de_int (nomark _)) (dss_one (ds_set (i := 2) sc__law_changed.nd rfl (by first | exact Or.inl rfl | exact Or.inr rfl) (de_op (od_add rfl) (de_op (od_add rfl) (de_slice rfl (de_var 2) do_none (do_some (de_var 5))) (de_lc (own := [("_law_kind", 7)]) (ct := .nm 7) (dt := dYes) (de := dTup (dCons (dOp rIx (dVar 7) (dC (.int 0))) (dCons (dOp rIx (dVar 7) (dC (.int 1))) (dCons (dLst (dNil)) (dNil))))) rfl rfl sc__law_changed.nd (di_any rfl (de_slice rfl (de_var 2) do_none (do_some de_int))) (blkOk_by (N := N__law_changed) (sc := defScope s__law_changed) (by decide +kernel)) (by decide) (fun _ _ _ _ _ => (pg_name (i := 7) sc__law_changed.nd rfl (by first | exact Or.inl rfl | exact Or.inr rfl))) (fun _ _ _ _ _ _ => dts_nil) (fun _ _ _ _ _ _ => (de_tup (da_cons (de_ix (od_ix rfl rfl (hu64 hr)) (de_var 7) de_int) (da_cons (de_ix (od_ix rfl rfl (hu64 hr)) (de_var 7) de_int) (da_cons (de_lst da_nil) da_nil))))))) (de_slice rfl (de_var 2) (do_some (de_var 5)) do_none)))) dss_nil) (dss_cons (ds_if (dt_cmp (od_eq rfl (hu64 hr)) (de_var 4) de_int (nomark _)) (dss_cons (ds_set (i := 8) sc__law_changed.nd rfl (by first | exact Or.inl rfl | exact Or.inr rfl) (de_if (dt_cmp od_gt (de_callB (cd_len rfl rfl) (by rfl) T.z_len PySem.boot_len (da_cons (de_var 2) da_nil)) de_int (nomark _)) (de_ix (od_ix rfl rfl (hu64 hr)) (de_ix (od_ix rfl rfl (hu64 hr)) (de_var 2) de_int) de_int) de_str)) (dss_one (ds_set (i := 2) sc__law_changed.nd rfl (by first | exact Or.inl rfl | exact Or.inr rfl) (de_op (od_add rfl) (de_var 2) (de_slice rfl (de_lc (own := [("_law_letter", 6)]) (ct := .nm 6) (dt := dYes) (de := dTup (dCons (dOp rAdd (dC (.str ("xk" : Str))) (dVar 6)) (dCons (dVar 8) (dCons (dLst (dNil)) (dNil))))) rfl rfl sc__law_changed.nd (di_txt de_str) (blkOk_by (N := N__law_changed) (sc := defScope s__law_changed) (by decide +kernel)) (by decide) (fun _ _ _ _ _ => (pg_name (i := 6) sc__law_changed.nd rfl (by first | exact Or.inl rfl | exact Or.inr rfl))) (fun _ _ _ _ _ _ => dts_nil) (fun _ _ _ _ _ _ => (de_tup (da_cons (de_op (od_add rfl) de_str (de_var 6)) (da_cons (de_var 8) (da_cons (de_lst da_nil) da_nil)))))) do_none (do_some (de_callB (cd_max rfl rfl) (by rfl) T.z_max dboot_max (da_cons de_int (da_cons (de_op od_sub de_int (de_callB (cd_len rfl rfl) (by rfl) T.z_len PySem.boot_len (da_cons (de_var 2) da_nil))) da_nil))))))))) dss_nil) (dss_cons (ds_if (dt_cmp (od_eq rfl (hu64 hr)) (de_var 4) de_int (nomark _)) (dss_one (ds_set (i := 2) sc__law_changed.nd rfl (by first | exact Or.inl rfl | exact Or.inr rfl) (de_op (od_add rfl) (de_op (od_add rfl) (de_slice rfl (de_var 2) do_none (do_some (de_var 5))) (de_lc (own := [("_law_kind", 7)]) (ct := .nm 7) (dt := dYes) (de := dTup (dCons (dC (.str ("four" : Str))) (dCons (dOp rIx (dVar 7) (dC (.int 1))) (dCons (dLst (dCons (dOp rIx (dVar 7) (dC (.int 1))) (dCons (dOp rIx (dVar 7) (dC (.int 1))) (dCons (dOp rIx (dVar 7) (dC (.int 1))) (dCons (dOp rIx (dVar 7) (dC (.int 1))) (dNil)))))) (dNil))))) rfl rfl sc__law_changed.nd (di_any rfl (de_slice rfl (de_var 2) do_none (do_some de_int))) (blkOk_by (N := N__law_changed) (sc := defScope s__law_changed) (by decide +kernel)) (by decide) (fun _ _ _ _ _ => (pg_name (i := 7) sc__law_changed.nd rfl (by first | exact Or.inl rfl | exact Or.inr rfl))) (fun _ _ _ _ _ _ => dts_nil) (fun _ _ _ _ _ _ => (de_tup (da_cons de_str (da_cons (de_ix (od_ix rfl rfl (hu64 hr)) (de_var 7) de_int) (da_cons (de_lst (da_cons (de_ix (od_ix rfl rfl (hu64 hr)) (de_var 7) de_int) (da_cons (de_ix (od_ix rfl rfl (hu64 hr)) (de_var 7) de_int) (da_cons (de_ix (od_ix rfl rfl (hu64 hr)) (de_var 7) de_int) (da_cons (de_ix (od_ix rfl rfl (hu64 hr)) (de_var 7) de_int) da_nil))))) da_nil))))))) (de_slice rfl (de_var 2) (do_some (de_var 5)) do_none)))) dss_nil) (dss_cons (ds_if (dt_cmp (od_eq rfl (hu64 hr)) (de_var 4) de_int (nomark _)) (dss_one (ds_set (i := 2) sc__law_changed.nd rfl (by first | exact Or.inl rfl | exact Or.inr rfl) (de_op (od_add rfl) (de_var 2) (de_lc (own := [("_law_letter", 6)]) (ct := .nm 6) (dt := dYes) (de := dTup (dCons (dOp rAdd (dC (.str ("xf" : Str))) (dVar 6)) (dCons (dOp rAdd (dC (.str ("xf" : Str))) (dVar 6)) (dCons (dLst (dNil)) (dNil))))) rfl rfl sc__law_changed.nd (di_txt de_str) (blkOk_by (N := N__law_changed) (sc := defScope s__law_changed) (by decide +kernel)) (by decide) (fun _ _ _ _ _ => (pg_name (i := 6) sc__law_changed.nd rfl (by first | exact Or.inl rfl | exact Or.inr rfl))) (fun _ _ _ _ _ _ => dts_nil) (fun _ _ _ _ _ _ => (de_tup (da_cons (de_op (od_add rfl) de_str (de_var 6)) (da_cons (de_op (od_add rfl) de_str (de_var 6)) (da_cons (de_lst da_nil) da_nil))))))))) dss_nil) (dss_cons (ds_if (dt_cmp (od_eq rfl (hu64 hr)) (de_var 4) de_int (nomark _)) (dss_one (ds_set (i := 2) sc__law_changed.nd rfl (by first | exact Or.inl rfl | exact Or.inr rfl) (de_op (od_add rfl) (de_op (od_add rfl) (de_slice rfl (de_var 2) do_none (do_some (de_var 5))) (de_lc (own := [("_law_kind", 7)]) (ct := .nm 7) (dt := dYes) (de := dTup (dCons (dC (.str ("lost" : Str))) (dCons (dOp rIx (dVar 7) (dC (.int 1))) (dCons (dLst (dCons (dOp rIx (dVar 7) (dC (.int 1))) (dCons (dC (.str ("unknownname" : Str))) (dNil)))) (dNil))))) rfl rfl sc__law_changed.nd (di_any rfl (de_slice rfl (de_var 2) do_none (do_some de_int))) (blkOk_by (N := N__law_changed) (sc := defScope s__law_changed) (by decide +kernel)) (by decide) (fun _ _ _ _ _ => (pg_name (i := 7) sc__law_changed.nd rfl (by first | exact Or.inl rfl | exact Or.inr rfl))) (fun _ _ _ _ _ _ => dts_nil) (fun _ _ _ _ _ _ => (de_tup (da_cons de_str (da_cons (de_ix (od_ix rfl rfl (hu64 hr)) (de_var 7) de_int) (da_cons (de_lst (da_cons (de_ix (od_ix rfl rfl (hu64 hr)) (de_var 7) de_int) (da_cons de_str da_nil))) da_nil))))))) (de_slice rfl (de_var 2) (do_some (de_var 5)) do_none)))) dss_nil) (dss_cons (ds_if (dt_cmp (od_eq rfl (hu64 hr)) (de_var 4) de_int (nomark _)) (dss_one (ds_set (i := 3) sc__law_changed.nd rfl (by first | exact Or.inl rfl | exact Or.inr rfl) de_str)) dss_nil) (dss_cons (ds_if (dt_cmp (od_eq rfl (hu64 hr)) (de_var 4) de_int (nomark _)) (dss_one (ds_set (i := 2) sc__law_changed.nd rfl (by first | exact Or.inl rfl | exact Or.inr rfl) (de_op (od_add rfl) (de_var 2) (de_lst (da_cons (de_tup (da_cons de_str (da_cons de_str (da_cons (de_lst (da_cons de_str da_nil)) da_nil)))) da_nil))))) dss_nil) (dss_cons (ds_if (dt_cmp (od_eq rfl (hu64 hr)) (de_var 4) de_int (nomark _)) (dss_one (ds_set (i := 2) sc__law_changed.nd rfl (by first | exact Or.inl rfl | exact Or.inr rfl) (de_op (od_add rfl) (de_var 2) (de_lst (da_cons (de_tup (da_cons de_str (da_cons de_str (da_cons (de_lst (da_cons de_str da_nil)) da_nil)))) (da_cons (de_tup (da_cons de_str (da_cons de_str (da_cons (de_lst (da_cons de_str da_nil)) da_nil)))) da_nil)))))) dss_nil) (dss_one (ds_ret (de_lst (da_cons (de_var 1) (da_cons (de_var 2) (da_cons (de_var 3) da_nil))))))))))))))))))
theorem h__law_due (T : Txt K mg A) (G__law_sizes : FnD P Wd.w K mg base 1 A.f__law_sizes (sd__law_sizes K A)) {f : Addr} {cdv : Value} {A0 : Around} {outer : List PySem.Env} {s : Shared} {H U : Hp} {E : XK} (hr : Room 1 (A0.deeper (envOfC "_law_due" (defScope s__law_due) s.heap.objs.size f cdv))) :
    PSs (cxOf (L2.CX P Wd.w) P Wd.w K mg base N__law_due "_law_due" (defScope s__law_due) f cdv A0 outer s H E) (defBody s__law_due) (liftS ⟨K, U⟩ (fun cls d _ H => E cls d H) (d__law_due K A)) :=
  (dss_cons (ds_set (i := 3) sc__law_due.nd rfl (by first | exact Or.inl rfl | exact Or.inr rfl) (de_lc (own := [("_law_kind", 4)]) (ct := .nm 4) (dt := dYes) (de := dOp rIx (dVar 4) (dC (.int 0))) rfl rfl sc__law_due.nd (di_any rfl (de_var 1)) (blkOk_by (N := N__law_due) (sc := defScope s__law_due) (by decide +kernel)) (by decide) (fun _ _ _ _ _ => (pg_name (i := 4) sc__law_due.nd rfl (by first | exact Or.inl rfl | exact Or.inr rfl))) (fun _ _ _ _ _ _ => dts_nil) (fun _ _ _ _ _ _ => (de_ix (od_ix rfl rfl (hu64 hr)) (de_var 4) de_int)))) (dss_cons (ds_set (i := 5) sc__law_due.nd rfl (by first | exact Or.inl rfl | exact Or.inr rfl) (de_lst da_nil)) (dss_cons (ds_for (passes_of rfl) rfl (di_any rfl (de_var 1)) (fun _ => (dg_name (i := 4) sc__law_due.nd rfl (by first | exact Or.inl rfl | exact Or.inr rfl))) (fun _ => (dss_one (ds_if (dt_cmp (od_notIn rfl rfl (hu65 hr)) (de_ix (od_ix rfl rfl (hu64 hr)) (de_var 4) de_int) (de_var 5) (by with_unfolding_all rfl)) (dss_one (ds_expr (de_bm PySem.F.plainAttrs_list PySem.F.slot_list_append PySem.F.type_list_append rfl md_append (de_var 5) (da_cons (de_ix (od_ix rfl rfl (hu64 hr)) (de_var 4) de_int) da_nil)))) dss_nil)))) (dss_cons (ds_if (dt_cmp od_gt (de_callB (cd_len rfl rfl) (by rfl) T.z_len PySem.boot_len (da_cons (de_var 0) da_nil)) de_int (nomark _)) (dss_one (ds_ret (de_tup (da_cons de_str (da_cons de_str da_nil))))) dss_nil) (dss_cons (ds_if (dt_val (de_callB (cd_any rfl rfl) (by rfl) T.z_any dboot_any (da_cons (de_lc (own := [("_law_name", 6)]) (ct := .nm 6) (dt := dYes) (de := dOp rGt (dBM "list" rCnt (dVar 0) (dCons (dVar 6) (dNil))) (dC (.int 1))) rfl rfl sc__law_due.nd (di_any rfl (de_var 0)) (blkOk_by (N := N__law_due) (sc := defScope s__law_due) (by decide +kernel)) (by decide) (fun _ _ _ _ _ => (pg_name (i := 6) sc__law_due.nd rfl (by first | exact Or.inl rfl | exact Or.inr rfl))) (fun _ _ _ _ _ _ => dts_nil) (fun _ _ _ _ _ _ => (de_cmp od_gt (de_bm PySem.F.plainAttrs_list PySem.F.slot_list_count PySem.F.type_list_count rfl (md_count rfl) (de_var 0) (da_cons (de_var 6) da_nil)) de_int (nomark _)))) da_nil))) (dss_one (ds_ret (de_tup (da_cons de_str (da_cons de_str da_nil))))) dss_nil) (dss_cons (ds_if (dt_w (dw_or (dt_cmp (od_eq rfl (hu64 hr)) (de_callB (cd_len rfl rfl) (by rfl) T.z_len PySem.boot_len (da_cons (de_var 1) da_nil)) de_int (nomark _)) (dw_or1 (dt_val (de_callB (cd_any rfl rfl) (by rfl) T.z_any dboot_any (da_cons (de_lc (own := [("_law_name", 6)]) (ct := .nm 6) (dt := dYes) (de := dOp rGt (dBM "list" rCnt (dVar 3) (dCons (dVar 6) (dNil))) (dC (.int 1))) rfl rfl sc__law_due.nd (di_any rfl (de_var 3)) (blkOk_by (N := N__law_due) (sc := defScope s__law_due) (by decide +kernel)) (by decide) (fun _ _ _ _ _ => (pg_name (i := 6) sc__law_due.nd rfl (by first | exact Or.inl rfl | exact Or.inr rfl))) (fun _ _ _ _ _ _ => dts_nil) (fun _ _ _ _ _ _ => (de_cmp od_gt (de_bm PySem.F.plainAttrs_list PySem.F.slot_list_count PySem.F.type_list_count rfl (md_count rfl) (de_var 3) (da_cons (de_var 6) da_nil)) de_int (nomark _)))) da_nil)))))) (dss_one (ds_ret (de_tup (da_cons de_str (da_cons de_str da_nil))))) dss_nil) (dss_cons (ds_if (dt_cmp od_gt (de_callB (cd_len rfl rfl) (by rfl) T.z_len PySem.boot_len (da_cons (de_var 1) da_nil)) de_int (nomark _)) (dss_one (ds_ret (de_tup (da_cons de_str (da_cons de_str da_nil))))) dss_nil) (dss_cons (ds_if (dt_val (de_callB (cd_any rfl rfl) (by rfl) T.z_any dboot_any (da_cons (de_lc (own := [("_law_kind", 4)]) (ct := .nm 4) (dt := dYes) (de := dOp rGt (dCB rLen (dCons (dOp rIx (dVar 4) (dC (.int 2))) (dNil))) (dC (.int 3))) rfl rfl sc__law_due.nd (di_any rfl (de_var 1)) (blkOk_by (N := N__law_due) (sc := defScope s__law_due) (by decide +kernel)) (by decide) (fun _ _ _ _ _ => (pg_name (i := 4) sc__law_due.nd rfl (by first | exact Or.inl rfl | exact Or.inr rfl))) (fun _ _ _ _ _ _ => dts_nil) (fun _ _ _ _ _ _ => (de_cmp od_gt (de_callB (cd_len rfl rfl) (by rfl) T.z_len PySem.boot_len (da_cons (de_ix (od_ix rfl rfl (hu64 hr)) (de_var 4) de_int) da_nil)) de_int (nomark _)))) da_nil))) (dss_one (ds_ret (de_tup (da_cons de_str (da_cons de_str da_nil))))) dss_nil) (dss_cons (ds_if (dt_cmp od_gt (de_callB (cd_len rfl rfl) (by rfl) T.z_len PySem.boot_len (da_cons (de_var 5) da_nil)) de_int (nomark _)) (dss_one (ds_ret (de_tup (da_cons de_str (da_cons de_str da_nil))))) dss_nil) (dss_cons (ds_for (passes_of rfl) rfl (di_any rfl (de_var 1)) (fun _ => (dg_name (i := 4) sc__law_due.nd rfl (by first | exact Or.inl rfl | exact Or.inr rfl))) (fun _ => (dss_one (ds_if (dt_val (de_callB (cd_any rfl rfl) (by rfl) T.z_any dboot_any (da_cons (de_lc (own := [("_law_family", 7)]) (ct := .nm 7) (dt := dYes) (de := dOp rNin (dVar 7) (dVar 5)) rfl rfl sc__law_due.nd (di_any rfl (de_ix (od_ix rfl rfl (hu64 hr)) (de_var 4) de_int)) (blkOk_by (N := N__law_due) (sc := defScope s__law_due) (by decide +kernel)) (by decide) (fun _ _ _ _ _ => (pg_name (i := 7) sc__law_due.nd rfl (by first | exact Or.inl rfl | exact Or.inr rfl))) (fun _ _ _ _ _ _ => dts_nil) (fun _ _ _ _ _ _ => (de_cmp (od_notIn rfl rfl (hu65 hr)) (de_var 7) (de_var 5) (by with_unfolding_all rfl)))) da_nil))) (dss_one (ds_ret (de_tup (da_cons de_str (da_cons de_str da_nil))))) dss_nil)))) (dss_cons (ds_if (dt_w (dw_and (dt_cmp od_isNot (de_var 2) de_non (nomark _)) (dw_and1 (dt_cmp (od_notIn rfl rfl (hu65 hr)) (de_var 2) (de_var 5) (by with_unfolding_all rfl))))) (dss_one (ds_ret (de_tup (da_cons de_str (da_cons de_str da_nil))))) dss_nil) (dss_cons (ds_set (i := 8) sc__law_due.nd rfl (by first | exact Or.inl rfl | exact Or.inr rfl) (by exact de_zK rfl (de_call G__law_sizes (hr.mono (by decide)) (by rfl) T.g__law_sizes T.k__law_sizes rfl (takes_of rfl rfl rfl rfl) (da_cons (de_var 1) da_nil)))) (dss_cons (ds_if (dt_val (de_callB (cd_any rfl rfl) (by rfl) T.z_any dboot_any (da_cons (de_lc (own := [("_law_family", 7)]) (ct := .nm 7) (dt := dYes) (de := dOp rNin (dVar 7) (dVar 8)) rfl rfl sc__law_due.nd (di_any rfl (de_var 5)) (blkOk_by (N := N__law_due) (sc := defScope s__law_due) (by decide +kernel)) (by decide) (fun _ _ _ _ _ => (pg_name (i := 7) sc__law_due.nd rfl (by first | exact Or.inl rfl | exact Or.inr rfl))) (fun _ _ _ _ _ _ => dts_nil) (fun _ _ _ _ _ _ => (de_cmp (od_notIn rfl rfl (hu65 hr)) (de_var 7) (de_var 8) (by with_unfolding_all rfl)))) da_nil))) (dss_one (ds_ret (de_tup (da_cons de_str (da_cons de_str da_nil))))) dss_nil) (dss_one (ds_ret (de_tup (da_cons de_str (da_cons de_str da_nil))))))))))))))))))
theorem h__check_fields (T : Txt K mg A) (G__in_order : FnD P Wd.w K mg base 1 A.f__in_order (sd__in_order K A)) {fd_LimitExceeded___init__ : FuncData} (F_LimitExceeded___init__ : FnOk P Wd.w K mg base (L2.CX P Wd.w) 1 A.m_LimitExceeded___init__ fd_LimitExceeded___init__ ["self", "limit"] (spOf K (sd_LimitExceeded___init__ K A)) ∧ Binds K fd_LimitExceeded___init__ ["self", "limit"] []) {fd_BadGrammar___init__ : FuncData} (F_BadGrammar___init__ : FnOk P Wd.w K mg base (L2.CX P Wd.w) 1 A.m_BadGrammar___init__ fd_BadGrammar___init__ ["self", "part"] (spOf K (sd_BadGrammar___init__ K A)) ∧ Binds K fd_BadGrammar___init__ ["self", "part"] []) {f : Addr} {cdv : Value} {A0 : Around} {outer : List PySem.Env} {s : Shared} {H U : Hp} {E : XK} (hr : Room 2 (A0.deeper (envOfC "_check_fields" (defScope s__check_fields) s.heap.objs.size f cdv))) :
    PSs (cxOf (L2.CX P Wd.w) P Wd.w K mg base N__check_fields "_check_fields" (defScope s__check_fields) f cdv A0 outer s H E) (defBody s__check_fields) (liftS ⟨K, U⟩ (fun cls d _ H => E cls d H) (d__check_fields K A)) :=
  (dss_cons (ds_if (dt_cmp od_gt (de_callB (cd_len rfl rfl) (by rfl) T.z_len PySem.boot_len (da_cons (de_var 0) da_nil)) (de_con (de_globC (by rfl) T.g_Grammar)) (nomark _)) (dss_one (ds_raise rfl rfl (takes_of rfl rfl rfl rfl) T.ox_LimitExceeded T.ini_LimitExceeded T.ti_LimitExceeded F_LimitExceeded___init__.1 F_LimitExceeded___init__.2 (hr.mono (by decide)) (by rfl) T.g_LimitExceeded (da_cons de_str da_nil))) dss_nil) (dss_one (ds_if (dt_cmp od_lt (de_callB (cd_len rfl rfl) (by rfl) T.z_len PySem.boot_len (da_cons (de_call G__in_order (hr.mono (by decide)) (by rfl) T.g__in_order T.k__in_order rfl (takes_of rfl rfl rfl rfl) (da_cons (de_var 0) da_nil)) da_nil)) (de_callB (cd_len rfl rfl) (by rfl) T.z_len PySem.boot_len (da_cons (de_var 0) da_nil)) (nomark _)) (dss_one (ds_raise rfl rfl (takes_of rfl rfl rfl rfl) T.ox_BadGrammar T.ini_BadGrammar T.ti_BadGrammar F_BadGrammar___init__.1 F_BadGrammar___init__.2 (hr.mono (by decide)) (by rfl) T.g_BadGrammar (da_cons de_str da_nil))) dss_nil)))
theorem h__check_kinds (T : Txt K mg A) (G__in_order : FnD P Wd.w K mg base 1 A.f__in_order (sd__in_order K A)) {fd_BadGrammar___init__ : FuncData} (F_BadGrammar___init__ : FnOk P Wd.w K mg base (L2.CX P Wd.w) 1 A.m_BadGrammar___init__ fd_BadGrammar___init__ ["self", "part"] (spOf K (sd_BadGrammar___init__ K A)) ∧ Binds K fd_BadGrammar___init__ ["self", "part"] []) {fd_LimitExceeded___init__ : FuncData} (F_LimitExceeded___init__ : FnOk P Wd.w K mg base (L2.CX P Wd.w) 1 A.m_LimitExceeded___init__ fd_LimitExceeded___init__ ["self", "limit"] (spOf K (sd_LimitExceeded___init__ K A)) ∧ Binds K fd_LimitExceeded___init__ ["self", "limit"] []) {f : Addr} {cdv : Value} {A0 : Around} {outer : List PySem.Env} {s : Shared} {H U : Hp} {E : XK} (hr : Room 2 (A0.deeper (envOfC "_check_kinds" (defScope s__check_kinds) s.heap.objs.size f cdv))) :
    PSs (cxOf (L2.CX P Wd.w) P Wd.w K mg base N__check_kinds "_check_kinds" (defScope s__check_kinds) f cdv A0 outer s H E) (defBody s__check_kinds) (liftS ⟨K, U⟩ (fun cls d _ H => E cls d H) (d__check_kinds K A)) :=
  (dss_cons (ds_if (dt_w (dw_or (dt_cmp (od_eq rfl (hu64 hr)) (de_callB (cd_len rfl rfl) (by rfl) T.z_len PySem.boot_len (da_cons (de_var 0) da_nil)) de_int (nomark _)) (dw_or1 (dt_cmp od_lt (de_callB (cd_len rfl rfl) (by rfl) T.z_len PySem.boot_len (da_cons (de_call G__in_order (hr.mono (by decide)) (by rfl) T.g__in_order T.k__in_order rfl (takes_of rfl rfl rfl rfl) (da_cons (de_lc (own := [("row", 2)]) (ct := .nm 2) (dt := dYes) (de := dOp rIx (dVar 2) (dC (.int 0))) rfl rfl sc__check_kinds.nd (di_any rfl (de_var 0)) (blkOk_by (N := N__check_kinds) (sc := defScope s__check_kinds) (by decide +kernel)) (by decide) (fun _ _ _ _ _ => (pg_name (i := 2) sc__check_kinds.nd rfl (by first | exact Or.inl rfl | exact Or.inr rfl))) (fun _ _ _ _ _ _ => dts_nil) (fun _ _ _ _ _ _ => (de_ix (od_ix rfl rfl (hu64 hr)) (de_var 2) de_int))) da_nil)) da_nil)) (de_callB (cd_len rfl rfl) (by rfl) T.z_len PySem.boot_len (da_cons (de_var 0) da_nil)) (nomark _))))) (dss_one (ds_raise rfl rfl (takes_of rfl rfl rfl rfl) T.ox_BadGrammar T.ini_BadGrammar T.ti_BadGrammar F_BadGrammar___init__.1 F_BadGrammar___init__.2 (hr.mono (by decide)) (by rfl) T.g_BadGrammar (da_cons de_str da_nil))) dss_nil) (dss_cons (ds_if (dt_cmp od_gt (de_callB (cd_len rfl rfl) (by rfl) T.z_len PySem.boot_len (da_cons (de_var 0) da_nil)) (de_con (de_globC (by rfl) T.g_Grammar)) (nomark _)) (dss_one (ds_raise rfl rfl (takes_of rfl rfl rfl rfl) T.ox_LimitExceeded T.ini_LimitExceeded T.ti_LimitExceeded F_LimitExceeded___init__.1 F_LimitExceeded___init__.2 (hr.mono (by decide)) (by rfl) T.g_LimitExceeded (da_cons de_str da_nil))) dss_nil) (dss_cons (ds_if (dt_val (de_callB (cd_any rfl rfl) (by rfl) T.z_any dboot_any (da_cons (de_lc (own := [("row", 2)]) (ct := .nm 2) (dt := dYes) (de := dOp rGt (dCB rLen (dCons (dOp rIx (dVar 2) (dC (.int 2))) (dNil))) (dCon K (dC (.ptr A.c_Grammar)) "MOST_CHILDREN")) rfl rfl sc__check_kinds.nd (di_any rfl (de_var 0)) (blkOk_by (N := N__check_kinds) (sc := defScope s__check_kinds) (by decide +kernel)) (by decide) (fun _ _ _ _ _ => (pg_name (i := 2) sc__check_kinds.nd rfl (by first | exact Or.inl rfl | exact Or.inr rfl))) (fun _ _ _ _ _ _ => dts_nil) (fun _ _ _ _ _ _ => (de_cmp od_gt (de_callB (cd_len rfl rfl) (by rfl) T.z_len PySem.boot_len (da_cons (de_ix (od_ix rfl rfl (hu64 hr)) (de_var 2) de_int) da_nil)) (de_con (de_globC (by rfl) T.g_Grammar)) (nomark _)))) da_nil))) (dss_one (ds_raise rfl rfl (takes_of rfl rfl rfl rfl) T.ox_LimitExceeded T.ini_LimitExceeded T.ti_LimitExceeded F_LimitExceeded___init__.1 F_LimitExceeded___init__.2 (hr.mono (by decide)) (by rfl) T.g_LimitExceeded (da_cons de_str da_nil))) dss_nil) (dss_cons (ds_if (dt_cmp od_gt (de_callB (cd_len rfl rfl) (by rfl) T.z_len PySem.boot_len (da_cons (de_var 1) da_nil)) (de_con (de_globC (by rfl) T.g_Grammar)) (nomark _)) (dss_one (ds_raise rfl rfl (takes_of rfl rfl rfl rfl) T.ox_LimitExceeded T.ini_LimitExceeded T.ti_LimitExceeded F_LimitExceeded___init__.1 F_LimitExceeded___init__.2 (hr.mono (by decide)) (by rfl) T.g_LimitExceeded (da_cons de_str da_nil))) dss_nil) (dss_one (ds_if (dt_val (de_callB (cd_any rfl rfl) (by rfl) T.z_any dboot_any (da_cons (de_lc2 (own := [("row", 2), ("child", 3)]) (vs1 := [3]) (ct := .nm 2) (ct1 := .nm 3) (dt := dYes) (di1 := iAny (dOp rIx (dVar 2) (dC (.int 2)))) (dt1 := dYes) (de := dOp rNin (dVar 3) (dVar 1)) rfl rfl sc__check_kinds.nd (di_any rfl (de_var 0)) (blkOk_by (N := N__check_kinds) (sc := defScope s__check_kinds) (by decide +kernel)) (by decide) (by decide) (by decide) (fun _ _ _ _ _ => (pg_name (i := 2) sc__check_kinds.nd rfl (by first | exact Or.inl rfl | exact Or.inr rfl))) (fun _ _ _ _ _ _ => dts_nil) (fun _ _ _ _ _ _ => (di_any rfl (de_ix (od_ix rfl rfl (hu64 hr)) (de_var 2) de_int))) (fun _ _ _ _ _ => (pg_name (i := 3) sc__check_kinds.nd rfl (by first | exact Or.inl rfl | exact Or.inr rfl))) (fun _ _ _ _ _ _ => dts_nil) (fun _ _ _ _ _ _ => (de_cmp (od_notIn rfl rfl (hu65 hr)) (de_var 3) (de_var 1) (by with_unfolding_all rfl)))) da_nil))) (dss_one (ds_raise rfl rfl (takes_of rfl rfl rfl rfl) T.ox_BadGrammar T.ini_BadGrammar T.ti_BadGrammar F_BadGrammar___init__.1 F_BadGrammar___init__.2 (hr.mono (by decide)) (by rfl) T.g_BadGrammar (da_cons de_str da_nil))) dss_nil))))))
theorem h__law_kinds (T : Txt K mg A) (G__law_draw : FnD P Wd.w K mg base 1 A.f__law_draw (sd__law_draw K A)) (G__law_names : FnD P Wd.w K mg base 2 A.f__law_names (sd__law_names K A)) {f : Addr} {cdv : Value} {A0 : Around} {outer : List PySem.Env} {s : Shared} {H U : Hp} {E : XK} (hr : Room 2 (A0.deeper (envOfC "_law_kinds" (defScope s__law_kinds) s.heap.objs.size f cdv))) :
    PSs (cxOf (L2.CX P Wd.w) P Wd.w K mg base N__law_kinds "_law_kinds" (defScope s__law_kinds) f cdv A0 outer s H E) (defBody s__law_kinds) (liftS ⟨K, U⟩ (fun cls d _ H => E cls d H) (d__law_kinds K A)) :=
  (dss_cons (ds_set (i := 4) sc__law_kinds.nd rfl (by first | exact Or.inl rfl | exact Or.inr rfl) (de_op (od_add rfl) (de_callB (cd_len rfl rfl) (by rfl) T.z_len PySem.boot_len (da_cons (de_var 1) da_nil)) (de_call G__law_draw (hr.mono (by decide)) (by rfl) T.g__law_draw T.k__law_draw rfl (takes_of rfl rfl rfl rfl) (da_cons (de_var 0) (da_cons (de_op (od_add rfl) (de_var 2) de_int) da_nil))))) (dss_cons (ds_set (i := 5) sc__law_kinds.nd rfl (by first | exact Or.inl rfl | exact Or.inr rfl) (by exact de_zK rfl (de_call G__law_names (hr.mono (by decide)) (by rfl) T.g__law_names T.k__law_names rfl (takes_of rfl rfl rfl rfl) (da_cons (de_var 0) (da_cons (de_var 4) da_nil))))) (dss_cons (ds_set (i := 6) sc__law_kinds.nd rfl (by first | exact Or.inl rfl | exact Or.inr rfl) (de_lst da_nil)) (dss_cons (ds_for (passes_of rfl) rfl (di_range1 (by rfl) T.z_range (da_cons (de_var 4) da_nil)) (fun _ => (dg_name (i := 7) sc__law_kinds.nd rfl (by first | exact Or.inl rfl | exact Or.inr rfl))) (fun _ => (dss_cons (ds_set (i := 8) sc__law_kinds.nd rfl (by first | exact Or.inl rfl | exact Or.inr rfl) (de_if (dt_cmp od_lt (de_var 7) (de_callB (cd_len rfl rfl) (by rfl) T.z_len PySem.boot_len (da_cons (de_var 1) da_nil)) (nomark _)) (de_ix (od_ix rfl rfl (hu64 hr)) (de_var 1) (de_var 7)) (de_ix (od_ix rfl rfl (hu64 hr)) (de_var 1) (de_call G__law_draw (hr.mono (by decide)) (by rfl) T.g__law_draw T.k__law_draw rfl (takes_of rfl rfl rfl rfl) (da_cons (de_var 0) (da_cons (de_callB (cd_len rfl rfl) (by rfl) T.z_len PySem.boot_len (da_cons (de_var 1) da_nil)) da_nil)))))) (dss_cons (ds_set (i := 9) sc__law_kinds.nd rfl (by first | exact Or.inl rfl | exact Or.inr rfl) (de_callB (cd_min rfl rfl) (by rfl) T.z_min dboot_min (da_cons (de_var 7) (da_cons (de_callTy cd_int (by rfl) T.z_int dboot_int (da_cons (de_callB (cd_len rfl rfl) (by rfl) T.z_len PySem.boot_len (da_cons (de_var 1) da_nil)) da_nil)) da_nil)))) (dss_cons (ds_set (i := 10) sc__law_kinds.nd rfl (by first | exact Or.inl rfl | exact Or.inr rfl) (de_lst da_nil)) (dss_cons (ds_if (dt_cmp od_gt (de_var 9) de_int (nomark _)) (dss_one (ds_setLc (i := 10) (own := [("_law_n", 11)]) (ct := .nm 11) (dt := dYes) (de := dOp rIx (dVar 1) (dCall (sd__law_draw K A) (dCons (dVar 0) (dCons (dVar 9) (dNil))))) rfl rfl sc__law_kinds.nd rfl rfl (sw_true rfl rfl rfl (by decide +kernel)) (di_range1 (by rfl) T.z_range (da_cons (de_call G__law_draw (hr.mono (by decide)) (by rfl) T.g__law_draw T.k__law_draw rfl (takes_of rfl rfl rfl rfl) (da_cons (de_var 0) (da_cons (de_op (od_add rfl) (de_var 3) de_int) da_nil))) da_nil)) (blkOk_by (N := N__law_kinds) (sc := defScope s__law_kinds) (by decide +kernel)) (by decide) (fun _ _ _ _ _ => (pg_name (i := 11) sc__law_kinds.nd rfl (by first | exact Or.inl rfl | exact Or.inr rfl))) (fun _ _ _ _ _ _ => dts_nil) (fun _ _ _ _ _ _ => (de_ix (od_ix rfl rfl (hu64 hr)) (de_var 1) (de_call G__law_draw (hr.mono (by decide)) (by rfl) T.g__law_draw T.k__law_draw rfl takes0 (da_cons (de_var 0) (da_cons (de_var 9) da_nil))))))) dss_nil) (dss_one (ds_expr (de_bm PySem.F.plainAttrs_list PySem.F.slot_list_append PySem.F.type_list_append rfl md_append (de_var 6) (da_cons (de_tup (da_cons (de_ix (od_ix rfl rfl (hu64 hr)) (de_var 5) (de_var 7)) (da_cons (de_var 8) (da_cons (de_var 10) da_nil)))) da_nil)))))))))) (dss_cons (ds_set (i := 12) sc__law_kinds.nd rfl (by first | exact Or.inl rfl | exact Or.inr rfl) (de_call G__law_draw (hr.mono (by decide)) (by rfl) T.g__law_draw T.k__law_draw rfl (takes_of rfl rfl rfl rfl) (da_cons (de_var 0) (da_cons (de_var 4) da_nil)))) (dss_one (ds_ret (de_op (od_add rfl) (de_slice rfl (de_var 6) (do_some (de_var 12)) do_none) (de_slice rfl (de_var 6) do_none (do_some (de_var 12)))))))))))
theorem h_Grammar___init__ (T : Txt K mg A) (G__in_order : FnD P Wd.w K mg base 1 A.f__in_order (sd__in_order K A)) (G__check_fields : FnD P Wd.w K mg base 3 A.f__check_fields (sd__check_fields K A)) (G__check_kinds : FnD P Wd.w K mg base 3 A.f__check_kinds (sd__check_kinds K A)) (G__least_sizes : FnD P Wd.w K mg base 1 A.f__least_sizes (sd__least_sizes K A)) {fd_BadGrammar___init__ : FuncData} (F_BadGrammar___init__ : FnOk P Wd.w K mg base (L2.CX P Wd.w) 1 A.m_BadGrammar___init__ fd_BadGrammar___init__ ["self", "part"] (spOf K (sd_BadGrammar___init__ K A)) ∧ Binds K fd_BadGrammar___init__ ["self", "part"] []) {f : Addr} {cdv : Value} {A0 : Around} {outer : List PySem.Env} {s : Shared} {H U : Hp} {E : XK} (hr : Room 3 (A0.deeper (envOfC "Grammar.__init__" (defScope s_Grammar___init__) s.heap.objs.size f cdv))) :
    PSs (cxOf (L2.CX P Wd.w) P Wd.w K mg base N_Grammar___init__ "Grammar.__init__" (defScope s_Grammar___init__) f cdv A0 outer s H E) (defBody s_Grammar___init__) (liftS ⟨K, U⟩ (fun cls d _ H => E cls d H) (d_Grammar___init__ K A)) :=
  (dss_cons (ds_setLc (i := 4) (own := [("name", 5), ("family", 6), ("children", 7)]) (ct := .tp [5, 6, 7]) (dt := dYes) (de := dTup (dCons (dVar 5) (dCons (dVar 6) (dCons (dCB rTuple (dCons (dVar 7) (dNil))) (dNil))))) rfl rfl sc_Grammar___init__.nd rfl rfl (sw_true rfl rfl rfl (by decide +kernel)) (di_any rfl (de_var 2)) (blkOk_by (N := N_Grammar___init__) (sc := defScope s_Grammar___init__) (by decide +kernel)) (by decide) (fun _ _ _ _ _ => (pg_tup rfl (pgs_cons (pg_name (i := 5) sc_Grammar___init__.nd rfl (by first | exact Or.inl rfl | exact Or.inr rfl)) (pgs_cons (pg_name (i := 6) sc_Grammar___init__.nd rfl (by first | exact Or.inl rfl | exact Or.inr rfl)) (pgs_cons (pg_name (i := 7) sc_Grammar___init__.nd rfl (by first | exact Or.inl rfl | exact Or.inr rfl)) pgs_nil))))) (fun _ _ _ _ _ _ => dts_nil) (fun _ _ _ _ _ _ => (de_tup (da_cons (de_var 5) (da_cons (de_var 6) (da_cons (de_callTy (cd_tuple rfl rfl) (by rfl) T.z_tuple dboot_tuple (da_cons (de_var 7) da_nil)) da_nil)))))) (dss_cons (ds_set (i := 8) sc_Grammar___init__.nd rfl (by first | exact Or.inl rfl | exact Or.inr rfl) (de_call G__in_order (hr.mono (by decide)) (by rfl) T.g__in_order T.k__in_order rfl (takes_of rfl rfl rfl rfl) (da_cons (de_lc (own := [("row", 9)]) (ct := .nm 9) (dt := dYes) (de := dOp rIx (dVar 9) (dC (.int 1))) rfl rfl sc_Grammar___init__.nd (di_any rfl (de_var 4)) (blkOk_by (N := N_Grammar___init__) (sc := defScope s_Grammar___init__) (by decide +kernel)) (by decide) (fun _ _ _ _ _ => (pg_name (i := 9) sc_Grammar___init__.nd rfl (by first | exact Or.inl rfl | exact Or.inr rfl))) (fun _ _ _ _ _ _ => dts_nil) (fun _ _ _ _ _ _ => (de_ix (od_ix rfl rfl (hu64 hr)) (de_var 9) de_int))) da_nil))) (dss_cons (ds_expr (de_call G__check_fields (hr.mono (by decide)) (by rfl) T.g__check_fields T.k__check_fields rfl (takes_of rfl rfl rfl rfl) (da_cons (de_var 1) da_nil))) (dss_cons (ds_expr (de_call G__check_kinds (hr.mono (by decide)) (by rfl) T.g__check_kinds T.k__check_kinds rfl (takes_of rfl rfl rfl rfl) (da_cons (de_var 4) (da_cons (de_var 8) da_nil)))) (dss_cons (ds_if (dt_w (dw_and (dt_cmp od_isNot (de_var 3) de_non (nomark _)) (dw_and1 (dt_cmp (od_notIn rfl rfl (hu65 hr)) (de_var 3) (de_var 8) (by with_unfolding_all rfl))))) (dss_one (ds_raise rfl rfl (takes_of rfl rfl rfl rfl) T.ox_BadGrammar T.ini_BadGrammar T.ti_BadGrammar F_BadGrammar___init__.1 F_BadGrammar___init__.2 (hr.mono (by decide)) (by rfl) T.g_BadGrammar (da_cons de_str da_nil))) dss_nil) (dss_cons (ds_set (i := 10) sc_Grammar___init__.nd rfl (by first | exact Or.inl rfl | exact Or.inr rfl) (by exact de_zK rfl (de_call G__least_sizes (hr.mono (by decide)) (by rfl) T.g__least_sizes T.k__least_sizes rfl (takes_of rfl rfl rfl rfl) (da_cons (de_var 4) da_nil)))) (dss_cons (ds_if (dt_cmp od_lt (de_callB (cd_len rfl rfl) (by rfl) T.z_len PySem.boot_len (da_cons (de_var 10) da_nil)) (de_callB (cd_len rfl rfl) (by rfl) T.z_len PySem.boot_len (da_cons (de_var 4) da_nil)) (nomark _)) (dss_one (ds_raise rfl rfl (takes_of rfl rfl rfl rfl) T.ox_BadGrammar T.ini_BadGrammar T.ti_BadGrammar F_BadGrammar___init__.1 F_BadGrammar___init__.2 (hr.mono (by decide)) (by rfl) T.g_BadGrammar (da_cons de_str da_nil))) dss_nil) (dss_cons (ds_fld rfl (de_var 0) (de_callTy (cd_tuple rfl rfl) (by rfl) T.z_tuple dboot_tuple (da_cons (de_var 1) da_nil))) (dss_cons (ds_fld rfl (de_var 0) (de_callTy (cd_tuple rfl rfl) (by rfl) T.z_tuple dboot_tuple (da_cons (de_lc (own := [("row", 9)]) (ct := .nm 9) (dt := dYes) (de := dOp rIx (dVar 9) (dC (.int 0))) rfl rfl sc_Grammar___init__.nd (di_any rfl (de_var 4)) (blkOk_by (N := N_Grammar___init__) (sc := defScope s_Grammar___init__) (by decide +kernel)) (by decide) (fun _ _ _ _ _ => (pg_name (i := 9) sc_Grammar___init__.nd rfl (by first | exact Or.inl rfl | exact Or.inr rfl))) (fun _ _ _ _ _ _ => dts_nil) (fun _ _ _ _ _ _ => (de_ix (od_ix rfl rfl (hu64 hr)) (de_var 9) de_int))) da_nil))) (dss_cons (ds_fld rfl (de_var 0) (de_callTy (cd_tuple rfl rfl) (by rfl) T.z_tuple dboot_tuple (da_cons (de_var 8) da_nil))) (dss_cons (ds_fld rfl (de_var 0) (de_if (dt_cmp od_is (de_var 3) de_non (nomark _)) (de_ix (od_ix rfl rfl (hu64 hr)) (de_var 8) de_int) (de_var 3))) (dss_cons (ds_fld rfl (de_var 0) (de_de (own := [("row", 9)]) (ct := .nm 9) (dt := dYes) (dk := dOp rIx (dVar 9) (dC (.int 0))) (dv := dOp rIx (dVar 9) (dC (.int 1))) rfl (hu64 hr) rfl rfl sc_Grammar___init__.nd (di_any rfl (de_var 4)) (blkOk_by (N := N_Grammar___init__) (sc := defScope s_Grammar___init__) (by decide +kernel)) (by decide) (fun _ _ _ _ _ => (pg_name (i := 9) sc_Grammar___init__.nd rfl (by first | exact Or.inl rfl | exact Or.inr rfl))) (fun _ _ _ _ _ _ => dts_nil) (fun _ _ _ _ _ _ => (de_ix (od_ix rfl rfl (hu64 hr)) (de_var 9) de_int)) (fun _ _ _ _ _ _ => (de_ix (od_ix rfl rfl (hu64 hr)) (de_var 9) de_int)))) (dss_cons (ds_fld rfl (de_var 0) (de_de (own := [("row", 9)]) (ct := .nm 9) (dt := dYes) (dk := dOp rIx (dVar 9) (dC (.int 0))) (dv := dOp rIx (dVar 9) (dC (.int 2))) rfl (hu64 hr) rfl rfl sc_Grammar___init__.nd (di_any rfl (de_var 4)) (blkOk_by (N := N_Grammar___init__) (sc := defScope s_Grammar___init__) (by decide +kernel)) (by decide) (fun _ _ _ _ _ => (pg_name (i := 9) sc_Grammar___init__.nd rfl (by first | exact Or.inl rfl | exact Or.inr rfl))) (fun _ _ _ _ _ _ => dts_nil) (fun _ _ _ _ _ _ => (de_ix (od_ix rfl rfl (hu64 hr)) (de_var 9) de_int)) (fun _ _ _ _ _ _ => (de_ix (od_ix rfl rfl (hu64 hr)) (de_var 9) de_int)))) (dss_one (ds_fld rfl (de_var 0) (by exact de_zK rfl (de_var 10)))))))))))))))))
theorem h__law_told (T : Txt K mg A) {fk_Grammar___init__ : FuncData} (KF_Grammar___init__ : FnOk P Wd.w K mg base (L2.CX P Wd.w) 4 A.m_Grammar___init__ fk_Grammar___init__ ["self", "fields", "kinds", "root"] (spOf K (sdf_Grammar___init__ K A)) ∧ KBn K fk_Grammar___init__ ["self", "fields", "kinds", "root"] 3 ["root"] kwF kwV) {f : Addr} {cdv : Value} {A0 : Around} {outer : List PySem.Env} {s : Shared} {H U : Hp} {E : XK} (hr : Room 5 (A0.deeper (envOfC "_law_told" (defScope s__law_told) s.heap.objs.size f cdv))) :
    PSs (cxOf (L2.CX P Wd.w) P Wd.w K mg base N__law_told "_law_told" (defScope s__law_told) f cdv A0 outer s H E) (defBody s__law_told) (liftS ⟨K, U⟩ (fun cls d _ H => E cls d H) (d__law_told K A)) :=
  (dss_cons (ds_setLc (i := 3) (own := [("_law_kind", 4)]) (ct := .nm 4) (dt := dYes) (de := dTup (dCons (dOp rIx (dVar 4) (dC (.int 0))) (dCons (dOp rIx (dVar 4) (dC (.int 1))) (dCons (dCB rList (dCons (dOp rIx (dVar 4) (dC (.int 2))) (dNil))) (dNil))))) rfl rfl sc__law_told.nd rfl rfl (sw_true rfl rfl rfl (by decide +kernel)) (di_any rfl (de_var 1)) (blkOk_by (N := N__law_told) (sc := defScope s__law_told) (by decide +kernel)) (by decide) (fun _ _ _ _ _ => (pg_name (i := 4) sc__law_told.nd rfl (by first | exact Or.inl rfl | exact Or.inr rfl))) (fun _ _ _ _ _ _ => dts_nil) (fun _ _ _ _ _ _ => (de_tup (da_cons (de_ix (od_ix rfl rfl (hu64 hr)) (de_var 4) de_int) (da_cons (de_ix (od_ix rfl rfl (hu64 hr)) (de_var 4) de_int) (da_cons (de_callTy (cd_list rfl rfl rfl) (by rfl) T.z_list dboot_list (da_cons (de_ix (od_ix rfl rfl (hu64 hr)) (de_var 4) de_int) da_nil)) da_nil)))))) (dss_cons (ds_set (i := 5) sc__law_told.nd rfl (by first | exact Or.inl rfl | exact Or.inr rfl) (de_callTy (cd_list rfl rfl rfl) (by rfl) T.z_list dboot_list (da_cons (de_var 0) da_nil))) (dss_cons (ds_set (i := 6) sc__law_told.nd rfl (by first | exact Or.inl rfl | exact Or.inr rfl) (de_tup (da_cons de_str (da_cons de_str da_nil)))) (dss_cons (ds_try (db := sDrop (dMakeK A.c_Grammar 2 1 (sdf_Grammar___init__ K A) kwD (dCons (dVar 5) (dCons (dVar 3) (dNil))) (dCons (dVar 2) dNil))) rfl rfl rfl (takes_of rfl rfl rfl rfl) (fun W pn xe tk po => (dss_one (ds_expr (de_makeK (ks := ["root"]) T.mk_Grammar KF_Grammar___init__.1 (hr.mono (by decide)) (by rfl) T.g_Grammar KF_Grammar___init__.2 kwD_ok rfl tk (da_cons (de_var 5) (da_cons (de_var 3) da_nil)) (dk_cons (de_var 2) dk_nil))))) (.named (i := 7) (h := fun a C dd => sSeq (sAsg (dTup (dCons (dC (.str ("limit" : Str))) (dCons (dXf K a C dd "limit" (dVar 7)) (dNil)))) (gNm 6)) (sIf (dOr (dB (dCB (rIsE K a C dd) (dCons (dVar 7) (dCons (dC (.ptr A.c_BadGrammar)) (dNil))))) (dOr (dNot (dB (dCB (rIsE K a C dd) (dCons (dVar 7) (dCons (dC (.ptr A.c_WalkError)) (dNil)))))) (dNot (dB (dCB (rIsE K a C dd) (dCons (dVar 7) (dCons (dC (.ty "ValueError")) (dNil)))))))) (sAsg (dTup (dCons (dC (.str ("mixed" : Str))) (dCons (dC (.str ("" : Str))) (dNil)))) (gNm 6)) (sNext))) sc__law_told.nd rfl rfl ⟨rfl, by decide, .inl T.g_LimitExceeded⟩ (fun a oe C dd pn hz hf => (dss_cons (ds_set (i := 6) sc__law_told.nd rfl (by first | exact Or.inl rfl | exact Or.inr rfl) (de_tup (da_cons de_str (da_cons (de_xf rfl hz hf (de_var 7)) da_nil)))) (dss_one (ds_if (dt_w (dw_or (dt_val (de_callB (cd_isE hz hf) (by rfl) T.z_isinstance dboot_isinstance (da_cons (de_var 7) (da_cons (de_globC (by rfl) T.g_BadGrammar) da_nil)))) (dw_or (dt_not (dt_val (de_callB (cd_isE hz hf) (by rfl) T.z_isinstance dboot_isinstance (da_cons (de_var 7) (da_cons (de_globC (by rfl) T.g_WalkError) da_nil))))) (dw_or1 (dt_not (dt_val (de_callB (cd_isE hz hf) (by rfl) T.z_isinstance dboot_isinstance (da_cons (de_var 7) (da_cons (de_type (by rfl) T.z_ValueError dboot_ValueError) da_nil))))))))) (dss_one (ds_set (i := 6) sc__law_told.nd rfl (by first | exact Or.inl rfl | exact Or.inr rfl) (de_tup (da_cons de_str (da_cons de_str da_nil))))) dss_nil)))) (.named (i := 7) (h := fun a C dd => sSeq (sAsg (dTup (dCons (dC (.str ("grammar" : Str))) (dCons (dXf K a C dd "part" (dVar 7)) (dNil)))) (gNm 6)) (sIf (dOr (dNot (dB (dCB (rIsE K a C dd) (dCons (dVar 7) (dCons (dC (.ptr A.c_WalkError)) (dNil)))))) (dNot (dB (dCB (rIsE K a C dd) (dCons (dVar 7) (dCons (dC (.ty "ValueError")) (dNil))))))) (sAsg (dTup (dCons (dC (.str ("mixed" : Str))) (dCons (dC (.str ("" : Str))) (dNil)))) (gNm 6)) (sNext))) sc__law_told.nd rfl rfl ⟨rfl, by decide, .inl T.g_BadGrammar⟩ (fun a oe C dd pn hz hf => (dss_cons (ds_set (i := 6) sc__law_told.nd rfl (by first | exact Or.inl rfl | exact Or.inr rfl) (de_tup (da_cons de_str (da_cons (de_xf rfl hz hf (de_var 7)) da_nil)))) (dss_one (ds_if (dt_w (dw_or (dt_not (dt_val (de_callB (cd_isE hz hf) (by rfl) T.z_isinstance dboot_isinstance (da_cons (de_var 7) (da_cons (de_globC (by rfl) T.g_WalkError) da_nil))))) (dw_or1 (dt_not (dt_val (de_callB (cd_isE hz hf) (by rfl) T.z_isinstance dboot_isinstance (da_cons (de_var 7) (da_cons (de_type (by rfl) T.z_ValueError dboot_ValueError) da_nil)))))))) (dss_one (ds_set (i := 6) sc__law_told.nd rfl (by first | exact Or.inl rfl | exact Or.inr rfl) (de_tup (da_cons de_str (da_cons de_str da_nil))))) dss_nil)))) HdKD.nil))) (dss_cons (ds_if (dt_w (dw_or (dt_cmp (od_ne rfl (hu64 hr)) (de_var 5) (de_var 0) (nomark _)) (dw_or1 (dt_cmp (od_ne rfl (hu64 hr)) (de_var 3) (de_lc (own := [("_law_kind", 4)]) (ct := .nm 4) (dt := dYes) (de := dTup (dCons (dOp rIx (dVar 4) (dC (.int 0))) (dCons (dOp rIx (dVar 4) (dC (.int 1))) (dCons (dCB rList (dCons (dOp rIx (dVar 4) (dC (.int 2))) (dNil))) (dNil))))) rfl rfl sc__law_told.nd (di_any rfl (de_var 1)) (blkOk_by (N := N__law_told) (sc := defScope s__law_told) (by decide +kernel)) (by decide) (fun _ _ _ _ _ => (pg_name (i := 4) sc__law_told.nd rfl (by first | exact Or.inl rfl | exact Or.inr rfl))) (fun _ _ _ _ _ _ => dts_nil) (fun _ _ _ _ _ _ => (de_tup (da_cons (de_ix (od_ix rfl rfl (hu64 hr)) (de_var 4) de_int) (da_cons (de_ix (od_ix rfl rfl (hu64 hr)) (de_var 4) de_int) (da_cons (de_callTy (cd_list rfl rfl rfl) (by rfl) T.z_list dboot_list (da_cons (de_ix (od_ix rfl rfl (hu64 hr)) (de_var 4) de_int) da_nil)) da_nil)))))) (nomark _))))) (dss_one (ds_set (i := 6) sc__law_told.nd rfl (by first | exact Or.inl rfl | exact Or.inr rfl) (de_tup (da_cons de_str (da_cons de_str da_nil))))) dss_nil) (dss_one (ds_ret (by exact de_zK rfl (de_var 6)))))))))
theorem h_law (T : Txt K mg A) (G__law_source : FnD P Wd.w K mg base 1 A.f__law_source (sd__law_source K A)) (G__law_draw : FnD P Wd.w K mg base 1 A.f__law_draw (sd__law_draw K A)) (G__law_names : FnD P Wd.w K mg base 2 A.f__law_names (sd__law_names K A)) (G__law_kinds : FnD P Wd.w K mg base 3 A.f__law_kinds (sd__law_kinds K A)) (G__law_told : FnD P Wd.w K mg base 6 A.f__law_told (sd__law_told K A)) (G__law_changed : FnD P Wd.w K mg base 2 A.f__law_changed (sd__law_changed K A)) (G__law_due : FnD P Wd.w K mg base 2 A.f__law_due (sd__law_due K A)) {f : Addr} {cdv : Value} {A0 : Around} {outer : List PySem.Env} {s : Shared} {H U : Hp} {E : XK} (hr : Room 6 (A0.deeper (envOfC "law" (defScope s_law) s.heap.objs.size f cdv))) :
    PSs (cxOf (L2.CX P Wd.w) P Wd.w K mg base N_law "law" (defScope s_law) f cdv A0 outer s H E) (defBody s_law) (liftS ⟨K, U⟩ (fun cls d _ H => E cls d H) (d_law K A)) :=
  (dss_cons (ds_set (i := 1) sc_law.nd rfl (by first | exact Or.inl rfl | exact Or.inr rfl) (de_call G__law_source (hr.mono (by decide)) (by rfl) T.g__law_source T.k__law_source rfl (takes_of rfl rfl rfl rfl) (da_cons (de_var 0) da_nil))) (dss_cons (ds_set (i := 2) sc_law.nd rfl (by first | exact Or.inl rfl | exact Or.inr rfl) (by exact de_zK rfl (de_call G__law_names (hr.mono (by decide)) (by rfl) T.g__law_names T.k__law_names rfl (takes_of rfl rfl rfl rfl) (da_cons (de_var 1) (da_cons (de_op (od_add rfl) de_int (de_call G__law_draw (hr.mono (by decide)) (by rfl) T.g__law_draw T.k__law_draw rfl (takes_of rfl rfl rfl rfl) (da_cons (de_var 1) (da_cons de_int da_nil)))) da_nil))))) (dss_cons (ds_set (i := 3) sc_law.nd rfl (by first | exact Or.inl rfl | exact Or.inr rfl) (by exact de_zK rfl (de_call G__law_names (hr.mono (by decide)) (by rfl) T.g__law_names T.k__law_names rfl (takes_of rfl rfl rfl rfl) (da_cons (de_var 1) (da_cons (de_op (od_add rfl) de_int (de_call G__law_draw (hr.mono (by decide)) (by rfl) T.g__law_draw T.k__law_draw rfl (takes_of rfl rfl rfl rfl) (da_cons (de_var 1) (da_cons de_int da_nil)))) da_nil))))) (dss_cons (ds_set (i := 4) sc_law.nd rfl (by first | exact Or.inl rfl | exact Or.inr rfl) (by exact de_zK rfl (de_call G__law_kinds (hr.mono (by decide)) (by rfl) T.g__law_kinds T.k__law_kinds rfl (takes_of rfl rfl rfl rfl) (da_cons (de_var 1) (da_cons (de_var 3) (da_cons de_int (da_cons de_int da_nil))))))) (dss_cons (ds_set (i := 5) sc_law.nd rfl (by first | exact Or.inl rfl | exact Or.inr rfl) (de_call G__law_draw (hr.mono (by decide)) (by rfl) T.g__law_draw T.k__law_draw rfl (takes_of rfl rfl rfl rfl) (da_cons (de_var 1) (da_cons (de_op (od_add rfl) (de_callB (cd_len rfl rfl) (by rfl) T.z_len PySem.boot_len (da_cons (de_var 3) da_nil)) de_int) da_nil)))) (dss_cons (ds_set (i := 6) sc_law.nd rfl (by first | exact Or.inl rfl | exact Or.inr rfl) (de_if (dt_cmp (od_eq rfl (hu64 hr)) (de_var 5) de_int (nomark _)) de_non (de_ix (od_ix rfl rfl (hu64 hr)) (de_var 3) (de_op od_sub (de_var 5) de_int)))) (dss_cons (ds_if (dt_cmp (od_ne rfl (hu64 hr)) (by exact de_zK rfl (de_call G__law_told (hr.mono (by decide)) (by rfl) T.g__law_told T.k__law_told rfl (takes_of rfl rfl rfl rfl) (da_cons (de_var 2) (da_cons (de_var 4) (da_cons (de_var 6) da_nil))))) (de_tup (da_cons de_str (da_cons de_str da_nil))) (nomark _)) (dss_one (ds_ret de_bl)) dss_nil) (dss_cons (ds_set (i := 7) sc_law.nd rfl (by first | exact Or.inl rfl | exact Or.inr rfl) (de_lst (da_cons (de_var 2) (da_cons (de_var 4) (da_cons (de_var 6) da_nil))))) (dss_cons (ds_for (passes_of rfl) rfl (di_range1 (by rfl) T.z_range (da_cons de_int da_nil)) (fun _ => (dg_name (i := 8) sc_law.nd rfl (by first | exact Or.inl rfl | exact Or.inr rfl))) (fun _ => (dss_cons (ds_set (i := 9) sc_law.nd rfl (by first | exact Or.inl rfl | exact Or.inr rfl) (de_call G__law_draw (hr.mono (by decide)) (by rfl) T.g__law_draw T.k__law_draw rfl (takes_of rfl rfl rfl rfl) (da_cons (de_var 1) (da_cons de_int da_nil)))) (dss_one (ds_set (i := 7) sc_law.nd rfl (by first | exact Or.inl rfl | exact Or.inr rfl) (by exact de_zK rfl (de_call G__law_changed (hr.mono (by decide)) (by rfl) T.g__law_changed T.k__law_changed rfl (takes_of rfl rfl rfl rfl) (da_cons (de_var 1) (da_cons (de_ix (od_ix rfl rfl (hu64 hr)) (de_var 7) de_int) (da_cons (de_ix (od_ix rfl rfl (hu64 hr)) (de_var 7) de_int) (da_cons (de_ix (od_ix rfl rfl (hu64 hr)) (de_var 7) de_int) (da_cons (de_var 9) da_nil)))))))))))) (dss_cons (ds_set (i := 10) sc_law.nd rfl (by first | exact Or.inl rfl | exact Or.inr rfl) (by exact de_zK rfl (de_call G__law_due (hr.mono (by decide)) (by rfl) T.g__law_due T.k__law_due rfl (takes_of rfl rfl rfl rfl) (da_cons (de_ix (od_ix rfl rfl (hu64 hr)) (de_var 7) de_int) (da_cons (de_ix (od_ix rfl rfl (hu64 hr)) (de_var 7) de_int) (da_cons (de_ix (od_ix rfl rfl (hu64 hr)) (de_var 7) de_int) da_nil)))))) (dss_cons (ds_if (dt_cmp (od_ne rfl (hu64 hr)) (by exact de_zK rfl (de_call G__law_told (hr.mono (by decide)) (by rfl) T.g__law_told T.k__law_told rfl (takes_of rfl rfl rfl rfl) (da_cons (de_ix (od_ix rfl rfl (hu64 hr)) (de_var 7) de_int) (da_cons (de_ix (od_ix rfl rfl (hu64 hr)) (de_var 7) de_int) (da_cons (de_ix (od_ix rfl rfl (hu64 hr)) (de_var 7) de_int) da_nil))))) (de_var 10) (nomark _)) (dss_one (ds_ret de_bl)) dss_nil) (dss_one (ds_ret (de_and (de_cmp (od_eq rfl (hu64 hr)) (by exact de_zK rfl (de_call G__law_told (hr.mono (by decide)) (by rfl) T.g__law_told T.k__law_told rfl (takes_of rfl rfl rfl rfl) (da_cons (de_ix (od_ix rfl rfl (hu64 hr)) (de_var 7) de_int) (da_cons (de_ix (od_ix rfl rfl (hu64 hr)) (de_var 7) de_int) (da_cons (de_ix (od_ix rfl rfl (hu64 hr)) (de_var 7) de_int) da_nil))))) (de_var 10) (nomark _)) (de_one (de_cmp (od_eq rfl (hu64 hr)) (by exact de_zK rfl (de_call G__law_told (hr.mono (by decide)) (by rfl) T.g__law_told T.k__law_told rfl (takes_of rfl rfl rfl rfl) (da_cons (de_var 2) (da_cons (de_var 4) (da_cons (de_var 6) da_nil))))) (de_tup (da_cons de_str (da_cons de_str da_nil))) (nomark _)))))))))))))))))
end
section
variable {P : Program} {K : PySem.W.Frag} {mg : Str → Option Value} {base : Heap} {A : Ad}
variable {ds : List D} {M : Mem} {Qd : D → Mem → Prop} {Ed : XD}
abbrev Pure (d : DS) (N : List Str) (ds : List D) (M : Mem) (Qd : D → Mem → Prop) (Ed : XD) : Prop := d (fun _ M' => Qd .non M') Qd (fun _ _ => False) (fun _ _ => False) (fun C dd _ M' => Ed C dd M') (start0 N ds) M
section
variable {Q : D → Mem → Prop} {E : XD}
theorem len_Grammar___init__ (h : sdf_Grammar___init__ K A ds M Q E) : ds.length = 4 := by obtain ⟨_, _, _, _, _, _, rfl, _⟩ := h; rfl
theorem len_LimitExceeded___init__ (h : sd_LimitExceeded___init__ K A ds M Q E) : ds.length = 2 := by obtain ⟨_, _, rfl, _⟩ := h; rfl
theorem len_BadGrammar___init__ (h : sd_BadGrammar___init__ K A ds M Q E) : ds.length = 2 := by obtain ⟨_, _, rfl, _⟩ := h; rfl
theorem len__law_source (h : sd__law_source K A ds M Q E) : ds.length = 1 := by obtain ⟨_, rfl, _⟩ := h; rfl
theorem len__law_draw (h : sd__law_draw K A ds M Q E) : ds.length = 2 := by obtain ⟨_, _, _, _, rfl, _⟩ := h; rfl
theorem len__law_names (h : sd__law_names K A ds M Q E) : ds.length = 2 := by obtain ⟨_, _, _, _, rfl, _⟩ := h; rfl
theorem len__in_order (h : sd__in_order K A ds M Q E) : ds.length = 1 := by obtain ⟨_, _, rfl, _⟩ := h; rfl
theorem len__check_fields (h : sd__check_fields K A ds M Q E) : ds.length = 1 := by obtain ⟨_, _, rfl, _⟩ := h; rfl
theorem len__check_kinds (h : sd__check_kinds K A ds M Q E) : ds.length = 2 := by obtain ⟨_, _, _, _, rfl, _⟩ := h; rfl
theorem len__least_sizes (h : sd__least_sizes K A ds M Q E) : ds.length = 1 := by obtain ⟨_, _, rfl, _⟩ := h; rfl
theorem len__law_kinds (h : sd__law_kinds K A ds M Q E) : ds.length = 4 := by obtain ⟨_, _, _, _, _, _, rfl, _⟩ := h; rfl
theorem len__law_sizes (h : sd__law_sizes K A ds M Q E) : ds.length = 1 := by obtain ⟨_, rfl, _⟩ := h; rfl
theorem len__law_due (h : sd__law_due K A ds M Q E) : ds.length = 3 := by obtain ⟨_, _, _, rfl, _⟩ := h; rfl
theorem len__law_told (h : sd__law_told K A ds M Q E) : ds.length = 3 := by obtain ⟨_, _, _, rfl, _⟩ := h; rfl
theorem len__law_changed (h : sd__law_changed K A ds M Q E) : ds.length = 5 := by obtain ⟨_, _, _, _, _, _, _, _, rfl, _⟩ := h; rfl
theorem len_law (h : sd_law K A ds M Q E) : ds.length = 1 := by obtain ⟨_, rfl, _⟩ := h; rfl
end
theorem pure__law_sizes (T : Txt K mg A) (h : sd__law_sizes K A ds M Qd Ed) : Pure (d__law_sizes K A) N__law_sizes ds M Qd Ed := pureSizes h
theorem pure__law_due (T : Txt K mg A) (h : sd__law_due K A ds M Qd Ed) : Pure (d__law_due K A) N__law_due ds M Qd Ed := pureDue h
theorem gr_ok (T : Txt K mg A) : GrOk K A.c_Grammar := ⟨T.fo_Grammar_fields, T.fo_Grammar_kinds, T.fo_Grammar_families, T.fo_Grammar_root, T.fo_Grammar__families, T.fo_Grammar__children, T.fo_Grammar__sizes⟩
theorem pure_LimitExceeded___init__ (T : Txt K mg A) (h : sd_LimitExceeded___init__ K A ds M Qd Ed) : Pure (d_LimitExceeded___init__ K A) N_LimitExceeded___init__ ds M Qd Ed := pureErr T.ox_LimitExceeded T.nf_LimitExceeded_limit rfl h
theorem pure_BadGrammar___init__ (T : Txt K mg A) (h : sd_BadGrammar___init__ K A ds M Qd Ed) : Pure (d_BadGrammar___init__ K A) N_BadGrammar___init__ ds M Qd Ed := pureErr T.ox_BadGrammar T.nf_BadGrammar_part rfl h
theorem pure__law_source (T : Txt K mg A) (h : sd__law_source K A ds M Qd Ed) : Pure (d__law_source K A) N__law_source ds M Qd Ed := pureSource h
theorem pure__law_draw (T : Txt K mg A) (h : sd__law_draw K A ds M Qd Ed) : Pure (d__law_draw K A) N__law_draw ds M Qd Ed := pureDraw h
theorem pure__law_names (T : Txt K mg A) (h : sd__law_names K A ds M Qd Ed) : Pure (d__law_names K A) N__law_names ds M Qd Ed := pureNames h
theorem pure__in_order (T : Txt K mg A) (h : sd__in_order K A ds M Qd Ed) : Pure (d__in_order K A) N__in_order ds M Qd Ed := pureOrder h
theorem pure__check_fields (T : Txt K mg A) (h : sd__check_fields K A ds M Qd Ed) : Pure (d__check_fields K A) N__check_fields ds M Qd Ed := pureChkF T.co_Grammar_MOST_FIELDS h
theorem pure__check_kinds (T : Txt K mg A) (h : sd__check_kinds K A ds M Qd Ed) : Pure (d__check_kinds K A) N__check_kinds ds M Qd Ed := pureChkK T.co_Grammar_MOST_KINDS T.co_Grammar_MOST_CHILDREN T.co_Grammar_MOST_FAMILIES h
theorem pure__least_sizes (T : Txt K mg A) (h : sd__least_sizes K A ds M Qd Ed) : Pure (d__least_sizes K A) N__least_sizes ds M Qd Ed := pureLeast h
theorem pure_Grammar___init__ (T : Txt K mg A) (h : sdf_Grammar___init__ K A ds M Qd Ed) : Pure (d_Grammar___init__ K A) N_Grammar___init__ ds M Qd Ed := pureGram (gr_ok T) h
theorem pure__law_kinds (T : Txt K mg A) (h : sd__law_kinds K A ds M Qd Ed) : Pure (d__law_kinds K A) N__law_kinds ds M Qd Ed := pureKinds h

end
section
variable {P : Program} {K : PySem.W.Frag} {mg : Str → Option Value} {base : Heap} {A : Ad}
variable {ds : List D} {M : Mem} {Qd : D → Mem → Prop} {Ed : XD}
theorem pure__law_told (T : Txt K mg A) (h : sd__law_told K A ds M Qd Ed) : Pure (d__law_told K A) N__law_told ds M Qd Ed := by
  obtain ⟨xs, rs, root, rfl, L, nd, kQ⟩ := h
  have hsz : (rs.map kdL).length < sizeLine := lt_line (by rw [List.length_map]; have := L.rl; omega)
  have okx : okD 60 (.lst (xs.map .str)) = true := strs_ok L.ok.1
  have okk : okD 60 (.lst (rs.map kdL)) = true := kdLs_ok L.ok.2
  unfold Pure d__law_told
  walk_at "dl"
  refine ⟨_, _, .lst (.lst _), hsz, lc_map kdL kdL trivial (fun r _ P1 h1 => ?_) (.inl ?_)⟩
  · walk_at "dl"
    refine ixt0 ?_
    walk_at "dl"
    refine ixt1 ?_
    walk_at "dl"
    refine ixt2 ?_
    walk_at "dl"
    refine .seq (.lst _) (.inl ?_)
    walk_at "dl"
    exact ⟨len_le_line (n := 3), h1⟩
  walk_at "dl"
  refine .seq (.lst _) (.inl ?_)
  walk_at "dl"
  refine ⟨len_le_line (n := 2), ?_⟩
  refine g_nm (g_seqj (fun ρ' M' => ∃ (p : Str × Str) (x4 : Option D), ρ' = [some (.lst (xs.map .str)), some (.lst (rs.map kdL)), some (rootD root), some (.lst (rs.map kdL)), x4, some (.lst (xs.map .str)), some (pairD p), none] ∧ dueG xs rs root = p ∧ Nd M' ∧ Fr [] M M') (fun nx' hn' => ?_) fun ρ' M' hC => ?_)
  · walk_at "dl"
    refine ⟨rfl, rfl, fun x hx => ?_⟩
    refine gram_due (ps := rs.map fun r => (r, D.lst (r.ch.map .str))) List.mem_cons_self (nd_new hx nd) (.lst _) (by have := L.xl; omega) (by rw [rowsD_kdL]; exact .lst _) (by rw [List.length_map]; have := L.rl; omega) (fun q hq => ?_) (fst_map _ _) (fun s M' e nd' f' dx hdx => ?_) (fun s e dx hdx => ?_) (fun M' e nd' f' => ⟨rfl, ?_⟩)
    · obtain ⟨r, _, rfl⟩ := List.mem_map.mp hq
      exact .lst _
    · have f2 : Fr [] M M' := fun z m _ hz => f' z m (by simp) (List.mem_cons_of_mem _ hz)
      refine ⟨false, T.em_BadGrammar_LimitExceeded, (fun z => nomatch z), fun _ => ⟨true, T.em_BadGrammar_BadGrammar, fun _ a => ?_, fun z => nomatch z⟩⟩
      walk_at "dl"
      refine ⟨_, _, rfl, T.xf_BadGrammar, T.nf_BadGrammar_part, List.mem_cons_self, .head, ?_⟩
      walk_at "dl"
      refine ⟨len_le_line (n := 2), ?_⟩
      walk_at "dl"
      refine .mk T.ec_BadGrammar List.mem_cons_self (.own _) T.ki_BadGrammar_WalkError ?_
      walk_at "dl"
      refine g_iff' rfl ?_
      walk_at "dl"
      refine .mk T.ec_BadGrammar List.mem_cons_self (.ty _) T.ki_BadGrammar_ValueError ?_
      walk_at "dl"
      refine g_iff' rfl ?_
      walk_at "dl"
      exact hn' _ _ ⟨("grammar", s), _, rfl, e, nd_new hdx nd', f2.trans Fr.refl.cons⟩
    · refine ⟨true, T.em_LimitExceeded_LimitExceeded, fun _ a => ?_, fun z => nomatch z⟩
      walk_at "dl"
      refine ⟨_, _, rfl, T.xf_LimitExceeded, T.nf_LimitExceeded_limit, List.mem_cons_self, .head, ?_⟩
      walk_at "dl"
      refine ⟨len_le_line (n := 2), ?_⟩
      walk_at "dl"
      refine .mk T.ec_LimitExceeded List.mem_cons_self (.own _) T.ki_LimitExceeded_BadGrammar ?_
      walk_at "dl"
      refine g_iff' rfl ?_
      walk_at "dl"
      refine .mk T.ec_LimitExceeded List.mem_cons_self (.own _) T.ki_LimitExceeded_WalkError ?_
      walk_at "dl"
      refine g_iff' rfl ?_
      walk_at "dl"
      refine .mk T.ec_LimitExceeded List.mem_cons_self (.ty _) T.ki_LimitExceeded_ValueError ?_
      walk_at "dl"
      refine g_iff' rfl ?_
      walk_at "dl"
      exact hn' _ _ ⟨("limit", s), _, rfl, e, nd_new hdx (nd_new hx nd), Fr.refl.cons.cons⟩
    · exact hn' _ _ ⟨("", ""), _, rfl, e, nd', fun z m _ hz => f' _ _ (not_mem1 (ne_free hx hz)) (List.mem_cons_of_mem _ hz)⟩
  obtain ⟨p, x4, rfl, ep, nd', f'⟩ := hC
  walk_at "dl"
  refine .dat (.plain okx) (.plain okx) okx okx ?_
  rw [eqD_refl 60 _ okx]
  walk_at "dl"
  refine g_iff' rfl ?_
  walk_at "dl"
  refine ⟨_, _, .lst (.lst _), hsz, lc_map kdL kdL trivial (fun r _ P1 h1 => ?_) (.inl ?_)⟩
  · walk_at "dl"
    refine ixt0 ?_
    walk_at "dl"
    refine ixt1 ?_
    walk_at "dl"
    refine ixt2 ?_
    walk_at "dl"
    refine .seq (.lst _) (.inl ?_)
    walk_at "dl"
    exact ⟨len_le_line (n := 3), h1⟩
  refine .dat (.plain okk) (.plain okk) okk okk ?_
  rw [eqD_refl 60 _ okk]
  walk_at "dl"
  refine g_iff' rfl ?_
  walk_at "dl"
  refine ⟨_, _, .refl, ?_⟩
  rw [← ep]
  exact kQ M' nd' f'

end
section
variable {P : Program} {K : PySem.W.Frag} {mg : Str → Option Value} {base : Heap} {A : Ad}
variable {ds : List D} {M : Mem} {Qd : D → Mem → Prop} {Ed : XD}
theorem Lim.fs {n m : Nat} {xs xs' : List Str} {rs : List Kd} (L : Lim n xs rs) (hl : xs'.length ≤ m) (hm : n ≤ m) (ho : ∀ x ∈ xs', x ∈ xs ∨ PyData.strOk x = true) : Lim m xs' rs :=
  ⟨hl, Nat.le_trans L.rl hm, L.cl, fun x hx => (ho x hx).elim (L.ok.1 x) id, L.ok.2⟩
theorem Lim.ks {n m : Nat} {xs : List Str} {rs rs' : List Kd} (L : Lim n xs rs) (hl : rs'.length ≤ m) (hm : n ≤ m) (ho : ∀ r ∈ rs', r ∈ rs ∨ (r.ch.length ≤ 4 ∧ PyData.strOk r.n = true ∧ PyData.strOk r.f = true ∧ ∀ c ∈ r.ch, PyData.strOk c = true)) : Lim m xs rs' :=
  ⟨Nat.le_trans L.xl hm, hl, fun r hr => (ho r hr).elim (L.cl r) (fun h => h.1), L.ok.1, fun r hr => (ho r hr).elim (L.ok.2 r) (fun h => h.2)⟩
theorem Lim.mono {n m : Nat} {xs : List Str} {rs : List Kd} (L : Lim n xs rs) (hm : n ≤ m) : Lim m xs rs := ⟨Nat.le_trans L.xl hm, Nat.le_trans L.rl hm, L.cl, L.ok⟩
/-- the variables of the changes -/
def Cst (p : Addr) (fault u m : Nat) (M1 : Mem) : Rho → Mem → Prop := fun ρ' M' => M' = M1 ∧ ∃ (xs : List Str) (rs : List Kd) (root : Option Str) (x8 : Option D), ρ' = [some (.ptr p), some (.lst (xs.map .str)), some (.lst (rs.map kdL)), some (rootD root), some (.int (fault : Nat)), some (.int (u : Nat)), none, none, x8] ∧ Lim m xs rs
theorem ok_xa : ∀ c ∈ ("abcdefg" : Str).cps.toList, PyData.strOk (("xa" : Str) ++ (⟨#[c]⟩ : Str)) = true := by decide +kernel
theorem ok_xk : ∀ c ∈ ("abcdefghi" : Str).cps.toList, PyData.strOk (("xk" : Str) ++ (⟨#[c]⟩ : Str)) = true := by decide +kernel
theorem ok_xf : ∀ c ∈ ("abc" : Str).cps.toList, PyData.strOk (("xf" : Str) ++ (⟨#[c]⟩ : Str)) = true := by decide +kernel
theorem len_two (x : Str) (c : Nat) (h : x.length = 2) : x.length + (⟨#[c]⟩ : Str).length ≤ sizeLine := by rw [h]; exact len_le_line (n := 3)
theorem pure__law_changed (T : Txt K mg A) (h : sd__law_changed K A ds M Qd Ed) : Pure (d__law_changed K A) N__law_changed ds M Qd Ed := by
  obtain ⟨p, c, xs, rs, root, fault, b, n, rfl, hn, L, nd, hb, S, kQ⟩ := h
  unfold Pure d__law_changed
  walk_at "dl"
  refine isS_len (.lst _) ?_
  walk_at "dl"
  refine draw_nat (n := rs.length + 1) (by rw [List.length_map]; rfl) (by omega) (by have := L.rl; omega) nd (by omega) S fun u M1 hu nd1 S1 f1 => ?_
  refine g_nm (g_seqj (Cst p fault u (n + 9) M1) (fun nx' hn' => ?_) fun ρ' M' hC => ?_)
  · walk_at "dl"
    by_cases e : fault = 1
    · refine g_ift (by simp [e]) ?_
      walk_at "dl"
      refine ⟨_, rfl, lt_line (by decide +kernel), lc_map (fun c : Nat => D.str ⟨#[c]⟩) (fun c : Nat => D.str (("xa" : Str) ++ (⟨#[c]⟩ : Str))) trivial (fun c hc P1 h1 => ?_) (.inl ?_)⟩
      · walk_at "dl"
        exact .str (len_two _ _ rfl) h1
      walk_at "dl"
      refine isS_len (.lst _) ?_
      walk_at "dl"
      refine .two ?_
      obtain ⟨v, hv⟩ : ∃ v : Nat, (if (7 : Int) - ((xs.map D.str).length : Nat) > 0 then (7 : Int) - ((xs.map D.str).length : Nat) else 0) = (v : Int) := ⟨Int.toNat _, (Int.toNat_of_nonneg (by split <;> omega)).symm⟩
      rw [hv]
      walk_at "dl"
      refine .lst (.lst _) (.inl ?_)
      rw [cut_up]
      walk_at "dl"
      have e9 : (("abcdefg" : Str).cps.toList.take v).length ≤ 7 := Nat.le_trans (by rw [List.length_take]; exact Nat.min_le_right _ _) (by decide +kernel)
      refine .lst (.lst _) (.lst _) (len_le_line (by rw [List.length_map, List.length_map]; have := L.xl; omega)) (.inl ?_)
      refine hn' _ _ ⟨rfl, xs ++ (("abcdefg" : Str).cps.toList.take v).map (fun c => ("xa" : Str) ++ (⟨#[c]⟩ : Str)), rs, root, _, by rw [List.map_append, List.map_map]; rfl, L.fs (by rw [List.length_append, List.length_map]; have := L.xl; omega) (by omega) fun x hx => ?_⟩
      rcases List.mem_append.mp hx with hx | hx
      · exact .inl hx
      · obtain ⟨c, hc, rfl⟩ := List.mem_map.mp hx
        exact .inr (ok_xa c (List.mem_of_mem_take hc))
    · refine g_iff' (by simp; omega) ?_
      walk_at "dl"
      exact hn' _ _ ⟨rfl, xs, rs, root, _, rfl, L.mono (by omega)⟩
  obtain ⟨rfl, xs, rs, root, x8, rfl, L⟩ := hC
  refine g_seqj (Cst p fault u (n + 18) M') (fun nx' hn' => ?_) fun ρ' M' hC => ?_
  · walk_at "dl"
    by_cases e : fault = 2
    · refine g_ift (by simp [e]) ?_
      walk_at "dl"
      refine .lst (.lst _) (.inl ?_)
      rw [show DL.cutD (xs.map D.str) none (some (3 : Int)) = (xs.take 3).map D.str from cut_up D.str xs 3]
      walk_at "dl"
      refine .lst (.lst _) (.inl ?_)
      rw [show DL.cutD (xs.map D.str) none (some (1 : Int)) = (xs.take 1).map D.str from cut_up D.str xs 1]
      walk_at "dl"
      have e3 : (xs.take 3).length ≤ 3 := by rw [List.length_take]; exact Nat.min_le_left _ _
      have e1 : (xs.take 1).length ≤ 1 := by rw [List.length_take]; exact Nat.min_le_left _ _
      refine .lst (.lst _) (.lst _) (len_le_line (by rw [List.length_map, List.length_map]; omega)) (.inl ?_)
      walk_at "dl"
      refine .lst (.lst _) (.inl ?_)
      rw [show DL.cutD (xs.map D.str) (some (3 : Int)) none = (xs.drop 3).map D.str from cut_low D.str xs 3]
      walk_at "dl"
      have ed : (xs.drop 3).length ≤ xs.length := by rw [List.length_drop]; omega
      refine .lst (.lst _) (.lst _) (len_le_line (by rw [List.length_append, List.length_map, List.length_map, List.length_map]; have := L.xl; omega)) (.inl ?_)
      refine hn' _ _ ⟨rfl, xs.take 3 ++ xs.take 1 ++ xs.drop 3, rs, root, _, by rw [List.map_append, List.map_append]; rfl, L.fs (by rw [List.length_append, List.length_append]; have := L.xl; omega) (by omega) fun x hx => .inl ?_⟩
      rcases List.mem_append.mp hx with hx | hx
      · rcases List.mem_append.mp hx with hx | hx
        · exact List.mem_of_mem_take hx
        · exact List.mem_of_mem_take hx
      · exact List.mem_of_mem_drop hx
    · refine g_iff' (by simp; omega) ?_
      walk_at "dl"
      exact hn' _ _ ⟨rfl, xs, rs, root, _, rfl, L.mono (by omega)⟩
  obtain ⟨rfl, xs, rs, root, x8, rfl, L⟩ := hC
  refine g_seqj (Cst p fault u (n + 27) M') (fun nx' hn' => ?_) fun ρ' M' hC => ?_
  · walk_at "dl"
    by_cases e : fault = 3
    · refine g_ift (by simp [e]) ?_
      walk_at "dl"
      refine ⟨Nat.zero_le _, .inl ?_⟩
      exact hn' _ _ ⟨rfl, xs, [], root, _, rfl, L.ks (Nat.zero_le _) (by omega) fun r hr => (nomatch hr)⟩
    · refine g_iff' (by simp; omega) ?_
      walk_at "dl"
      exact hn' _ _ ⟨rfl, xs, rs, root, _, rfl, L.mono (by omega)⟩
  obtain ⟨rfl, xs, rs, root, x8, rfl, L⟩ := hC
  refine g_seqj (Cst p fault u (n + 36) M') (fun nx' hn' => ?_) fun ρ' M' hC => ?_
  · walk_at "dl"
    by_cases e : fault = 4
    · refine g_ift (by simp [e]) ?_
      walk_at "dl"
      refine .lst (.lst _) (.inl ?_)
      rw [cut_up]
      walk_at "dl"
      refine .lst (.lst _) (.inl ?_)
      rw [show DL.cutD (rs.map kdL) none (some (1 : Int)) = (rs.take 1).map kdL from cut_up kdL rs 1]
      have e1 : (rs.take 1).length ≤ 1 := by rw [List.length_take]; exact Nat.min_le_left _ _
      refine ⟨_, _, .lst (.lst _), lt_line (by rw [List.length_map]; omega), lc_map kdL (fun r : Kd => kdL ⟨r.n, r.f, []⟩) trivial (fun r hr P1 h1 => ?_) (.inl ?_)⟩
      · walk_at "dl"
        refine ixt0 ?_
        walk_at "dl"
        refine ixt1 ?_
        walk_at "dl"
        refine ⟨Nat.zero_le _, .inl ?_⟩
        walk_at "dl"
        exact ⟨len_le_line (n := 3), h1⟩
      have eu : (rs.take u).length ≤ rs.length := by rw [List.length_take]; exact Nat.min_le_right _ _
      have ed : (rs.drop u).length ≤ rs.length := by rw [List.length_drop]; omega
      have em : (rs.take u).length + (rs.drop u).length = rs.length := by rw [List.length_take, List.length_drop]; omega
      refine .lst (.lst _) (.lst _) (len_le_line (by rw [List.length_map, List.length_map]; have := L.rl; omega)) (.inl ?_)
      walk_at "dl"
      refine .lst (.lst _) (.inl ?_)
      rw [cut_low]
      walk_at "dl"
      refine .lst (.lst _) (.lst _) (len_le_line (by rw [List.length_append, List.length_map, List.length_map, List.length_map]; have := L.rl; omega)) (.inl ?_)
      refine hn' _ _ ⟨rfl, xs, rs.take u ++ (rs.take 1).map (fun r : Kd => (⟨r.n, r.f, []⟩ : Kd)) ++ rs.drop u, root, _, by rw [List.map_append, List.map_append, List.map_map]; rfl, L.ks (by rw [List.length_append, List.length_append, List.length_map]; have := L.rl; omega) (by omega) fun r hr => ?_⟩
      rcases List.mem_append.mp hr with hr | hr
      · rcases List.mem_append.mp hr with hr | hr
        · exact .inl (List.mem_of_mem_take hr)
        · obtain ⟨q, hq, rfl⟩ := List.mem_map.mp hr
          have oq := L.ok.2 q (List.mem_of_mem_take hq)
          exact .inr ⟨Nat.zero_le _, oq.1, oq.2.1, fun c hc => (nomatch hc)⟩
      · exact .inl (List.mem_of_mem_drop hr)
    · refine g_iff' (by simp; omega) ?_
      walk_at "dl"
      exact hn' _ _ ⟨rfl, xs, rs, root, _, rfl, L.mono (by omega)⟩
  obtain ⟨rfl, xs, rs, root, x8, rfl, L⟩ := hC
  refine g_seqj (Cst p fault u (n + 45) M') (fun nx' hn' => ?_) fun ρ' M' hC => ?_
  · walk_at "dl"
    by_cases e : fault = 5
    · refine g_ift (by simp [e]) ?_
      refine g_seqj (fun ρ2 M2 => M2 = M' ∧ ∃ s : Str, PyData.strOk s = true ∧ ρ2 = [some (.ptr p), some (.lst (xs.map .str)), some (.lst (rs.map kdL)), some (rootD root), some (.int (fault : Nat)), some (.int (u : Nat)), none, none, some (.str s)]) (fun nx2 hn2 => ?_) fun ρ2 M2 hC2 => ?_
      · walk_at "dl"
        refine isS_len (.lst _) ?_
        walk_at "dl"
        obtain rfl | ⟨r, rs1, rfl⟩ : rs = [] ∨ ∃ r rs1, rs = r :: rs1 := by
          cases rs with
          | nil => exact .inl rfl
          | cons a b => exact .inr ⟨a, b, rfl⟩
        · refine g_iff' rfl ?_
          walk_at "dl"
          exact hn2 _ _ ⟨rfl, ("some" : Str), by decide +kernel, rfl⟩
        · refine g_ift (by simp) ?_
          walk_at "dl"
          refine ixq_lst atI0 ?_
          walk_at "dl"
          refine ixt1 ?_
          walk_at "dl"
          exact hn2 _ _ ⟨rfl, r.f, (L.ok.2 r List.mem_cons_self).2.1, rfl⟩
      obtain ⟨rfl, s, os, rfl⟩ := hC2
      walk_at "dl"
      refine ⟨_, rfl, lt_line (by decide +kernel), lc_map (fun c : Nat => D.str ⟨#[c]⟩) (fun c : Nat => kdL ⟨("xk" : Str) ++ (⟨#[c]⟩ : Str), s, []⟩) trivial (fun c hc P1 h1 => ?_) (.inl ?_)⟩
      · walk_at "dl"
        refine .str (len_two _ _ rfl) ?_
        walk_at "dl"
        refine ⟨Nat.zero_le _, .inl ?_⟩
        walk_at "dl"
        exact ⟨len_le_line (n := 3), h1⟩
      walk_at "dl"
      refine isS_len (.lst _) ?_
      walk_at "dl"
      refine .two ?_
      obtain ⟨v, hv⟩ : ∃ v : Nat, (if (9 : Int) - ((rs.map kdL).length : Nat) > 0 then (9 : Int) - ((rs.map kdL).length : Nat) else 0) = (v : Int) := ⟨Int.toNat _, (Int.toNat_of_nonneg (by split <;> omega)).symm⟩
      rw [hv]
      walk_at "dl"
      refine .lst (.lst _) (.inl ?_)
      rw [cut_up]
      walk_at "dl"
      have e9 : (("abcdefghi" : Str).cps.toList.take v).length ≤ 9 := Nat.le_trans (by rw [List.length_take]; exact Nat.min_le_right _ _) (by decide +kernel)
      refine .lst (.lst _) (.lst _) (len_le_line (by rw [List.length_map, List.length_map]; have := L.rl; omega)) (.inl ?_)
      refine hn' _ _ ⟨rfl, xs, rs ++ (("abcdefghi" : Str).cps.toList.take v).map (fun c => (⟨("xk" : Str) ++ (⟨#[c]⟩ : Str), s, []⟩ : Kd)), root, _, by rw [List.map_append, List.map_map]; rfl, L.ks (by rw [List.length_append, List.length_map]; have := L.rl; omega) (by omega) fun r hr => ?_⟩
      rcases List.mem_append.mp hr with hr | hr
      · exact .inl hr
      · obtain ⟨c, hc, rfl⟩ := List.mem_map.mp hr
        exact .inr ⟨Nat.zero_le _, ok_xk c (List.mem_of_mem_take hc), os, fun c hc => (nomatch hc)⟩
    · refine g_iff' (by simp; omega) ?_
      walk_at "dl"
      exact hn' _ _ ⟨rfl, xs, rs, root, _, rfl, L.mono (by omega)⟩
  obtain ⟨rfl, xs, rs, root, x8, rfl, L⟩ := hC
  refine g_seqj (Cst p fault u (n + 54) M') (fun nx' hn' => ?_) fun ρ' M' hC => ?_
  · walk_at "dl"
    by_cases e : fault = 6
    · refine g_ift (by simp [e]) ?_
      walk_at "dl"
      refine .lst (.lst _) (.inl ?_)
      rw [cut_up]
      walk_at "dl"
      refine .lst (.lst _) (.inl ?_)
      rw [show DL.cutD (rs.map kdL) none (some (1 : Int)) = (rs.take 1).map kdL from cut_up kdL rs 1]
      have e1 : (rs.take 1).length ≤ 1 := by rw [List.length_take]; exact Nat.min_le_left _ _
      refine ⟨_, _, .lst (.lst _), lt_line (by rw [List.length_map]; omega), lc_map kdL (fun r : Kd => kdL ⟨("four" : Str), r.f, [r.f, r.f, r.f, r.f]⟩) trivial (fun r hr P1 h1 => ?_) (.inl ?_)⟩
      · walk_at "dl"
        refine ixt1 ?_
        walk_at "dl"
        refine ixt1 ?_
        walk_at "dl"
        refine ixt1 ?_
        walk_at "dl"
        refine ixt1 ?_
        walk_at "dl"
        refine ixt1 ?_
        walk_at "dl"
        refine ⟨len_le_line (n := 4), .inl ?_⟩
        walk_at "dl"
        exact ⟨len_le_line (n := 3), h1⟩
      have eu : (rs.take u).length ≤ rs.length := by rw [List.length_take]; exact Nat.min_le_right _ _
      have ed : (rs.drop u).length ≤ rs.length := by rw [List.length_drop]; omega
      have em : (rs.take u).length + (rs.drop u).length = rs.length := by rw [List.length_take, List.length_drop]; omega
      refine .lst (.lst _) (.lst _) (len_le_line (by rw [List.length_map, List.length_map]; have := L.rl; omega)) (.inl ?_)
      walk_at "dl"
      refine .lst (.lst _) (.inl ?_)
      rw [cut_low]
      walk_at "dl"
      refine .lst (.lst _) (.lst _) (len_le_line (by rw [List.length_append, List.length_map, List.length_map, List.length_map]; have := L.rl; omega)) (.inl ?_)
      refine hn' _ _ ⟨rfl, xs, rs.take u ++ (rs.take 1).map (fun r : Kd => (⟨("four" : Str), r.f, [r.f, r.f, r.f, r.f]⟩ : Kd)) ++ rs.drop u, root, _, by rw [List.map_append, List.map_append, List.map_map]; rfl, L.ks (by rw [List.length_append, List.length_append, List.length_map]; have := L.rl; omega) (by omega) fun r hr => ?_⟩
      rcases List.mem_append.mp hr with hr | hr
      · rcases List.mem_append.mp hr with hr | hr
        · exact .inl (List.mem_of_mem_take hr)
        · obtain ⟨q, hq, rfl⟩ := List.mem_map.mp hr
          have oq := L.ok.2 q (List.mem_of_mem_take hq)
          exact .inr ⟨Nat.le_refl _, (by decide +kernel : PyData.strOk ("four" : Str) = true), oq.2.1, fun c hc => by simp at hc; rw [hc]; exact oq.2.1⟩
      · exact .inl (List.mem_of_mem_drop hr)
    · refine g_iff' (by simp; omega) ?_
      walk_at "dl"
      exact hn' _ _ ⟨rfl, xs, rs, root, _, rfl, L.mono (by omega)⟩
  obtain ⟨rfl, xs, rs, root, x8, rfl, L⟩ := hC
  refine g_seqj (Cst p fault u (n + 63) M') (fun nx' hn' => ?_) fun ρ' M' hC => ?_
  · walk_at "dl"
    by_cases e : fault = 7
    · refine g_ift (by simp [e]) ?_
      walk_at "dl"
      refine ⟨_, rfl, lt_line (by decide +kernel), lc_map (fun c : Nat => D.str ⟨#[c]⟩) (fun c : Nat => kdL ⟨("xf" : Str) ++ (⟨#[c]⟩ : Str), ("xf" : Str) ++ (⟨#[c]⟩ : Str), []⟩) trivial (fun c hc P1 h1 => ?_) (.inl ?_)⟩
      · walk_at "dl"
        refine .str (len_two _ _ rfl) ?_
        walk_at "dl"
        refine .str (len_two _ _ rfl) ?_
        walk_at "dl"
        refine ⟨Nat.zero_le _, .inl ?_⟩
        walk_at "dl"
        exact ⟨len_le_line (n := 3), h1⟩
      walk_at "dl"
      have e9 : (("abc" : Str).cps.toList).length ≤ 3 := by decide +kernel
      refine .lst (.lst _) (.lst _) (len_le_line (by rw [List.length_map, List.length_map]; have := L.rl; omega)) (.inl ?_)
      refine hn' _ _ ⟨rfl, xs, rs ++ (("abc" : Str).cps.toList).map (fun c => (⟨("xf" : Str) ++ (⟨#[c]⟩ : Str), ("xf" : Str) ++ (⟨#[c]⟩ : Str), []⟩ : Kd)), root, _, by rw [List.map_append, List.map_map]; rfl, L.ks (by rw [List.length_append, List.length_map]; have := L.rl; omega) (by omega) fun r hr => ?_⟩
      rcases List.mem_append.mp hr with hr | hr
      · exact .inl hr
      · obtain ⟨c, hc, rfl⟩ := List.mem_map.mp hr
        exact .inr ⟨Nat.zero_le _, ok_xf c hc, ok_xf c hc, fun c hc => (nomatch hc)⟩
    · refine g_iff' (by simp; omega) ?_
      walk_at "dl"
      exact hn' _ _ ⟨rfl, xs, rs, root, _, rfl, L.mono (by omega)⟩
  obtain ⟨rfl, xs, rs, root, x8, rfl, L⟩ := hC
  refine g_seqj (Cst p fault u (n + 72) M') (fun nx' hn' => ?_) fun ρ' M' hC => ?_
  · walk_at "dl"
    by_cases e : fault = 8
    · refine g_ift (by simp [e]) ?_
      walk_at "dl"
      refine .lst (.lst _) (.inl ?_)
      rw [cut_up]
      walk_at "dl"
      refine .lst (.lst _) (.inl ?_)
      rw [show DL.cutD (rs.map kdL) none (some (1 : Int)) = (rs.take 1).map kdL from cut_up kdL rs 1]
      have e1 : (rs.take 1).length ≤ 1 := by rw [List.length_take]; exact Nat.min_le_left _ _
      refine ⟨_, _, .lst (.lst _), lt_line (by rw [List.length_map]; omega), lc_map kdL (fun r : Kd => kdL ⟨("lost" : Str), r.f, [r.f, ("unknownname" : Str)]⟩) trivial (fun r hr P1 h1 => ?_) (.inl ?_)⟩
      · walk_at "dl"
        refine ixt1 ?_
        walk_at "dl"
        refine ixt1 ?_
        walk_at "dl"
        refine ⟨len_le_line (n := 2), .inl ?_⟩
        walk_at "dl"
        exact ⟨len_le_line (n := 3), h1⟩
      have eu : (rs.take u).length ≤ rs.length := by rw [List.length_take]; exact Nat.min_le_right _ _
      have ed : (rs.drop u).length ≤ rs.length := by rw [List.length_drop]; omega
      have em : (rs.take u).length + (rs.drop u).length = rs.length := by rw [List.length_take, List.length_drop]; omega
      refine .lst (.lst _) (.lst _) (len_le_line (by rw [List.length_map, List.length_map]; have := L.rl; omega)) (.inl ?_)
      walk_at "dl"
      refine .lst (.lst _) (.inl ?_)
      rw [cut_low]
      walk_at "dl"
      refine .lst (.lst _) (.lst _) (len_le_line (by rw [List.length_append, List.length_map, List.length_map, List.length_map]; have := L.rl; omega)) (.inl ?_)
      refine hn' _ _ ⟨rfl, xs, rs.take u ++ (rs.take 1).map (fun r : Kd => (⟨("lost" : Str), r.f, [r.f, ("unknownname" : Str)]⟩ : Kd)) ++ rs.drop u, root, _, by rw [List.map_append, List.map_append, List.map_map]; rfl, L.ks (by rw [List.length_append, List.length_append, List.length_map]; have := L.rl; omega) (by omega) fun r hr => ?_⟩
      rcases List.mem_append.mp hr with hr | hr
      · rcases List.mem_append.mp hr with hr | hr
        · exact .inl (List.mem_of_mem_take hr)
        · obtain ⟨q, hq, rfl⟩ := List.mem_map.mp hr
          have oq := L.ok.2 q (List.mem_of_mem_take hq)
          exact .inr ⟨(show 2 ≤ 4 by decide), (by decide +kernel : PyData.strOk ("lost" : Str) = true), oq.2.1, fun c hc => (List.mem_cons.mp hc).elim (fun hc => by rw [hc]; exact oq.2.1) fun hc => by rw [List.mem_singleton.mp hc]; decide +kernel⟩
      · exact .inl (List.mem_of_mem_drop hr)
    · refine g_iff' (by simp; omega) ?_
      walk_at "dl"
      exact hn' _ _ ⟨rfl, xs, rs, root, _, rfl, L.mono (by omega)⟩
  obtain ⟨rfl, xs, rs, root, x8, rfl, L⟩ := hC
  refine g_seqj (Cst p fault u (n + 81) M') (fun nx' hn' => ?_) fun ρ' M' hC => ?_
  · walk_at "dl"
    by_cases e : fault = 9
    · refine g_ift (by simp [e]) ?_
      walk_at "dl"
      exact hn' _ _ ⟨rfl, xs, rs, some ("unknownname" : Str), _, rfl, L.mono (by omega)⟩
    · refine g_iff' (by simp; omega) ?_
      walk_at "dl"
      exact hn' _ _ ⟨rfl, xs, rs, root, _, rfl, L.mono (by omega)⟩
  obtain ⟨rfl, xs, rs, root, x8, rfl, L⟩ := hC
  refine g_seqj (Cst p fault u (n + 90) M') (fun nx' hn' => ?_) fun ρ' M' hC => ?_
  · walk_at "dl"
    by_cases e : fault = 10
    · refine g_ift (by simp [e]) ?_
      walk_at "dl"
      refine ⟨len_le_line (n := 1), .inl ?_⟩
      walk_at "dl"
      refine ⟨len_le_line (n := 3), ?_⟩
      walk_at "dl"
      refine ⟨len_le_line (n := 1), .inl ?_⟩
      walk_at "dl"
      refine .lst (.lst _) (.lst _) (len_le_line (by rw [List.length_map]; have := L.rl; simp only [List.length_cons, List.length_nil]; omega)) (.inl ?_)
      refine hn' _ _ ⟨rfl, xs, rs ++ ([⟨("endless" : Str), ("endless" : Str), [("endless" : Str)]⟩] : List Kd), root, _, by rw [List.map_append]; rfl, L.ks (by rw [List.length_append]; have := L.rl; simp only [List.length_cons, List.length_nil]; omega) (by omega) fun r hr => ?_⟩
      rcases List.mem_append.mp hr with hr | hr
      · exact .inl hr
      · rw [List.mem_singleton.mp hr]
        exact .inr ⟨by decide, by decide +kernel, by decide +kernel, fun c hc => by rw [List.mem_singleton.mp hc]; decide +kernel⟩
    · refine g_iff' (by simp; omega) ?_
      walk_at "dl"
      exact hn' _ _ ⟨rfl, xs, rs, root, _, rfl, L.mono (by omega)⟩
  obtain ⟨rfl, xs, rs, root, x8, rfl, L⟩ := hC
  refine g_seqj (Cst p fault u (n + 99) M') (fun nx' hn' => ?_) fun ρ' M' hC => ?_
  · walk_at "dl"
    by_cases e : fault = 11
    · refine g_ift (by simp [e]) ?_
      walk_at "dl"
      refine ⟨len_le_line (n := 1), .inl ?_⟩
      walk_at "dl"
      refine ⟨len_le_line (n := 3), ?_⟩
      walk_at "dl"
      refine ⟨len_le_line (n := 1), .inl ?_⟩
      walk_at "dl"
      refine ⟨len_le_line (n := 3), ?_⟩
      walk_at "dl"
      refine ⟨len_le_line (n := 2), .inl ?_⟩
      walk_at "dl"
      refine .lst (.lst _) (.lst _) (len_le_line (by rw [List.length_map]; have := L.rl; simp only [List.length_cons, List.length_nil]; omega)) (.inl ?_)
      refine hn' _ _ ⟨rfl, xs, rs ++ ([⟨("pings" : Str), ("ping" : Str), [("pong" : Str)]⟩, ⟨("pongs" : Str), ("pong" : Str), [("ping" : Str)]⟩] : List Kd), root, _, by rw [List.map_append]; rfl, L.ks (by rw [List.length_append]; have := L.rl; simp only [List.length_cons, List.length_nil]; omega) (by omega) fun r hr => ?_⟩
      rcases List.mem_append.mp hr with hr | hr
      · exact .inl hr
      · rcases List.mem_cons.mp hr with hr | hr
        · rw [hr]
          exact .inr ⟨by decide, by decide +kernel, by decide +kernel, fun c hc => by rw [List.mem_singleton.mp hc]; decide +kernel⟩
        · rw [List.mem_singleton.mp hr]
          exact .inr ⟨by decide, by decide +kernel, by decide +kernel, fun c hc => by rw [List.mem_singleton.mp hc]; decide +kernel⟩
    · refine g_iff' (by simp; omega) ?_
      walk_at "dl"
      exact hn' _ _ ⟨rfl, xs, rs, root, _, rfl, L.mono (by omega)⟩
  obtain ⟨rfl, xs, rs, root, x8, rfl, L⟩ := hC
  walk_at "dl"
  refine ⟨len_le_line (n := 3), .inl ?_⟩
  walk_at "dl"
  exact kQ xs rs root _ (L.mono (by omega)) nd1 S1 f1

end
section
variable {P : Program} {K : PySem.W.Frag} {mg : Str → Option Value} {base : Heap} {A : Ad}
variable {ds : List D} {M : Mem} {Qd : D → Mem → Prop} {Ed : XD}
theorem due_orig {xs fs : List Str} {rs : List Kd} {root : Option Str} {e w : Nat} (hx : xs.length ≤ 6) (hxn : xs.Nodup) (k : KOk fs rs e w) (h0 : fs ≠ []) (h3 : fs.length ≤ 3) (h8 : fs.length + e ≤ 8) (hw : w ≤ 3) (hr : ∀ f, root = some f → f ∈ fs) : dueG xs rs root = (("" : Str), ("" : Str)) := by
  unfold dueG
  rw [show fieldsErr xs = none from (if_neg (show ¬ 6 < xs.length by omega)).trans (if_neg (by rw [ord_nodup hxn]; omega)), k.noErr h0 h3 h8 hw]
  have hrb : rootBad rs root = false := by
    cases root with
    | none => rfl
    | some s =>
      have := (k.fams s).mpr (hr s rfl)
      show decide (s ∉ famsOf rs) = false
      simp only [this, not_true_eq_false, decide_false]
  have he : endless rs = false := by
    unfold endless
    rw [List.any_eq_false]
    intro f hf
    have : (getN (roundsL rs rs.length) f).isSome = true := (reached_iff rs f).mpr (k.tr f ((k.fams f).mp hf))
    simp [this]
  show (if rootBad rs root = true then (("grammar" : Str), ("root" : Str)) else if endless rs = true then (("grammar" : Str), ("finite" : Str)) else (("" : Str), ("" : Str))) = _
  rw [hrb, he]
  rfl
theorem fe_ok {xs : List Str} {e : Bool × Str} (h : fieldsErr xs = some e) : okD 60 (pairD (errP e)) = true := by
  unfold fieldsErr at h
  repeat' (split at h)
  all_goals first | (cases h; done) | (cases h; decide +kernel)
theorem ke_ok {rs : List Kd} {fs : List Str} {e : Bool × Str} (h : kindsErr rs fs = some e) : okD 60 (pairD (errP e)) = true := by
  unfold kindsErr at h
  repeat' (split at h)
  all_goals first | (cases h; done) | (cases h; decide +kernel)
theorem due_ok (xs : List Str) (rs : List Kd) (root : Option Str) : okD 60 (pairD (dueG xs rs root)) = true := by
  unfold dueG
  cases hf : fieldsErr xs with
  | some e => exact fe_ok hf
  | none =>
    cases hk : kindsErr rs (famsOf rs) with
    | some e => exact ke_ok hk
    | none =>
      show okD 60 (pairD (if rootBad rs root = true then (("grammar" : Str), ("root" : Str)) else if endless rs = true then (("grammar" : Str), ("finite" : Str)) else (("" : Str), ("" : Str)))) = true
      split
      · decide +kernel
      · split <;> decide +kernel
theorem lim8 {xs fs : List Str} {rs : List Kd} {e w : Nat} (hx : xs.length ≤ 6) (ho : ∀ x ∈ xs, NameOk x) (hf : ∀ x ∈ fs, NameOk x) (k : KOk fs rs e w) (h8 : fs.length + e ≤ 8) (hw : w ≤ 3) : Lim 8 xs rs := by
  refine ⟨by omega, by have := k.len; omega, fun r hr => by have := k.cl r hr; omega, fun x hx => okStr (ho x hx), fun r hr => ⟨okStr (k.nm r hr), okStr (hf _ (k.fam r hr)), fun c hc => okStr (hf _ (k.ch r hr c hc))⟩⟩
theorem pure_law (T : Txt K mg A) (h : sd_law K A ds M Qd Ed) : Pure (d_law K A) N_law ds M Qd Ed := by
  obtain ⟨cs, rfl, hcs, nd, kQ⟩ := h
  unfold Pure d_law
  walk_at "dl"
  refine ⟨cs, rfl, hcs, nd, fun p c M1 hp hc nd1 S1 f1 => ?_⟩
  walk_at "dl"
  refine draw_nat (n := 6) rfl (by decide) (by decide) nd1 (by omega) S1 fun r1 M2 b1 nd2 S2 f2 => ?_
  walk_at "dl"
  refine ⟨p, c, _, 1 + r1, by rw [show (1 : Int) + (r1 : Int) = ((1 + r1 : Nat) : Int) by omega], by omega, nd2, by omega, S2, fun xs a M3 hxs hxn hxo nd3 S3 ha3 hap hac hm3 f3 => ?_⟩
  obtain ⟨M4, U4⟩ := del_ex nd3 hm3
  refine ⟨_, M4, .one U4.up rfl, ?_⟩
  have S4 := S3.fr U4.fr (not_mem1 (Ne.symm hap)) (not_mem1 (Ne.symm hac))
  walk_at "dl"
  refine draw_nat (n := 3) rfl (by decide) (by decide) U4.nd (by omega) S4 fun r4 M5 b4 nd5 S5 f5 => ?_
  walk_at "dl"
  refine ⟨p, c, _, 1 + r4, by rw [show (1 : Int) + (r4 : Int) = ((1 + r4 : Nat) : Int) by omega], by omega, nd5, by omega, S5, fun ms a6 M6 hms hmn hmo nd6 S6 ha6 hap6 hac6 hm6 f6 => ?_⟩
  obtain ⟨M7, U7⟩ := del_ex nd6 hm6
  refine ⟨_, M7, .one U7.up rfl, ?_⟩
  have S7 := S6.fr U7.fr (not_mem1 (Ne.symm hap6)) (not_mem1 (Ne.symm hac6))
  walk_at "dl"
  refine ⟨p, c, ms, 5, 3, _, rfl, by omega, by omega, by decide, by decide, U7.nd, by omega, S7, fun rs M8 k nd8 S8 f8 => ?_⟩
  refine ⟨_, _, .refl, ?_⟩
  have L := lim8 (by omega) hxo hmo k (by omega) (by decide)
  have h0 : ms ≠ [] := fun z => by rw [z] at hms; simp at hms; omega
  walk_at "dl"
  refine isS_len (.lst _) ?_
  walk_at "dl"
  refine draw_nat (n := ms.length + 1) (by rw [List.length_map]; rfl) (by omega) (by omega) nd8 (by omega) S8 fun r8 M9 b8 nd9 S9 f9 => ?_
  refine g_nm (g_seqj (fun ρ' M' => M' = M9 ∧ ∃ root : Option Str, (∀ f, root = some f → f ∈ ms) ∧ ρ' = [some (.rol (cs.map .int)), some (.ptr p), some (.lst (xs.map .str)), some (.lst (ms.map .str)), some (.lst (rs.map kdL)), some (.int (r8 : Nat)), some (rootD root), none, none, none, none]) (fun nx' hn' => ?_) fun ρ' M' hC => ?_)
  · walk_at "dl"
    by_cases e : r8 = 0
    · refine g_ift (by simp [e]) ?_
      walk_at "dl"
      exact hn' _ _ ⟨rfl, none, fun f z => (nomatch z), rfl⟩
    · refine g_iff' (by simp; omega) ?_
      walk_at "dl"
      have hlt : r8 - 1 < ms.length := by omega
      refine ixq_lst (atI_nat' (j := r8 - 1) (x := .str ms[r8 - 1]) (by omega) (by rw [List.getElem?_map]; simp [hlt])) ?_
      walk_at "dl"
      exact hn' _ _ ⟨rfl, some ms[r8 - 1], fun f z => by cases z; exact List.getElem_mem hlt, rfl⟩
  obtain ⟨rfl, root, hroot, rfl⟩ := hC
  have eo : dueG xs rs root = (("" : Str), ("" : Str)) := due_orig (by omega) hxn k h0 (by omega) (by omega) (by decide) hroot
  have ok0 : okD 60 (D.tup [D.str ("" : Str), D.str ("" : Str)]) = true := by decide +kernel
  have ep : DL.pairD (("" : Str), ("" : Str)) = D.tup [D.str ("" : Str), D.str ("" : Str)] := rfl
  walk_at "dl"
  refine ⟨xs, rs, root, rfl, ⟨by have := L.xl; omega, by have := L.rl; omega, L.cl, L.ok⟩, nd9, fun M10 nd10 f10 => ?_⟩
  rw [eo, ep]
  refine ⟨_, _, .refl, ?_⟩
  walk_at "dl"
  refine ⟨len_le_line (n := 2), ?_⟩
  walk_at "dl"
  refine .dat (.plain ok0) (.plain ok0) ok0 ok0 ?_
  rw [eqD_refl 60 _ ok0]
  walk_at "dl"
  refine g_iff' rfl ?_
  walk_at "dl"
  refine ⟨len_le_line (n := 3), .inl ?_⟩
  walk_at "dl"
  have S10 := S9.fr f10 (by simp) (by simp)
  refine ⟨by decide, by decide, ?_⟩
  let P : Nat → Rho → Mem → Prop := fun i ρ M' => (∃ xs' rs' root' x8 x9, ρ = [some (.rol (cs.map .int)), some (.ptr p), some (.lst (xs.map .str)), some (.lst (ms.map .str)), some (.lst (rs.map kdL)), some (.int (r8 : Nat)), some (rootD root), some (.lst [.lst (xs'.map .str), .lst (rs'.map kdL), rootD root']), x8, x9, none] ∧ Lim (8 + 100 * i) xs' rs') ∧ Nd M' ∧ Src p c (1000 + 2 * i) M'
  refine goF_inv P (fun _ _ _ _ => trivial) (fun i d ρ M5 hd hP go hgo => ?_) (fun ρ M5 hP => ?_) ⟨⟨xs, rs, root, _, _, rfl, L⟩, nd10, S10.more (by omega)⟩
  · obtain ⟨⟨xs', rs', root', x8, x9, rfl, L'⟩, nd5, S5⟩ := hP
    have hi : i < 2 := by
      have := (List.getElem?_eq_some_iff.mp hd).1
      rw [rng_len] at this
      exact this
    walk_at "dl"
    refine draw_nat (n := 12) rfl (by decide) (by decide) nd5 (by omega) S5 fun r11 M11 b11 nd11 S11 f11 => ?_
    walk_at "dl"
    refine ixq_lst atI0 ?_
    walk_at "dl"
    refine ixq_lst atI1 ?_
    walk_at "dl"
    refine ixq_lst atI2 ?_
    walk_at "dl"
    refine ⟨p, c, xs', rs', root', r11, _, 8 + 100 * i, rfl, by omega, L', nd11, by omega, S11, fun xs2 rs2 root2 M12 L2 nd12 S12 f12 => ?_⟩
    refine ⟨_, _, .refl, ?_⟩
    exact hgo _ _ ⟨⟨xs2, rs2, root2, _, _, rfl, ⟨by have := L2.xl; omega, by have := L2.rl; omega, L2.cl, L2.ok⟩⟩, nd12, S12.more (by omega)⟩
  · obtain ⟨⟨xs', rs', root', x8, x9, rfl, L'⟩, nd5, S5⟩ := hP
    rw [rng_len] at L'
    have L2 : Lim 300 xs' rs' := ⟨by have := L'.xl; simp at this; omega, by have := L'.rl; simp at this; omega, L'.cl, L'.ok⟩
    have okd := due_ok xs' rs' root'
    walk_at "dl"
    refine ixq_lst atI0 ?_
    walk_at "dl"
    refine ixq_lst atI1 ?_
    walk_at "dl"
    refine ixq_lst atI2 ?_
    walk_at "dl"
    refine ⟨xs', rs', root', rfl, by have := L2.xl; omega, by have := L2.rl; omega, fun r hr => by have := L2.cl r hr; omega, nd5, fun M6 nd6 f6 => ?_⟩
    refine ⟨_, _, .refl, ?_⟩
    walk_at "dl"
    refine ixq_lst atI0 ?_
    walk_at "dl"
    refine ixq_lst atI1 ?_
    walk_at "dl"
    refine ixq_lst atI2 ?_
    walk_at "dl"
    refine ⟨xs', rs', root', rfl, L2, nd6, fun M7 nd7 f7 => ?_⟩
    refine ⟨_, _, .refl, ?_⟩
    walk_at "dl"
    refine .dat (.plain okd) (.plain okd) okd okd ?_
    rw [eqD_refl 60 _ okd]
    walk_at "dl"
    refine g_iff' rfl ?_
    walk_at "dl"
    refine ixq_lst atI0 ?_
    walk_at "dl"
    refine ixq_lst atI1 ?_
    walk_at "dl"
    refine ixq_lst atI2 ?_
    walk_at "dl"
    refine ⟨xs', rs', root', rfl, L2, nd7, fun M8 nd8 f8 => ?_⟩
    refine ⟨_, _, .refl, ?_⟩
    walk_at "dl"
    refine .dat (.plain okd) (.plain okd) okd okd ?_
    rw [eqD_refl 60 _ okd]
    walk_at "dl"
    refine g_ift rfl ?_
    walk_at "dl"
    refine ⟨xs, rs, root, rfl, ⟨by have := L.xl; omega, by have := L.rl; omega, L.cl, L.ok⟩, nd8, fun M9 nd9 f9 => ?_⟩
    rw [eo, ep]
    refine ⟨_, _, .refl, ?_⟩
    walk_at "dl"
    refine ⟨len_le_line (n := 2), ?_⟩
    walk_at "dl"
    refine .dat (.plain ok0) (.plain ok0) ok0 ok0 ?_
    rw [eqD_refl 60 _ ok0]
    walk_at "dl"
    exact kQ _

end
section
variable {P : Program} {K : PySem.W.Frag} {mg : Str → Option Value} {base : Heap} {A : Ad}
theorem ok__in_order (T : Txt K mg A) {fd : FuncData} (Fu : Fun K "_in_order" "_in_order" s__in_order A.f__in_order fd) : FnOk P Wd.w K mg base (L2.CX P Wd.w) 1 A.f__in_order fd ["names"] (spOf K (sd__in_order K A)) :=
  fnOk_of Fu sc__in_order (fun ds M Q E h => len__in_order h) fun cdv A0 outer s H U E ds M Qd Ed hr h => ⟨d__in_order K A, h__in_order T hr, pure__in_order T h⟩
theorem ok__least_sizes (T : Txt K mg A) {fd : FuncData} (Fu : Fun K "_least_sizes" "_least_sizes" s__least_sizes A.f__least_sizes fd) : FnOk P Wd.w K mg base (L2.CX P Wd.w) 1 A.f__least_sizes fd ["rows"] (spOf K (sd__least_sizes K A)) :=
  fnOk_of Fu sc__least_sizes (fun ds M Q E h => len__least_sizes h) fun cdv A0 outer s H U E ds M Qd Ed hr h => ⟨d__least_sizes K A, h__least_sizes T hr, pure__least_sizes T h⟩
theorem ok__law_source (T : Txt K mg A) {fd : FuncData} (Fu : Fun K "_law_source" "_law_source" s__law_source A.f__law_source fd) : FnOk P Wd.w K mg base (L2.CX P Wd.w) 1 A.f__law_source fd ["_law_script"] (spOf K (sd__law_source K A)) :=
  fnOk_of Fu sc__law_source (fun ds M Q E h => len__law_source h) fun cdv A0 outer s H U E ds M Qd Ed hr h => ⟨d__law_source K A, h__law_source T hr, pure__law_source T h⟩
theorem ok__law_draw (T : Txt K mg A) {fd : FuncData} (Fu : Fun K "_law_draw" "_law_draw" s__law_draw A.f__law_draw fd) : FnOk P Wd.w K mg base (L2.CX P Wd.w) 1 A.f__law_draw fd ["_law_source_here", "_law_many"] (spOf K (sd__law_draw K A)) :=
  fnOk_of Fu sc__law_draw (fun ds M Q E h => len__law_draw h) fun cdv A0 outer s H U E ds M Qd Ed hr h => ⟨d__law_draw K A, h__law_draw T hr, pure__law_draw T h⟩
theorem ok__law_sizes (T : Txt K mg A) {fd : FuncData} (Fu : Fun K "_law_sizes" "_law_sizes" s__law_sizes A.f__law_sizes fd) : FnOk P Wd.w K mg base (L2.CX P Wd.w) 1 A.f__law_sizes fd ["_law_kinds_here"] (spOf K (sd__law_sizes K A)) :=
  fnOk_of Fu sc__law_sizes (fun ds M Q E h => len__law_sizes h) fun cdv A0 outer s H U E ds M Qd Ed hr h => ⟨d__law_sizes K A, h__law_sizes T hr, pure__law_sizes T h⟩
theorem ok_LimitExceeded___init__ (T : Txt K mg A) {fd : FuncData} (Fu : Fun K "__init__" "LimitExceeded.__init__" s_LimitExceeded___init__ A.m_LimitExceeded___init__ fd) : FnOk P Wd.w K mg base (L2.CX P Wd.w) 1 A.m_LimitExceeded___init__ fd ["self", "limit"] (spOf K (sd_LimitExceeded___init__ K A)) :=
  fnOk_of Fu sc_LimitExceeded___init__ (fun ds M Q E h => len_LimitExceeded___init__ h) fun cdv A0 outer s H U E ds M Qd Ed hr h => ⟨d_LimitExceeded___init__ K A, h_LimitExceeded___init__ T hr, pure_LimitExceeded___init__ T h⟩
theorem ok_BadGrammar___init__ (T : Txt K mg A) {fd : FuncData} (Fu : Fun K "__init__" "BadGrammar.__init__" s_BadGrammar___init__ A.m_BadGrammar___init__ fd) : FnOk P Wd.w K mg base (L2.CX P Wd.w) 1 A.m_BadGrammar___init__ fd ["self", "part"] (spOf K (sd_BadGrammar___init__ K A)) :=
  fnOk_of Fu sc_BadGrammar___init__ (fun ds M Q E h => len_BadGrammar___init__ h) fun cdv A0 outer s H U E ds M Qd Ed hr h => ⟨d_BadGrammar___init__ K A, h_BadGrammar___init__ T hr, pure_BadGrammar___init__ T h⟩
theorem ok__law_names (T : Txt K mg A) (G__law_draw : FnD P Wd.w K mg base 1 A.f__law_draw (sd__law_draw K A)) {fd : FuncData} (Fu : Fun K "_law_names" "_law_names" s__law_names A.f__law_names fd) : FnOk P Wd.w K mg base (L2.CX P Wd.w) 2 A.f__law_names fd ["_law_source_here", "_law_count"] (spOf K (sd__law_names K A)) :=
  fnOk_of Fu sc__law_names (fun ds M Q E h => len__law_names h) fun cdv A0 outer s H U E ds M Qd Ed hr h => ⟨d__law_names K A, h__law_names T G__law_draw hr, pure__law_names T h⟩
theorem ok__law_changed (T : Txt K mg A) (G__law_draw : FnD P Wd.w K mg base 1 A.f__law_draw (sd__law_draw K A)) {fd : FuncData} (Fu : Fun K "_law_changed" "_law_changed" s__law_changed A.f__law_changed fd) : FnOk P Wd.w K mg base (L2.CX P Wd.w) 2 A.f__law_changed fd ["_law_source_here", "_law_fields", "_law_kinds_here", "_law_root", "_law_fault"] (spOf K (sd__law_changed K A)) :=
  fnOk_of Fu sc__law_changed (fun ds M Q E h => len__law_changed h) fun cdv A0 outer s H U E ds M Qd Ed hr h => ⟨d__law_changed K A, h__law_changed T G__law_draw hr, pure__law_changed T h⟩
theorem ok__law_due (T : Txt K mg A) (G__law_sizes : FnD P Wd.w K mg base 1 A.f__law_sizes (sd__law_sizes K A)) {fd : FuncData} (Fu : Fun K "_law_due" "_law_due" s__law_due A.f__law_due fd) : FnOk P Wd.w K mg base (L2.CX P Wd.w) 2 A.f__law_due fd ["_law_fields", "_law_kinds_here", "_law_root"] (spOf K (sd__law_due K A)) :=
  fnOk_of Fu sc__law_due (fun ds M Q E h => len__law_due h) fun cdv A0 outer s H U E ds M Qd Ed hr h => ⟨d__law_due K A, h__law_due T G__law_sizes hr, pure__law_due T h⟩
theorem ok__check_fields (T : Txt K mg A) (G__in_order : FnD P Wd.w K mg base 1 A.f__in_order (sd__in_order K A)) {fd_LimitExceeded___init__ : FuncData} (F_LimitExceeded___init__ : FnOk P Wd.w K mg base (L2.CX P Wd.w) 1 A.m_LimitExceeded___init__ fd_LimitExceeded___init__ ["self", "limit"] (spOf K (sd_LimitExceeded___init__ K A)) ∧ Binds K fd_LimitExceeded___init__ ["self", "limit"] []) {fd_BadGrammar___init__ : FuncData} (F_BadGrammar___init__ : FnOk P Wd.w K mg base (L2.CX P Wd.w) 1 A.m_BadGrammar___init__ fd_BadGrammar___init__ ["self", "part"] (spOf K (sd_BadGrammar___init__ K A)) ∧ Binds K fd_BadGrammar___init__ ["self", "part"] []) {fd : FuncData} (Fu : Fun K "_check_fields" "_check_fields" s__check_fields A.f__check_fields fd) : FnOk P Wd.w K mg base (L2.CX P Wd.w) 3 A.f__check_fields fd ["fields"] (spOf K (sd__check_fields K A)) :=
  fnOk_of Fu sc__check_fields (fun ds M Q E h => len__check_fields h) fun cdv A0 outer s H U E ds M Qd Ed hr h => ⟨d__check_fields K A, h__check_fields T G__in_order F_LimitExceeded___init__ F_BadGrammar___init__ hr, pure__check_fields T h⟩
theorem ok__check_kinds (T : Txt K mg A) (G__in_order : FnD P Wd.w K mg base 1 A.f__in_order (sd__in_order K A)) {fd_BadGrammar___init__ : FuncData} (F_BadGrammar___init__ : FnOk P Wd.w K mg base (L2.CX P Wd.w) 1 A.m_BadGrammar___init__ fd_BadGrammar___init__ ["self", "part"] (spOf K (sd_BadGrammar___init__ K A)) ∧ Binds K fd_BadGrammar___init__ ["self", "part"] []) {fd_LimitExceeded___init__ : FuncData} (F_LimitExceeded___init__ : FnOk P Wd.w K mg base (L2.CX P Wd.w) 1 A.m_LimitExceeded___init__ fd_LimitExceeded___init__ ["self", "limit"] (spOf K (sd_LimitExceeded___init__ K A)) ∧ Binds K fd_LimitExceeded___init__ ["self", "limit"] []) {fd : FuncData} (Fu : Fun K "_check_kinds" "_check_kinds" s__check_kinds A.f__check_kinds fd) : FnOk P Wd.w K mg base (L2.CX P Wd.w) 3 A.f__check_kinds fd ["rows", "families"] (spOf K (sd__check_kinds K A)) :=
  fnOk_of Fu sc__check_kinds (fun ds M Q E h => len__check_kinds h) fun cdv A0 outer s H U E ds M Qd Ed hr h => ⟨d__check_kinds K A, h__check_kinds T G__in_order F_BadGrammar___init__ F_LimitExceeded___init__ hr, pure__check_kinds T h⟩
theorem ok__law_kinds (T : Txt K mg A) (G__law_draw : FnD P Wd.w K mg base 1 A.f__law_draw (sd__law_draw K A)) (G__law_names : FnD P Wd.w K mg base 2 A.f__law_names (sd__law_names K A)) {fd : FuncData} (Fu : Fun K "_law_kinds" "_law_kinds" s__law_kinds A.f__law_kinds fd) : FnOk P Wd.w K mg base (L2.CX P Wd.w) 3 A.f__law_kinds fd ["_law_source_here", "_law_families", "_law_extra", "_law_width"] (spOf K (sd__law_kinds K A)) :=
  fnOk_of Fu sc__law_kinds (fun ds M Q E h => len__law_kinds h) fun cdv A0 outer s H U E ds M Qd Ed hr h => ⟨d__law_kinds K A, h__law_kinds T G__law_draw G__law_names hr, pure__law_kinds T h⟩
theorem ok_Grammar___init__ (T : Txt K mg A) (G__in_order : FnD P Wd.w K mg base 1 A.f__in_order (sd__in_order K A)) (G__check_fields : FnD P Wd.w K mg base 3 A.f__check_fields (sd__check_fields K A)) (G__check_kinds : FnD P Wd.w K mg base 3 A.f__check_kinds (sd__check_kinds K A)) (G__least_sizes : FnD P Wd.w K mg base 1 A.f__least_sizes (sd__least_sizes K A)) {fd_BadGrammar___init__ : FuncData} (F_BadGrammar___init__ : FnOk P Wd.w K mg base (L2.CX P Wd.w) 1 A.m_BadGrammar___init__ fd_BadGrammar___init__ ["self", "part"] (spOf K (sd_BadGrammar___init__ K A)) ∧ Binds K fd_BadGrammar___init__ ["self", "part"] []) {fd : FuncData} (Fu : Fun K "__init__" "Grammar.__init__" s_Grammar___init__ A.m_Grammar___init__ fd) : FnOk P Wd.w K mg base (L2.CX P Wd.w) 4 A.m_Grammar___init__ fd ["self", "fields", "kinds", "root"] (spOf K (sdf_Grammar___init__ K A)) :=
  fnOk_of Fu sc_Grammar___init__ (fun ds M Q E h => len_Grammar___init__ h) fun cdv A0 outer s H U E ds M Qd Ed hr h => ⟨d_Grammar___init__ K A, h_Grammar___init__ T G__in_order G__check_fields G__check_kinds G__least_sizes F_BadGrammar___init__ hr, pure_Grammar___init__ T h⟩
theorem ok__law_told (T : Txt K mg A) {fk_Grammar___init__ : FuncData} (KF_Grammar___init__ : FnOk P Wd.w K mg base (L2.CX P Wd.w) 4 A.m_Grammar___init__ fk_Grammar___init__ ["self", "fields", "kinds", "root"] (spOf K (sdf_Grammar___init__ K A)) ∧ KBn K fk_Grammar___init__ ["self", "fields", "kinds", "root"] 3 ["root"] kwF kwV) {fd : FuncData} (Fu : Fun K "_law_told" "_law_told" s__law_told A.f__law_told fd) : FnOk P Wd.w K mg base (L2.CX P Wd.w) 6 A.f__law_told fd ["_law_fields", "_law_kinds_here", "_law_root"] (spOf K (sd__law_told K A)) :=
  fnOk_of Fu sc__law_told (fun ds M Q E h => len__law_told h) fun cdv A0 outer s H U E ds M Qd Ed hr h => ⟨d__law_told K A, h__law_told T KF_Grammar___init__ hr, pure__law_told T h⟩
theorem ok_law (T : Txt K mg A) (G__law_source : FnD P Wd.w K mg base 1 A.f__law_source (sd__law_source K A)) (G__law_draw : FnD P Wd.w K mg base 1 A.f__law_draw (sd__law_draw K A)) (G__law_names : FnD P Wd.w K mg base 2 A.f__law_names (sd__law_names K A)) (G__law_kinds : FnD P Wd.w K mg base 3 A.f__law_kinds (sd__law_kinds K A)) (G__law_told : FnD P Wd.w K mg base 6 A.f__law_told (sd__law_told K A)) (G__law_changed : FnD P Wd.w K mg base 2 A.f__law_changed (sd__law_changed K A)) (G__law_due : FnD P Wd.w K mg base 2 A.f__law_due (sd__law_due K A)) {fd : FuncData} (Fu : Fun K "law" "law" s_law A.f_law fd) : FnOk P Wd.w K mg base (L2.CX P Wd.w) 7 A.f_law fd ["_law_script"] (spOf K (sd_law K A)) :=
  fnOk_of Fu sc_law (fun ds M Q E h => len_law h) fun cdv A0 outer s H U E ds M Qd Ed hr h => ⟨d_law K A, h_law T G__law_source G__law_draw G__law_names G__law_kinds G__law_told G__law_changed G__law_due hr, pure_law T h⟩
/-- the defs of the text and how they are called -/
structure Defs (K : PySem.W.Frag) (A : Ad) : Prop where
  fu__in_order : ∃ fd, Fun K "_in_order" "_in_order" s__in_order A.f__in_order fd ∧ Binds K fd ["names"] []
  fu__least_sizes : ∃ fd, Fun K "_least_sizes" "_least_sizes" s__least_sizes A.f__least_sizes fd ∧ Binds K fd ["rows"] []
  fu__law_source : ∃ fd, Fun K "_law_source" "_law_source" s__law_source A.f__law_source fd ∧ Binds K fd ["_law_script"] []
  fu__law_draw : ∃ fd, Fun K "_law_draw" "_law_draw" s__law_draw A.f__law_draw fd ∧ Binds K fd ["_law_source_here", "_law_many"] []
  fu__law_sizes : ∃ fd, Fun K "_law_sizes" "_law_sizes" s__law_sizes A.f__law_sizes fd ∧ Binds K fd ["_law_kinds_here"] []
  fu_LimitExceeded___init__ : ∃ fd, Fun K "__init__" "LimitExceeded.__init__" s_LimitExceeded___init__ A.m_LimitExceeded___init__ fd ∧ Binds K fd ["self", "limit"] []
  fu_BadGrammar___init__ : ∃ fd, Fun K "__init__" "BadGrammar.__init__" s_BadGrammar___init__ A.m_BadGrammar___init__ fd ∧ Binds K fd ["self", "part"] []
  fu__law_names : ∃ fd, Fun K "_law_names" "_law_names" s__law_names A.f__law_names fd ∧ Binds K fd ["_law_source_here", "_law_count"] []
  fu__law_changed : ∃ fd, Fun K "_law_changed" "_law_changed" s__law_changed A.f__law_changed fd ∧ Binds K fd ["_law_source_here", "_law_fields", "_law_kinds_here", "_law_root", "_law_fault"] []
  fu__law_due : ∃ fd, Fun K "_law_due" "_law_due" s__law_due A.f__law_due fd ∧ Binds K fd ["_law_fields", "_law_kinds_here", "_law_root"] []
  fu__check_fields : ∃ fd, Fun K "_check_fields" "_check_fields" s__check_fields A.f__check_fields fd ∧ Binds K fd ["fields"] []
  fu__check_kinds : ∃ fd, Fun K "_check_kinds" "_check_kinds" s__check_kinds A.f__check_kinds fd ∧ Binds K fd ["rows", "families"] []
  fu__law_kinds : ∃ fd, Fun K "_law_kinds" "_law_kinds" s__law_kinds A.f__law_kinds fd ∧ Binds K fd ["_law_source_here", "_law_families", "_law_extra", "_law_width"] []
  fu_Grammar___init__ : ∃ fd ds, Fun K "__init__" "Grammar.__init__" s_Grammar___init__ A.m_Grammar___init__ fd ∧ Vals [V.non] ds ∧ Binds K fd ["self", "fields", "kinds", "root"] ds ∧ KBn K fd ["self", "fields", "kinds", "root"] 3 ["root"] kwF kwV
  fu__law_told : ∃ fd, Fun K "_law_told" "_law_told" s__law_told A.f__law_told fd ∧ Binds K fd ["_law_fields", "_law_kinds_here", "_law_root"] []
theorem all_ok (T : Txt K mg A) (Ds : Defs K A) {fd : FuncData} (u_law : Fun K "law" "law" s_law A.f_law fd) : FnOk P Wd.w K mg base (L2.CX P Wd.w) 7 A.f_law fd ["_law_script"] (spOf K (sd_law K A)) := by
  obtain ⟨fd__in_order, u__in_order, b__in_order⟩ := Ds.fu__in_order
  have G__in_order := DL.FnOk.fnD (ok__in_order (P := P) (base := base) T u__in_order) b__in_order
  obtain ⟨fd__least_sizes, u__least_sizes, b__least_sizes⟩ := Ds.fu__least_sizes
  have G__least_sizes := DL.FnOk.fnD (ok__least_sizes (P := P) (base := base) T u__least_sizes) b__least_sizes
  obtain ⟨fd__law_source, u__law_source, b__law_source⟩ := Ds.fu__law_source
  have G__law_source := DL.FnOk.fnD (ok__law_source (P := P) (base := base) T u__law_source) b__law_source
  obtain ⟨fd__law_draw, u__law_draw, b__law_draw⟩ := Ds.fu__law_draw
  have G__law_draw := DL.FnOk.fnD (ok__law_draw (P := P) (base := base) T u__law_draw) b__law_draw
  obtain ⟨fd__law_sizes, u__law_sizes, b__law_sizes⟩ := Ds.fu__law_sizes
  have G__law_sizes := DL.FnOk.fnD (ok__law_sizes (P := P) (base := base) T u__law_sizes) b__law_sizes
  obtain ⟨fd_LimitExceeded___init__, u_LimitExceeded___init__, b_LimitExceeded___init__⟩ := Ds.fu_LimitExceeded___init__
  have F_LimitExceeded___init__ := And.intro (ok_LimitExceeded___init__ (P := P) (base := base) T u_LimitExceeded___init__) b_LimitExceeded___init__
  obtain ⟨fd_BadGrammar___init__, u_BadGrammar___init__, b_BadGrammar___init__⟩ := Ds.fu_BadGrammar___init__
  have F_BadGrammar___init__ := And.intro (ok_BadGrammar___init__ (P := P) (base := base) T u_BadGrammar___init__) b_BadGrammar___init__
  obtain ⟨fd__law_names, u__law_names, b__law_names⟩ := Ds.fu__law_names
  have G__law_names := DL.FnOk.fnD (ok__law_names (P := P) (base := base) T G__law_draw u__law_names) b__law_names
  obtain ⟨fd__law_changed, u__law_changed, b__law_changed⟩ := Ds.fu__law_changed
  have G__law_changed := DL.FnOk.fnD (ok__law_changed (P := P) (base := base) T G__law_draw u__law_changed) b__law_changed
  obtain ⟨fd__law_due, u__law_due, b__law_due⟩ := Ds.fu__law_due
  have G__law_due := DL.FnOk.fnD (ok__law_due (P := P) (base := base) T G__law_sizes u__law_due) b__law_due
  obtain ⟨fd__check_fields, u__check_fields, b__check_fields⟩ := Ds.fu__check_fields
  have G__check_fields := DL.FnOk.fnD (ok__check_fields (P := P) (base := base) T G__in_order F_LimitExceeded___init__ F_BadGrammar___init__ u__check_fields) b__check_fields
  obtain ⟨fd__check_kinds, u__check_kinds, b__check_kinds⟩ := Ds.fu__check_kinds
  have G__check_kinds := DL.FnOk.fnD (ok__check_kinds (P := P) (base := base) T G__in_order F_BadGrammar___init__ F_LimitExceeded___init__ u__check_kinds) b__check_kinds
  obtain ⟨fd__law_kinds, u__law_kinds, b__law_kinds⟩ := Ds.fu__law_kinds
  have G__law_kinds := DL.FnOk.fnD (ok__law_kinds (P := P) (base := base) T G__law_draw G__law_names u__law_kinds) b__law_kinds
  obtain ⟨fd_Grammar___init__, dv_Grammar___init__, u_Grammar___init__, v_Grammar___init__, b_Grammar___init__, kb_Grammar___init__⟩ := Ds.fu_Grammar___init__
  have G_Grammar___init__ : FnD P Wd.w K mg base 4 A.m_Grammar___init__ (sd_Grammar___init__ K A) := DL.FnOk.fnDd (ok_Grammar___init__ T G__in_order G__check_fields G__check_kinds G__least_sizes F_BadGrammar___init__ u_Grammar___init__) b_Grammar___init__ v_Grammar___init__ fun _ => .cons .non .nil
  have KF_Grammar___init__ := And.intro (ok_Grammar___init__ (P := P) (base := base) T G__in_order G__check_fields G__check_kinds G__least_sizes F_BadGrammar___init__ u_Grammar___init__) kb_Grammar___init__
  obtain ⟨fd__law_told, u__law_told, b__law_told⟩ := Ds.fu__law_told
  have G__law_told := DL.FnOk.fnD (ok__law_told (P := P) (base := base) T KF_Grammar___init__ u__law_told) b__law_told
  exact ok_law T G__law_source G__law_draw G__law_names G__law_kinds G__law_told G__law_changed G__law_due u_law
end
theorem all_mk {P : Program} {K : PySem.W.Frag} {h : Heap} {mg : Str → Option Value} {fa : Addr} (X : K.In h) (G : h.Ns mainGlobals mg) (hfa : mg "law" = some (.ref fa))
    {c_LimitExceeded : Addr} {c_BadGrammar : Addr} {c_Grammar : Addr} {c_WalkError : Addr} {f__in_order : Addr} {f__least_sizes : Addr} {f__law_source : Addr} {f__law_draw : Addr} {f__law_sizes : Addr} {m_LimitExceeded___init__ : Addr} {m_BadGrammar___init__ : Addr} {f__law_names : Addr} {f__law_changed : Addr} {f__law_due : Addr} {f__check_fields : Addr} {f__check_kinds : Addr} {f__law_kinds : Addr} {m_Grammar___init__ : Addr} {f__law_told : Addr} {f_law : Addr} {oc__in_order : Value} {doc__in_order : Value} {pm__in_order : Value} {cd__in_order : Value} {ct__in_order : Value} {kV__in_order : Value} {od__in_order an__in_order : Option Addr} {sl__in_order : Array (Option Value)} {oc__least_sizes : Value} {doc__least_sizes : Value} {pm__least_sizes : Value} {cd__least_sizes : Value} {ct__least_sizes : Value} {kV__least_sizes : Value} {od__least_sizes an__least_sizes : Option Addr} {sl__least_sizes : Array (Option Value)} {oc__law_source : Value} {doc__law_source : Value} {pm__law_source : Value} {cd__law_source : Value} {ct__law_source : Value} {kV__law_source : Value} {od__law_source an__law_source : Option Addr} {sl__law_source : Array (Option Value)} {oc__law_draw : Value} {doc__law_draw : Value} {pm__law_draw : Value} {cd__law_draw : Value} {ct__law_draw : Value} {kV__law_draw : Value} {od__law_draw an__law_draw : Option Addr} {sl__law_draw : Array (Option Value)} {oc__law_sizes : Value} {doc__law_sizes : Value} {pm__law_sizes : Value} {cd__law_sizes : Value} {ct__law_sizes : Value} {kV__law_sizes : Value} {od__law_sizes an__law_sizes : Option Addr} {sl__law_sizes : Array (Option Value)} {oc_LimitExceeded___init__ : Value} {doc_LimitExceeded___init__ : Value} {pm_LimitExceeded___init__ : Value} {cd_LimitExceeded___init__ : Value} {ct_LimitExceeded___init__ : Value} {kV_LimitExceeded___init__ : Value} {od_LimitExceeded___init__ an_LimitExceeded___init__ : Option Addr} {sl_LimitExceeded___init__ : Array (Option Value)} {oc_BadGrammar___init__ : Value} {doc_BadGrammar___init__ : Value} {pm_BadGrammar___init__ : Value} {cd_BadGrammar___init__ : Value} {ct_BadGrammar___init__ : Value} {kV_BadGrammar___init__ : Value} {od_BadGrammar___init__ an_BadGrammar___init__ : Option Addr} {sl_BadGrammar___init__ : Array (Option Value)} {oc__law_names : Value} {doc__law_names : Value} {pm__law_names : Value} {cd__law_names : Value} {ct__law_names : Value} {kV__law_names : Value} {od__law_names an__law_names : Option Addr} {sl__law_names : Array (Option Value)} {oc__law_changed : Value} {doc__law_changed : Value} {pm__law_changed : Value} {cd__law_changed : Value} {ct__law_changed : Value} {kV__law_changed : Value} {od__law_changed an__law_changed : Option Addr} {sl__law_changed : Array (Option Value)} {oc__law_due : Value} {doc__law_due : Value} {pm__law_due : Value} {cd__law_due : Value} {ct__law_due : Value} {kV__law_due : Value} {od__law_due an__law_due : Option Addr} {sl__law_due : Array (Option Value)} {oc__check_fields : Value} {doc__check_fields : Value} {pm__check_fields : Value} {cd__check_fields : Value} {ct__check_fields : Value} {kV__check_fields : Value} {od__check_fields an__check_fields : Option Addr} {sl__check_fields : Array (Option Value)} {oc__check_kinds : Value} {doc__check_kinds : Value} {pm__check_kinds : Value} {cd__check_kinds : Value} {ct__check_kinds : Value} {kV__check_kinds : Value} {od__check_kinds an__check_kinds : Option Addr} {sl__check_kinds : Array (Option Value)} {oc__law_kinds : Value} {doc__law_kinds : Value} {pm__law_kinds : Value} {cd__law_kinds : Value} {ct__law_kinds : Value} {kV__law_kinds : Value} {od__law_kinds an__law_kinds : Option Addr} {sl__law_kinds : Array (Option Value)} {oc_Grammar___init__ : Value} {doc_Grammar___init__ : Value} {pm_Grammar___init__ : Value} {cd_Grammar___init__ : Value} {ct_Grammar___init__ : Value} {kd_Grammar___init__ : Addr} {od_Grammar___init__ an_Grammar___init__ : Option Addr} {sl_Grammar___init__ : Array (Option Value)} {oc__law_told : Value} {doc__law_told : Value} {pm__law_told : Value} {cd__law_told : Value} {ct__law_told : Value} {kV__law_told : Value} {od__law_told an__law_told : Option Addr} {sl__law_told : Array (Option Value)} {oc_law : Value} {doc_law : Value} {pm_law : Value} {cd_law : Value} {ct_law : Value} {kV_law : Value} {od_law an_law : Option Addr} {sl_law : Array (Option Value)} {nm_LimitExceeded qn_LimitExceeded : Str} {N_LimitExceeded : Addr} {bs_LimitExceeded sb_LimitExceeded : List Value} {sn_LimitExceeded : List Str} {ab_LimitExceeded : Bool} {col_LimitExceeded : Option Bool} {dd_LimitExceeded : Option Addr} {m0_LimitExceeded m1_LimitExceeded m2_LimitExceeded m3_LimitExceeded m5_LimitExceeded : Option Value} {nm_BadGrammar qn_BadGrammar : Str} {N_BadGrammar : Addr} {bs_BadGrammar sb_BadGrammar : List Value} {sn_BadGrammar : List Str} {ab_BadGrammar : Bool} {col_BadGrammar : Option Bool} {dd_BadGrammar : Option Addr} {m0_BadGrammar m1_BadGrammar m2_BadGrammar m3_BadGrammar m5_BadGrammar : Option Value} {t_Grammar_MOST_FIELDS : Tok} {t_Grammar_MOST_KINDS : Tok} {t_Grammar_MOST_CHILDREN : Tok} {t_Grammar_MOST_FAMILIES : Tok}
    (a_LimitExceeded : PySem.W.nsIn K mainGlobals "LimitExceeded" = some (some (.ref c_LimitExceeded)))
    (a_BadGrammar : PySem.W.nsIn K mainGlobals "BadGrammar" = some (some (.ref c_BadGrammar)))
    (a_Grammar : PySem.W.nsIn K mainGlobals "Grammar" = some (some (.ref c_Grammar)))
    (a_WalkError : PySem.W.nsIn K mainGlobals "WalkError" = some (some (.ref c_WalkError)))
    (a__in_order : PySem.W.nsIn K mainGlobals "_in_order" = some (some (.ref f__in_order)))
    (l__in_order : K.lookup f__in_order = some ⟨oc__in_order, od__in_order, .func (PySem.W.fnOf "_in_order" "_in_order" (defArgs s__in_order) (defBody s__in_order) (defScope s__in_order) .none kV__in_order doc__in_order pm__in_order an__in_order cd__in_order ct__in_order), sl__in_order⟩)
    (cc__in_order : PySem.W.codeIn K cd__in_order "_in_order" = true)
    (kk__in_order : PySem.W.keepIn K (.ref f__in_order) = true)
    (a__least_sizes : PySem.W.nsIn K mainGlobals "_least_sizes" = some (some (.ref f__least_sizes)))
    (l__least_sizes : K.lookup f__least_sizes = some ⟨oc__least_sizes, od__least_sizes, .func (PySem.W.fnOf "_least_sizes" "_least_sizes" (defArgs s__least_sizes) (defBody s__least_sizes) (defScope s__least_sizes) .none kV__least_sizes doc__least_sizes pm__least_sizes an__least_sizes cd__least_sizes ct__least_sizes), sl__least_sizes⟩)
    (cc__least_sizes : PySem.W.codeIn K cd__least_sizes "_least_sizes" = true)
    (kk__least_sizes : PySem.W.keepIn K (.ref f__least_sizes) = true)
    (a__law_source : PySem.W.nsIn K mainGlobals "_law_source" = some (some (.ref f__law_source)))
    (l__law_source : K.lookup f__law_source = some ⟨oc__law_source, od__law_source, .func (PySem.W.fnOf "_law_source" "_law_source" (defArgs s__law_source) (defBody s__law_source) (defScope s__law_source) .none kV__law_source doc__law_source pm__law_source an__law_source cd__law_source ct__law_source), sl__law_source⟩)
    (cc__law_source : PySem.W.codeIn K cd__law_source "_law_source" = true)
    (kk__law_source : PySem.W.keepIn K (.ref f__law_source) = true)
    (a__law_draw : PySem.W.nsIn K mainGlobals "_law_draw" = some (some (.ref f__law_draw)))
    (l__law_draw : K.lookup f__law_draw = some ⟨oc__law_draw, od__law_draw, .func (PySem.W.fnOf "_law_draw" "_law_draw" (defArgs s__law_draw) (defBody s__law_draw) (defScope s__law_draw) .none kV__law_draw doc__law_draw pm__law_draw an__law_draw cd__law_draw ct__law_draw), sl__law_draw⟩)
    (cc__law_draw : PySem.W.codeIn K cd__law_draw "_law_draw" = true)
    (kk__law_draw : PySem.W.keepIn K (.ref f__law_draw) = true)
    (a__law_sizes : PySem.W.nsIn K mainGlobals "_law_sizes" = some (some (.ref f__law_sizes)))
    (l__law_sizes : K.lookup f__law_sizes = some ⟨oc__law_sizes, od__law_sizes, .func (PySem.W.fnOf "_law_sizes" "_law_sizes" (defArgs s__law_sizes) (defBody s__law_sizes) (defScope s__law_sizes) .none kV__law_sizes doc__law_sizes pm__law_sizes an__law_sizes cd__law_sizes ct__law_sizes), sl__law_sizes⟩)
    (cc__law_sizes : PySem.W.codeIn K cd__law_sizes "_law_sizes" = true)
    (kk__law_sizes : PySem.W.keepIn K (.ref f__law_sizes) = true)
    (a_LimitExceeded___init__ : PySem.W.findIn K (.ref c_LimitExceeded) "__init__" = some (some (.ref m_LimitExceeded___init__)))
    (l_LimitExceeded___init__ : K.lookup m_LimitExceeded___init__ = some ⟨oc_LimitExceeded___init__, od_LimitExceeded___init__, .func (PySem.W.fnOf "__init__" "LimitExceeded.__init__" (defArgs s_LimitExceeded___init__) (defBody s_LimitExceeded___init__) (defScope s_LimitExceeded___init__) .none kV_LimitExceeded___init__ doc_LimitExceeded___init__ pm_LimitExceeded___init__ an_LimitExceeded___init__ cd_LimitExceeded___init__ ct_LimitExceeded___init__), sl_LimitExceeded___init__⟩)
    (cc_LimitExceeded___init__ : PySem.W.codeIn K cd_LimitExceeded___init__ "LimitExceeded.__init__" = true)
    (kk_LimitExceeded___init__ : PySem.W.keepIn K (.ref m_LimitExceeded___init__) = true)
    (a_BadGrammar___init__ : PySem.W.findIn K (.ref c_BadGrammar) "__init__" = some (some (.ref m_BadGrammar___init__)))
    (l_BadGrammar___init__ : K.lookup m_BadGrammar___init__ = some ⟨oc_BadGrammar___init__, od_BadGrammar___init__, .func (PySem.W.fnOf "__init__" "BadGrammar.__init__" (defArgs s_BadGrammar___init__) (defBody s_BadGrammar___init__) (defScope s_BadGrammar___init__) .none kV_BadGrammar___init__ doc_BadGrammar___init__ pm_BadGrammar___init__ an_BadGrammar___init__ cd_BadGrammar___init__ ct_BadGrammar___init__), sl_BadGrammar___init__⟩)
    (cc_BadGrammar___init__ : PySem.W.codeIn K cd_BadGrammar___init__ "BadGrammar.__init__" = true)
    (kk_BadGrammar___init__ : PySem.W.keepIn K (.ref m_BadGrammar___init__) = true)
    (a__law_names : PySem.W.nsIn K mainGlobals "_law_names" = some (some (.ref f__law_names)))
    (l__law_names : K.lookup f__law_names = some ⟨oc__law_names, od__law_names, .func (PySem.W.fnOf "_law_names" "_law_names" (defArgs s__law_names) (defBody s__law_names) (defScope s__law_names) .none kV__law_names doc__law_names pm__law_names an__law_names cd__law_names ct__law_names), sl__law_names⟩)
    (cc__law_names : PySem.W.codeIn K cd__law_names "_law_names" = true)
    (kk__law_names : PySem.W.keepIn K (.ref f__law_names) = true)
    (a__law_changed : PySem.W.nsIn K mainGlobals "_law_changed" = some (some (.ref f__law_changed)))
    (l__law_changed : K.lookup f__law_changed = some ⟨oc__law_changed, od__law_changed, .func (PySem.W.fnOf "_law_changed" "_law_changed" (defArgs s__law_changed) (defBody s__law_changed) (defScope s__law_changed) .none kV__law_changed doc__law_changed pm__law_changed an__law_changed cd__law_changed ct__law_changed), sl__law_changed⟩)
    (cc__law_changed : PySem.W.codeIn K cd__law_changed "_law_changed" = true)
    (kk__law_changed : PySem.W.keepIn K (.ref f__law_changed) = true)
    (a__law_due : PySem.W.nsIn K mainGlobals "_law_due" = some (some (.ref f__law_due)))
    (l__law_due : K.lookup f__law_due = some ⟨oc__law_due, od__law_due, .func (PySem.W.fnOf "_law_due" "_law_due" (defArgs s__law_due) (defBody s__law_due) (defScope s__law_due) .none kV__law_due doc__law_due pm__law_due an__law_due cd__law_due ct__law_due), sl__law_due⟩)
    (cc__law_due : PySem.W.codeIn K cd__law_due "_law_due" = true)
    (kk__law_due : PySem.W.keepIn K (.ref f__law_due) = true)
    (a__check_fields : PySem.W.nsIn K mainGlobals "_check_fields" = some (some (.ref f__check_fields)))
    (l__check_fields : K.lookup f__check_fields = some ⟨oc__check_fields, od__check_fields, .func (PySem.W.fnOf "_check_fields" "_check_fields" (defArgs s__check_fields) (defBody s__check_fields) (defScope s__check_fields) .none kV__check_fields doc__check_fields pm__check_fields an__check_fields cd__check_fields ct__check_fields), sl__check_fields⟩)
    (cc__check_fields : PySem.W.codeIn K cd__check_fields "_check_fields" = true)
    (kk__check_fields : PySem.W.keepIn K (.ref f__check_fields) = true)
    (a__check_kinds : PySem.W.nsIn K mainGlobals "_check_kinds" = some (some (.ref f__check_kinds)))
    (l__check_kinds : K.lookup f__check_kinds = some ⟨oc__check_kinds, od__check_kinds, .func (PySem.W.fnOf "_check_kinds" "_check_kinds" (defArgs s__check_kinds) (defBody s__check_kinds) (defScope s__check_kinds) .none kV__check_kinds doc__check_kinds pm__check_kinds an__check_kinds cd__check_kinds ct__check_kinds), sl__check_kinds⟩)
    (cc__check_kinds : PySem.W.codeIn K cd__check_kinds "_check_kinds" = true)
    (kk__check_kinds : PySem.W.keepIn K (.ref f__check_kinds) = true)
    (a__law_kinds : PySem.W.nsIn K mainGlobals "_law_kinds" = some (some (.ref f__law_kinds)))
    (l__law_kinds : K.lookup f__law_kinds = some ⟨oc__law_kinds, od__law_kinds, .func (PySem.W.fnOf "_law_kinds" "_law_kinds" (defArgs s__law_kinds) (defBody s__law_kinds) (defScope s__law_kinds) .none kV__law_kinds doc__law_kinds pm__law_kinds an__law_kinds cd__law_kinds ct__law_kinds), sl__law_kinds⟩)
    (cc__law_kinds : PySem.W.codeIn K cd__law_kinds "_law_kinds" = true)
    (kk__law_kinds : PySem.W.keepIn K (.ref f__law_kinds) = true)
    (a_Grammar___init__ : PySem.W.findIn K (.ref c_Grammar) "__init__" = some (some (.ref m_Grammar___init__)))
    (l_Grammar___init__ : K.lookup m_Grammar___init__ = some ⟨oc_Grammar___init__, od_Grammar___init__, .func (PySem.W.fnOf "__init__" "Grammar.__init__" (defArgs s_Grammar___init__) (defBody s_Grammar___init__) (defScope s_Grammar___init__) .none (.ref kd_Grammar___init__) doc_Grammar___init__ pm_Grammar___init__ an_Grammar___init__ cd_Grammar___init__ ct_Grammar___init__), sl_Grammar___init__⟩)
    (cc_Grammar___init__ : PySem.W.codeIn K cd_Grammar___init__ "Grammar.__init__" = true)
    (kk_Grammar___init__ : PySem.W.keepIn K (.ref m_Grammar___init__) = true)
    (kr_Grammar___init__ : PySem.W.nsIn K kd_Grammar___init__ "root" = some (some .none))
    (a__law_told : PySem.W.nsIn K mainGlobals "_law_told" = some (some (.ref f__law_told)))
    (l__law_told : K.lookup f__law_told = some ⟨oc__law_told, od__law_told, .func (PySem.W.fnOf "_law_told" "_law_told" (defArgs s__law_told) (defBody s__law_told) (defScope s__law_told) .none kV__law_told doc__law_told pm__law_told an__law_told cd__law_told ct__law_told), sl__law_told⟩)
    (cc__law_told : PySem.W.codeIn K cd__law_told "_law_told" = true)
    (kk__law_told : PySem.W.keepIn K (.ref f__law_told) = true)
    (a_law : PySem.W.nsIn K mainGlobals "law" = some (some (.ref f_law)))
    (l_law : K.lookup f_law = some ⟨oc_law, od_law, .func (PySem.W.fnOf "law" "law" (defArgs s_law) (defBody s_law) (defScope s_law) .none kV_law doc_law pm_law an_law cd_law ct_law), sl_law⟩)
    (cc_law : PySem.W.codeIn K cd_law "law" = true)
    (kk_law : PySem.W.keepIn K (.ref f_law) = true)
    (x_LimitExceeded : K.lookup c_LimitExceeded = some (excClassObj nm_LimitExceeded qn_LimitExceeded c_LimitExceeded N_LimitExceeded bs_LimitExceeded [.ref c_WalkError, .type "ValueError", .type "Exception", .type "BaseException", .type "object"] true sn_LimitExceeded sb_LimitExceeded ab_LimitExceeded col_LimitExceeded dd_LimitExceeded m0_LimitExceeded m1_LimitExceeded m2_LimitExceeded m3_LimitExceeded m5_LimitExceeded "ValueError.__new__"))
    (sa_LimitExceeded : PySem.W.findIn K (.ref c_LimitExceeded) "__setattr__" = some (some (.builtin "object.__setattr__")))
    (hs_LimitExceeded : PySem.W.subIn K (.ref c_LimitExceeded) (.type "BaseException") = some true)
    (ht_LimitExceeded : PySem.W.typeIn K (.ref c_LimitExceeded) = some (.type "type"))
    (hk_LimitExceeded : PySem.W.keepIn K (.ref c_LimitExceeded) = true)
    (ti_LimitExceeded : PySem.W.typeIn K (.ref m_LimitExceeded___init__) = some (.type "function"))
    (hd_LimitExceeded : PySem.W.hasDictIn K c_LimitExceeded = true)
    (x_BadGrammar : K.lookup c_BadGrammar = some (excClassObj nm_BadGrammar qn_BadGrammar c_BadGrammar N_BadGrammar bs_BadGrammar [.ref c_WalkError, .type "ValueError", .type "Exception", .type "BaseException", .type "object"] true sn_BadGrammar sb_BadGrammar ab_BadGrammar col_BadGrammar dd_BadGrammar m0_BadGrammar m1_BadGrammar m2_BadGrammar m3_BadGrammar m5_BadGrammar "ValueError.__new__"))
    (sa_BadGrammar : PySem.W.findIn K (.ref c_BadGrammar) "__setattr__" = some (some (.builtin "object.__setattr__")))
    (hs_BadGrammar : PySem.W.subIn K (.ref c_BadGrammar) (.type "BaseException") = some true)
    (ht_BadGrammar : PySem.W.typeIn K (.ref c_BadGrammar) = some (.type "type"))
    (hk_BadGrammar : PySem.W.keepIn K (.ref c_BadGrammar) = true)
    (ti_BadGrammar : PySem.W.typeIn K (.ref m_BadGrammar___init__) = some (.type "function"))
    (hd_BadGrammar : PySem.W.hasDictIn K c_BadGrammar = true)
    (pg_Grammar : PySem.W.plainGet K c_Grammar Str.empty = true)
    (hd_Grammar : PySem.W.hasDictIn K c_Grammar = true)
    (po_Grammar : PySem.W.plainOver K c_Grammar = true)
    (sa_Grammar : PySem.W.findIn K (.ref c_Grammar) "__setattr__" = some (some (.builtin "object.__setattr__")))
    (mk_Grammar : PySem.W.makesIn K c_Grammar = true)
    (hk_Grammar : PySem.W.keepIn K (.ref c_Grammar) = true)
    (if_Grammar___init__ : PySem.W.isFn K (.ref m_Grammar___init__) = true)
    (hs_WalkError : PySem.W.subIn K (.ref c_WalkError) (.type "BaseException") = some true)
    (hd_WalkError : PySem.W.hasDictIn K c_WalkError = true)
    (ht_WalkError : PySem.W.typeIn K (.ref c_WalkError) = some (.type "type"))
    (rd_Grammar : PySem.W.readsIn K c_Grammar (.type "type") = true)
    (ga_Grammar : PySem.W.specialIn K (.ref c_Grammar) "__getattribute__" = some (some (.builtin "type.__getattribute__")))
    (co_Grammar_MOST_FIELDS : PySem.W.findCls K (.ref c_Grammar) (.type "type") "MOST_FIELDS" = some (.val (.int 6 t_Grammar_MOST_FIELDS)))
    (co_Grammar_MOST_KINDS : PySem.W.findCls K (.ref c_Grammar) (.type "type") "MOST_KINDS" = some (.val (.int 8 t_Grammar_MOST_KINDS)))
    (co_Grammar_MOST_CHILDREN : PySem.W.findCls K (.ref c_Grammar) (.type "type") "MOST_CHILDREN" = some (.val (.int 3 t_Grammar_MOST_CHILDREN)))
    (co_Grammar_MOST_FAMILIES : PySem.W.findCls K (.ref c_Grammar) (.type "type") "MOST_FAMILIES" = some (.val (.int 3 t_Grammar_MOST_FAMILIES)))
    (fo_Grammar__children : PySem.W.findIn K (.ref c_Grammar) "_children" = some none)
    (fo_Grammar__families : PySem.W.findIn K (.ref c_Grammar) "_families" = some none)
    (fo_Grammar__sizes : PySem.W.findIn K (.ref c_Grammar) "_sizes" = some none)
    (fo_Grammar_families : PySem.W.findIn K (.ref c_Grammar) "families" = some none)
    (fo_Grammar_fields : PySem.W.findIn K (.ref c_Grammar) "fields" = some none)
    (fo_Grammar_kinds : PySem.W.findIn K (.ref c_Grammar) "kinds" = some none)
    (fo_Grammar_root : PySem.W.findIn K (.ref c_Grammar) "root" = some none)
    (oc_get : PySem.W.specialIn K (.builtin "object.__class__") "__get__" = some (some (.builtin "getset_descriptor.__get__")))
    (oc_tk : PySem.W.takesIn K (.builtin "object.__class__") = some true)
    (nf_LimitExceeded_limit : PySem.W.findIn K (.ref c_LimitExceeded) "limit" = some none)
    (eg_LimitExceeded : PySem.W.findIn K (.ref c_LimitExceeded) "__getattribute__" = some (some (.builtin "BaseException.__getattribute__")))
    (eh_LimitExceeded : PySem.W.findIn K (.ref c_LimitExceeded) "__getattr__" = some none)
    (ea_LimitExceeded : PySem.W.findIn K (.ref c_LimitExceeded) "__class__" = some (some (.builtin "object.__class__")))
    (eo_LimitExceeded : PySem.W.mroIn K c_LimitExceeded (.type "object") = some true)
    (su_LimitExceeded_LimitExceeded : PySem.W.subIn K (.ref c_LimitExceeded) (.ref c_LimitExceeded) = some true)
    (su_LimitExceeded_BadGrammar : PySem.W.subIn K (.ref c_LimitExceeded) (.ref c_BadGrammar) = some false)
    (ki_LimitExceeded_BadGrammar : PySem.W.kitOne K (.ref c_LimitExceeded) (.ref c_BadGrammar) = some false)
    (ki_LimitExceeded_WalkError : PySem.W.kitOne K (.ref c_LimitExceeded) (.ref c_WalkError) = some true)
    (ki_LimitExceeded_ValueError : PySem.W.kitOne K (.ref c_LimitExceeded) (.type "ValueError") = some true)
    (nf_BadGrammar_part : PySem.W.findIn K (.ref c_BadGrammar) "part" = some none)
    (eg_BadGrammar : PySem.W.findIn K (.ref c_BadGrammar) "__getattribute__" = some (some (.builtin "BaseException.__getattribute__")))
    (eh_BadGrammar : PySem.W.findIn K (.ref c_BadGrammar) "__getattr__" = some none)
    (ea_BadGrammar : PySem.W.findIn K (.ref c_BadGrammar) "__class__" = some (some (.builtin "object.__class__")))
    (eo_BadGrammar : PySem.W.mroIn K c_BadGrammar (.type "object") = some true)
    (su_BadGrammar_LimitExceeded : PySem.W.subIn K (.ref c_BadGrammar) (.ref c_LimitExceeded) = some false)
    (su_BadGrammar_BadGrammar : PySem.W.subIn K (.ref c_BadGrammar) (.ref c_BadGrammar) = some true)
    (ki_BadGrammar_BadGrammar : PySem.W.kitOne K (.ref c_BadGrammar) (.ref c_BadGrammar) = some true)
    (ki_BadGrammar_WalkError : PySem.W.kitOne K (.ref c_BadGrammar) (.ref c_WalkError) = some true)
    (ki_BadGrammar_ValueError : PySem.W.kitOne K (.ref c_BadGrammar) (.type "ValueError") = some true)
    (z_ValueError : PySem.W.nsIn K mainGlobals "ValueError" = some none)
    (z_all : PySem.W.nsIn K mainGlobals "all" = some none)
    (z_any : PySem.W.nsIn K mainGlobals "any" = some none)
    (z_int : PySem.W.nsIn K mainGlobals "int" = some none)
    (z_isinstance : PySem.W.nsIn K mainGlobals "isinstance" = some none)
    (z_len : PySem.W.nsIn K mainGlobals "len" = some none)
    (z_list : PySem.W.nsIn K mainGlobals "list" = some none)
    (z_max : PySem.W.nsIn K mainGlobals "max" = some none)
    (z_min : PySem.W.nsIn K mainGlobals "min" = some none)
    (z_range : PySem.W.nsIn K mainGlobals "range" = some none)
    (z_sum : PySem.W.nsIn K mainGlobals "sum" = some none)
    (z_tuple : PySem.W.nsIn K mainGlobals "tuple" = some none)
    : ∃ fd : FuncData, (∀ (s : Shared) (v : Value), BindsTo s fd ⟨[v], []⟩ [("_law_script", v)]) ∧ ∀ base : Heap, K.In base → base.Ns mainGlobals mg → FnOk P Wd.w K mg base (L2.CX P Wd.w) 7 fa fd ["_law_script"] (spOf K lawSp) := by
  have e := hfa.symm.trans (PySem.W.mg_of X G a_law)
  cases e
  have cl_Grammar : Cls K c_Grammar := ⟨pg_Grammar, hd_Grammar, po_Grammar, sa_Grammar⟩
  have T : Txt K mg ⟨c_LimitExceeded, c_BadGrammar, c_Grammar, c_WalkError, f__in_order, f__least_sizes, f__law_source, f__law_draw, f__law_sizes, m_LimitExceeded___init__, m_BadGrammar___init__, f__law_names, f__law_changed, f__law_due, f__check_fields, f__check_kinds, f__law_kinds, m_Grammar___init__, f__law_told, fa⟩ := { g__in_order := PySem.W.mg_of X G a__in_order, k__in_order := kk__in_order, g__least_sizes := PySem.W.mg_of X G a__least_sizes, k__least_sizes := kk__least_sizes, g__law_source := PySem.W.mg_of X G a__law_source, k__law_source := kk__law_source, g__law_draw := PySem.W.mg_of X G a__law_draw, k__law_draw := kk__law_draw, g__law_sizes := PySem.W.mg_of X G a__law_sizes, k__law_sizes := kk__law_sizes, g__law_names := PySem.W.mg_of X G a__law_names, k__law_names := kk__law_names, g__law_changed := PySem.W.mg_of X G a__law_changed, k__law_changed := kk__law_changed, g__law_due := PySem.W.mg_of X G a__law_due, k__law_due := kk__law_due, g__check_fields := PySem.W.mg_of X G a__check_fields, k__check_fields := kk__check_fields, g__check_kinds := PySem.W.mg_of X G a__check_kinds, k__check_kinds := kk__check_kinds, g__law_kinds := PySem.W.mg_of X G a__law_kinds, k__law_kinds := kk__law_kinds, g__law_told := PySem.W.mg_of X G a__law_told, k__law_told := kk__law_told, g_law := PySem.W.mg_of X G a_law, k_law := kk_law, g_LimitExceeded := PySem.W.mg_of X G a_LimitExceeded, ox_LimitExceeded := ⟨⟨_, _, _, _, _, _, _, _, _, _, _, _, _, _, _, x_LimitExceeded, rfl⟩, sa_LimitExceeded, hs_LimitExceeded, ht_LimitExceeded, hk_LimitExceeded⟩, ini_LimitExceeded := a_LimitExceeded___init__, ti_LimitExceeded := ti_LimitExceeded, g_BadGrammar := PySem.W.mg_of X G a_BadGrammar, ox_BadGrammar := ⟨⟨_, _, _, _, _, _, _, _, _, _, _, _, _, _, _, x_BadGrammar, rfl⟩, sa_BadGrammar, hs_BadGrammar, ht_BadGrammar, hk_BadGrammar⟩, ini_BadGrammar := a_BadGrammar___init__, ti_BadGrammar := ti_BadGrammar, g_Grammar := PySem.W.mg_of X G a_Grammar, cl_Grammar := cl_Grammar, mk_Grammar := ⟨mk_Grammar, a_Grammar___init__, if_Grammar___init__, hk_Grammar⟩, g_WalkError := PySem.W.mg_of X G a_WalkError, co_Grammar_MOST_FIELDS := ⟨_, _, ⟨rd_Grammar, ga_Grammar⟩, ⟨co_Grammar_MOST_FIELDS, ⟨_, rfl⟩⟩⟩, co_Grammar_MOST_KINDS := ⟨_, _, ⟨rd_Grammar, ga_Grammar⟩, ⟨co_Grammar_MOST_KINDS, ⟨_, rfl⟩⟩⟩, co_Grammar_MOST_CHILDREN := ⟨_, _, ⟨rd_Grammar, ga_Grammar⟩, ⟨co_Grammar_MOST_CHILDREN, ⟨_, rfl⟩⟩⟩, co_Grammar_MOST_FAMILIES := ⟨_, _, ⟨rd_Grammar, ga_Grammar⟩, ⟨co_Grammar_MOST_FAMILIES, ⟨_, rfl⟩⟩⟩, fo_Grammar__children := ⟨cl_Grammar, fo_Grammar__children⟩, fo_Grammar__families := ⟨cl_Grammar, fo_Grammar__families⟩, fo_Grammar__sizes := ⟨cl_Grammar, fo_Grammar__sizes⟩, fo_Grammar_families := ⟨cl_Grammar, fo_Grammar_families⟩, fo_Grammar_fields := ⟨cl_Grammar, fo_Grammar_fields⟩, fo_Grammar_kinds := ⟨cl_Grammar, fo_Grammar_kinds⟩, fo_Grammar_root := ⟨cl_Grammar, fo_Grammar_root⟩, nf_LimitExceeded_limit := nf_LimitExceeded_limit, xf_LimitExceeded := ⟨eg_LimitExceeded, eh_LimitExceeded, hs_LimitExceeded, hd_LimitExceeded⟩, ec_LimitExceeded := ⟨eg_LimitExceeded, eh_LimitExceeded, hs_LimitExceeded, hd_LimitExceeded, ea_LimitExceeded, oc_get, oc_tk, eo_LimitExceeded⟩, em_LimitExceeded_LimitExceeded := PySem.W.exm_ref hs_LimitExceeded hd_LimitExceeded ht_LimitExceeded su_LimitExceeded_LimitExceeded, em_LimitExceeded_BadGrammar := PySem.W.exm_ref hs_BadGrammar hd_BadGrammar ht_BadGrammar su_LimitExceeded_BadGrammar, ki_LimitExceeded_BadGrammar := ki_LimitExceeded_BadGrammar, ki_LimitExceeded_WalkError := ki_LimitExceeded_WalkError, ki_LimitExceeded_ValueError := ki_LimitExceeded_ValueError, nf_BadGrammar_part := nf_BadGrammar_part, xf_BadGrammar := ⟨eg_BadGrammar, eh_BadGrammar, hs_BadGrammar, hd_BadGrammar⟩, ec_BadGrammar := ⟨eg_BadGrammar, eh_BadGrammar, hs_BadGrammar, hd_BadGrammar, ea_BadGrammar, oc_get, oc_tk, eo_BadGrammar⟩, em_BadGrammar_LimitExceeded := PySem.W.exm_ref hs_LimitExceeded hd_LimitExceeded ht_LimitExceeded su_BadGrammar_LimitExceeded, em_BadGrammar_BadGrammar := PySem.W.exm_ref hs_BadGrammar hd_BadGrammar ht_BadGrammar su_BadGrammar_BadGrammar, ki_BadGrammar_BadGrammar := ki_BadGrammar_BadGrammar, ki_BadGrammar_WalkError := ki_BadGrammar_WalkError, ki_BadGrammar_ValueError := ki_BadGrammar_ValueError, z_ValueError := PySem.W.mg_none_of X G z_ValueError, z_all := PySem.W.mg_none_of X G z_all, z_any := PySem.W.mg_none_of X G z_any, z_int := PySem.W.mg_none_of X G z_int, z_isinstance := PySem.W.mg_none_of X G z_isinstance, z_len := PySem.W.mg_none_of X G z_len, z_list := PySem.W.mg_none_of X G z_list, z_max := PySem.W.mg_none_of X G z_max, z_min := PySem.W.mg_none_of X G z_min, z_range := PySem.W.mg_none_of X G z_range, z_sum := PySem.W.mg_none_of X G z_sum, z_tuple := PySem.W.mg_none_of X G z_tuple }
  have F__in_order := fun_mk (st := s__in_order) l__in_order cc__in_order kk__in_order
  have F__least_sizes := fun_mk (st := s__least_sizes) l__least_sizes cc__least_sizes kk__least_sizes
  have F__law_source := fun_mk (st := s__law_source) l__law_source cc__law_source kk__law_source
  have F__law_draw := fun_mk (st := s__law_draw) l__law_draw cc__law_draw kk__law_draw
  have F__law_sizes := fun_mk (st := s__law_sizes) l__law_sizes cc__law_sizes kk__law_sizes
  have F_LimitExceeded___init__ := fun_mk (st := s_LimitExceeded___init__) l_LimitExceeded___init__ cc_LimitExceeded___init__ kk_LimitExceeded___init__
  have F_BadGrammar___init__ := fun_mk (st := s_BadGrammar___init__) l_BadGrammar___init__ cc_BadGrammar___init__ kk_BadGrammar___init__
  have F__law_names := fun_mk (st := s__law_names) l__law_names cc__law_names kk__law_names
  have F__law_changed := fun_mk (st := s__law_changed) l__law_changed cc__law_changed kk__law_changed
  have F__law_due := fun_mk (st := s__law_due) l__law_due cc__law_due kk__law_due
  have F__check_fields := fun_mk (st := s__check_fields) l__check_fields cc__check_fields kk__check_fields
  have F__check_kinds := fun_mk (st := s__check_kinds) l__check_kinds cc__check_kinds kk__check_kinds
  have F__law_kinds := fun_mk (st := s__law_kinds) l__law_kinds cc__law_kinds kk__law_kinds
  have F_Grammar___init__ := fun_mk (st := s_Grammar___init__) l_Grammar___init__ cc_Grammar___init__ kk_Grammar___init__
  have F__law_told := fun_mk (st := s__law_told) l__law_told cc__law_told kk__law_told
  have F_law := fun_mk (st := s_law) l_law cc_law kk_law
  have b__in_order := F__in_order.binds (ps := ["names"]) fun _ _ _ _ _ _ us hl => match us, hl with | [_], _ => rfl
  have b__least_sizes := F__least_sizes.binds (ps := ["rows"]) fun _ _ _ _ _ _ us hl => match us, hl with | [_], _ => rfl
  have b__law_source := F__law_source.binds (ps := ["_law_script"]) fun _ _ _ _ _ _ us hl => match us, hl with | [_], _ => rfl
  have b__law_draw := F__law_draw.binds (ps := ["_law_source_here", "_law_many"]) fun _ _ _ _ _ _ us hl => match us, hl with | [_, _], _ => rfl
  have b__law_sizes := F__law_sizes.binds (ps := ["_law_kinds_here"]) fun _ _ _ _ _ _ us hl => match us, hl with | [_], _ => rfl
  have b_LimitExceeded___init__ := F_LimitExceeded___init__.binds (ps := ["self", "limit"]) fun _ _ _ _ _ _ us hl => match us, hl with | [_, _], _ => rfl
  have b_BadGrammar___init__ := F_BadGrammar___init__.binds (ps := ["self", "part"]) fun _ _ _ _ _ _ us hl => match us, hl with | [_, _], _ => rfl
  have b__law_names := F__law_names.binds (ps := ["_law_source_here", "_law_count"]) fun _ _ _ _ _ _ us hl => match us, hl with | [_, _], _ => rfl
  have b__law_changed := F__law_changed.binds (ps := ["_law_source_here", "_law_fields", "_law_kinds_here", "_law_root", "_law_fault"]) fun _ _ _ _ _ _ us hl => match us, hl with | [_, _, _, _, _], _ => rfl
  have b__law_due := F__law_due.binds (ps := ["_law_fields", "_law_kinds_here", "_law_root"]) fun _ _ _ _ _ _ us hl => match us, hl with | [_, _, _], _ => rfl
  have b__check_fields := F__check_fields.binds (ps := ["fields"]) fun _ _ _ _ _ _ us hl => match us, hl with | [_], _ => rfl
  have b__check_kinds := F__check_kinds.binds (ps := ["rows", "families"]) fun _ _ _ _ _ _ us hl => match us, hl with | [_, _], _ => rfl
  have b__law_kinds := F__law_kinds.binds (ps := ["_law_source_here", "_law_families", "_law_extra", "_law_width"]) fun _ _ _ _ _ _ us hl => match us, hl with | [_, _, _, _], _ => rfl
  have FD_Grammar___init__ : FunD K "__init__" "Grammar.__init__" (defArgs s_Grammar___init__) (defBody s_Grammar___init__) (defScope s_Grammar___init__) [] [("root", V.non)] m_Grammar___init__ _ := ⟨⟨_, _, .none, .ref kd_Grammar___init__, _, _, _, _, _, _, rfl, l_Grammar___init__, cc_Grammar___init__, .inl ⟨rfl, rfl⟩, .inr ⟨_, rfl, fun z hz => ⟨.none, by rw [List.mem_singleton.mp hz]; exact kr_Grammar___init__, by rw [List.mem_singleton.mp hz]; rfl⟩⟩⟩, kk_Grammar___init__⟩
  obtain ⟨ds_Grammar___init__, v_Grammar___init__, b_Grammar___init__⟩ := FD_Grammar___init__.binds0 (ps := ["self", "fields", "kinds", "root"]) 3 (by simp) rfl fun _ _ _ _ _ _ us ks h1 h2 => match us, h1, ks, h2 with | [_, _, _], _, [_], _ => ⟨_, _, _, _, _, _, rfl, rfl, rfl⟩
  obtain ⟨mv_Grammar___init__, kb_Grammar___init__⟩ := FD_Grammar___init__.kbinds0 (ps := ["self", "fields", "kinds", "root"]) 3 ["root"] [] (fun a _ c => a ++ c) (by simp) (fun _ h => nomatch h) (fun a _ c => a.append c) fun _ _ _ _ _ _ us mv ws h1 h2 h3 => match us, h1, mv, h2, ws, h3 with | [_, _, _], _, [], _, [_], _ => rfl
  have b__law_told := F__law_told.binds (ps := ["_law_fields", "_law_kinds_here", "_law_root"]) fun _ _ _ _ _ _ us hl => match us, hl with | [_, _, _], _ => rfl
  have Ds : Defs K ⟨c_LimitExceeded, c_BadGrammar, c_Grammar, c_WalkError, f__in_order, f__least_sizes, f__law_source, f__law_draw, f__law_sizes, m_LimitExceeded___init__, m_BadGrammar___init__, f__law_names, f__law_changed, f__law_due, f__check_fields, f__check_kinds, f__law_kinds, m_Grammar___init__, f__law_told, fa⟩ := { fu__in_order := ⟨_, F__in_order, b__in_order⟩, fu__least_sizes := ⟨_, F__least_sizes, b__least_sizes⟩, fu__law_source := ⟨_, F__law_source, b__law_source⟩, fu__law_draw := ⟨_, F__law_draw, b__law_draw⟩, fu__law_sizes := ⟨_, F__law_sizes, b__law_sizes⟩, fu_LimitExceeded___init__ := ⟨_, F_LimitExceeded___init__, b_LimitExceeded___init__⟩, fu_BadGrammar___init__ := ⟨_, F_BadGrammar___init__, b_BadGrammar___init__⟩, fu__law_names := ⟨_, F__law_names, b__law_names⟩, fu__law_changed := ⟨_, F__law_changed, b__law_changed⟩, fu__law_due := ⟨_, F__law_due, b__law_due⟩, fu__check_fields := ⟨_, F__check_fields, b__check_fields⟩, fu__check_kinds := ⟨_, F__check_kinds, b__check_kinds⟩, fu__law_kinds := ⟨_, F__law_kinds, b__law_kinds⟩, fu_Grammar___init__ := ⟨_, _, F_Grammar___init__, v_Grammar___init__, b_Grammar___init__, kb_Grammar___init__⟩, fu__law_told := ⟨_, F__law_told, b__law_told⟩ }
  exact ⟨_, fun s v => .of_eq rfl, fun base _ _ => all_ok T Ds F_law⟩

theorem reps_int {K : PySem.W.Frag} {F : Hp} : ∀ ns : List Int, Reps K F (ns.map V.int) (ns.map D.int)
  | [] => .nil
  | n :: ns => .cons (.int n) (reps_int ns)
theorem sp_start {K : PySem.W.Frag} {H : Hp} {a : Addr} {ns : List Int} (hl : ns.length ≤ 63) (hS : SqL K H a (ns.map V.int)) : spOf K lawSp [.ref a] H (fun v _ => v = .bl true) fun _ _ _ => False :=
  ⟨fun _ => none, [], H, [.rol (ns.map .int)], fun d _ => d = .bl true, fun _ _ _ => False, ⟨fun a o e => .inl e, fun a o e => (nomatch e), fun a m hm => (nomatch hm), List.nodup_nil⟩, .cons (.rol hS (reps_int ns)) .nil,
    ⟨ns, rfl, hl, List.nodup_nil, fun _ => rfl⟩, fun d M' F' v H' e s S r => by subst e; cases r; rfl, fun _ _ _ _ _ z => z.elim⟩
end Q
open PySem PySem.W PyProof.Rows
set_option maxRecDepth 100000 in
set_option maxHeartbeats 0 in
theorem PySem.Challenge.cw_fusewalks_k02_grammar_refused_holds : PySem.Challenge.rw_fusewalks_k02_grammar_refused.Holds := by
  w_on; o_law; k_head; (case hw => w_witness2)
  k_fill
  refine L2.walk_of (l := PySem.Challenge.rw_fusewalks_k02_grammar_refused) (n := 63) (k := 7) (x := "_law_script") (CX := fun w => L2.CX PySem.Challenge.rw_fusewalks_k02_grammar_refused.prog w) (sp := fun w => @DL.spOf ⟨w⟩ _ Q.lawSp) rfl (by decide) rfl ⟨rfl, by decide, by decide⟩ (fun w h Y => PySem.W.kIn_of Y) ?F (fun w _ a ns hl _ hS => @Q.sp_start ⟨w⟩ _ _ _ _ hl hS) fun _ _ _ _ _ z => by obtain ⟨_, _, _, _, _, _, _, _, _, _, _, _, z⟩ := z; exact z
  case F =>
    intro w mg fa h KX G hmg
    letI : DL.Wd := ⟨w⟩
    refine' Q.all_mk KX G hmg ?h_a_LimitExceeded ?h_a_BadGrammar ?h_a_Grammar ?h_a_WalkError ?h_a__in_order ?h_l__in_order ?h_cc__in_order ?h_kk__in_order ?h_a__least_sizes ?h_l__least_sizes ?h_cc__least_sizes ?h_kk__least_sizes ?h_a__law_source ?h_l__law_source ?h_cc__law_source ?h_kk__law_source ?h_a__law_draw ?h_l__law_draw ?h_cc__law_draw ?h_kk__law_draw ?h_a__law_sizes ?h_l__law_sizes ?h_cc__law_sizes ?h_kk__law_sizes ?h_a_LimitExceeded___init__ ?h_l_LimitExceeded___init__ ?h_cc_LimitExceeded___init__ ?h_kk_LimitExceeded___init__ ?h_a_BadGrammar___init__ ?h_l_BadGrammar___init__ ?h_cc_BadGrammar___init__ ?h_kk_BadGrammar___init__ ?h_a__law_names ?h_l__law_names ?h_cc__law_names ?h_kk__law_names ?h_a__law_changed ?h_l__law_changed ?h_cc__law_changed ?h_kk__law_changed ?h_a__law_due ?h_l__law_due ?h_cc__law_due ?h_kk__law_due ?h_a__check_fields ?h_l__check_fields ?h_cc__check_fields ?h_kk__check_fields ?h_a__check_kinds ?h_l__check_kinds ?h_cc__check_kinds ?h_kk__check_kinds ?h_a__law_kinds ?h_l__law_kinds ?h_cc__law_kinds ?h_kk__law_kinds ?h_a_Grammar___init__ ?h_l_Grammar___init__ ?h_cc_Grammar___init__ ?h_kk_Grammar___init__ ?h_kr_Grammar___init__ ?h_a__law_told ?h_l__law_told ?h_cc__law_told ?h_kk__law_told ?h_a_law ?h_l_law ?h_cc_law ?h_kk_law ?h_x_LimitExceeded ?h_sa_LimitExceeded ?h_hs_LimitExceeded ?h_ht_LimitExceeded ?h_hk_LimitExceeded ?h_ti_LimitExceeded ?h_hd_LimitExceeded ?h_x_BadGrammar ?h_sa_BadGrammar ?h_hs_BadGrammar ?h_ht_BadGrammar ?h_hk_BadGrammar ?h_ti_BadGrammar ?h_hd_BadGrammar ?h_pg_Grammar ?h_hd_Grammar ?h_po_Grammar ?h_sa_Grammar ?h_mk_Grammar ?h_hk_Grammar ?h_if_Grammar___init__ ?h_hs_WalkError ?h_hd_WalkError ?h_ht_WalkError ?h_rd_Grammar ?h_ga_Grammar ?h_co_Grammar_MOST_FIELDS ?h_co_Grammar_MOST_KINDS ?h_co_Grammar_MOST_CHILDREN ?h_co_Grammar_MOST_FAMILIES ?h_fo_Grammar__children ?h_fo_Grammar__families ?h_fo_Grammar__sizes ?h_fo_Grammar_families ?h_fo_Grammar_fields ?h_fo_Grammar_kinds ?h_fo_Grammar_root ?h_oc_get ?h_oc_tk ?h_nf_LimitExceeded_limit ?h_eg_LimitExceeded ?h_eh_LimitExceeded ?h_ea_LimitExceeded ?h_eo_LimitExceeded ?h_su_LimitExceeded_LimitExceeded ?h_su_LimitExceeded_BadGrammar ?h_ki_LimitExceeded_BadGrammar ?h_ki_LimitExceeded_WalkError ?h_ki_LimitExceeded_ValueError ?h_nf_BadGrammar_part ?h_eg_BadGrammar ?h_eh_BadGrammar ?h_ea_BadGrammar ?h_eo_BadGrammar ?h_su_BadGrammar_LimitExceeded ?h_su_BadGrammar_BadGrammar ?h_ki_BadGrammar_BadGrammar ?h_ki_BadGrammar_WalkError ?h_ki_BadGrammar_ValueError ?h_z_ValueError ?h_z_all ?h_z_any ?h_z_int ?h_z_isinstance ?h_z_len ?h_z_list ?h_z_max ?h_z_min ?h_z_range ?h_z_sum ?h_z_tuple
    (case h_a_LimitExceeded => k_is)
    (case h_a_BadGrammar => k_is)
    (case h_a_Grammar => k_is)
    (case h_a_WalkError => k_is)
    (case h_a__in_order => k_is)
    (case h_l__in_order => k_is)
    (case h_cc__in_order => k_is)
    (case h_kk__in_order => k_is)
    (case h_a__least_sizes => k_is)
    (case h_l__least_sizes => k_is)
    (case h_cc__least_sizes => k_is)
    (case h_kk__least_sizes => k_is)
    (case h_a__law_source => k_is)
    (case h_l__law_source => k_is)
    (case h_cc__law_source => k_is)
    (case h_kk__law_source => k_is)
    (case h_a__law_draw => k_is)
    (case h_l__law_draw => k_is)
    (case h_cc__law_draw => k_is)
    (case h_kk__law_draw => k_is)
    (case h_a__law_sizes => k_is)
    (case h_l__law_sizes => k_is)
    (case h_cc__law_sizes => k_is)
    (case h_kk__law_sizes => k_is)
    (case h_a_LimitExceeded___init__ => k_is)
    (case h_l_LimitExceeded___init__ => k_is)
    (case h_cc_LimitExceeded___init__ => k_is)
    (case h_kk_LimitExceeded___init__ => k_is)
    (case h_a_BadGrammar___init__ => k_is)
    (case h_l_BadGrammar___init__ => k_is)
    (case h_cc_BadGrammar___init__ => k_is)
    (case h_kk_BadGrammar___init__ => k_is)
    (case h_a__law_names => k_is)
    (case h_l__law_names => k_is)
    (case h_cc__law_names => k_is)
    (case h_kk__law_names => k_is)
    (case h_a__law_changed => k_is)
    (case h_l__law_changed => k_is)
    (case h_cc__law_changed => k_is)
    (case h_kk__law_changed => k_is)
    (case h_a__law_due => k_is)
    (case h_l__law_due => k_is)
    (case h_cc__law_due => k_is)
    (case h_kk__law_due => k_is)
    (case h_a__check_fields => k_is)
    (case h_l__check_fields => k_is)
    (case h_cc__check_fields => k_is)
    (case h_kk__check_fields => k_is)
    (case h_a__check_kinds => k_is)
    (case h_l__check_kinds => k_is)
    (case h_cc__check_kinds => k_is)
    (case h_kk__check_kinds => k_is)
    (case h_a__law_kinds => k_is)
    (case h_l__law_kinds => k_is)
    (case h_cc__law_kinds => k_is)
    (case h_kk__law_kinds => k_is)
    (case h_a_Grammar___init__ => k_is)
    (case h_l_Grammar___init__ => k_is)
    (case h_cc_Grammar___init__ => k_is)
    (case h_kk_Grammar___init__ => k_is)
    (case h_kr_Grammar___init__ => k_is)
    (case h_a__law_told => k_is)
    (case h_l__law_told => k_is)
    (case h_cc__law_told => k_is)
    (case h_kk__law_told => k_is)
    (case h_a_law => k_is)
    (case h_l_law => k_is)
    (case h_cc_law => k_is)
    (case h_kk_law => k_is)
    (case h_x_LimitExceeded => k_is)
    (case h_sa_LimitExceeded => k_is)
    (case h_hs_LimitExceeded => k_is)
    (case h_ht_LimitExceeded => k_is)
    (case h_hk_LimitExceeded => k_is)
    (case h_ti_LimitExceeded => k_is)
    (case h_hd_LimitExceeded => k_is)
    (case h_x_BadGrammar => k_is)
    (case h_sa_BadGrammar => k_is)
    (case h_hs_BadGrammar => k_is)
    (case h_ht_BadGrammar => k_is)
    (case h_hk_BadGrammar => k_is)
    (case h_ti_BadGrammar => k_is)
    (case h_hd_BadGrammar => k_is)
    (case h_pg_Grammar => k_is)
    (case h_hd_Grammar => k_is)
    (case h_po_Grammar => k_is)
    (case h_sa_Grammar => k_is)
    (case h_mk_Grammar => k_is)
    (case h_hk_Grammar => k_is)
    (case h_if_Grammar___init__ => k_is)
    (case h_hs_WalkError => k_is)
    (case h_hd_WalkError => k_is)
    (case h_ht_WalkError => k_is)
    (case h_rd_Grammar => k_is)
    (case h_ga_Grammar => k_is)
    (case h_co_Grammar_MOST_FIELDS => k_is)
    (case h_co_Grammar_MOST_KINDS => k_is)
    (case h_co_Grammar_MOST_CHILDREN => k_is)
    (case h_co_Grammar_MOST_FAMILIES => k_is)
    (case h_fo_Grammar__children => k_is)
    (case h_fo_Grammar__families => k_is)
    (case h_fo_Grammar__sizes => k_is)
    (case h_fo_Grammar_families => k_is)
    (case h_fo_Grammar_fields => k_is)
    (case h_fo_Grammar_kinds => k_is)
    (case h_fo_Grammar_root => k_is)
    (case h_oc_get => k_is)
    (case h_oc_tk => k_is)
    (case h_nf_LimitExceeded_limit => k_is)
    (case h_eg_LimitExceeded => k_is)
    (case h_eh_LimitExceeded => k_is)
    (case h_ea_LimitExceeded => k_is)
    (case h_eo_LimitExceeded => k_is)
    (case h_su_LimitExceeded_LimitExceeded => first | rfl | k_is)
    (case h_su_LimitExceeded_BadGrammar => first | rfl | k_is)
    (case h_ki_LimitExceeded_BadGrammar => first | kit_is | k_is)
    (case h_ki_LimitExceeded_WalkError => first | kit_is | k_is)
    (case h_ki_LimitExceeded_ValueError => first | kit_is | k_is)
    (case h_nf_BadGrammar_part => k_is)
    (case h_eg_BadGrammar => k_is)
    (case h_eh_BadGrammar => k_is)
    (case h_ea_BadGrammar => k_is)
    (case h_eo_BadGrammar => k_is)
    (case h_su_BadGrammar_LimitExceeded => first | rfl | k_is)
    (case h_su_BadGrammar_BadGrammar => first | rfl | k_is)
    (case h_ki_BadGrammar_BadGrammar => first | kit_is | k_is)
    (case h_ki_BadGrammar_WalkError => first | kit_is | k_is)
    (case h_ki_BadGrammar_ValueError => first | kit_is | k_is)
    (case h_z_ValueError => k_is)
    (case h_z_all => k_is)
    (case h_z_any => k_is)
    (case h_z_int => k_is)
    (case h_z_isinstance => k_is)
    (case h_z_len => k_is)
    (case h_z_list => k_is)
    (case h_z_max => k_is)
    (case h_z_min => k_is)
    (case h_z_range => k_is)
    (case h_z_sum => k_is)
    (case h_z_tuple => k_is)
