import PyProof.Rows.All
import Wide.All
import OpenK.AllK
import Wide.FinOn
import HandS.ForMost
import HandS.ForExc
import HandS.Defaults
import HandS.Star
import HandS.MakeKw
import HandS.MakeKwOnly
import HandS.TryMany
import HandS.ExcField
import HandS.ExcIs
import HandS.ExcInit
import HandS.IsInst
import HandS.FStr
import HandS.Strs
import HandS.Wide
import HandS.CallSlots
import HandS.Evl
import HandS.Steps
import KE.DataEq
import KE.SortData
import PyProof.ReprRoads
import PyProof.Rows.FactsExc_KeyError
import PyProof.ExcBaseAll.LookupError
import PyProof.ExcBaseAll.RuntimeError
import PyProof.ExcBaseAll.IndexError
import PyProof.ExcBaseAll.OverflowError
import PyProof.ExcBaseAll.ValueError
import HandS.ClsMeth
import HandS.Ends
import HandS.HeadEnd
import HandS.HeadHook1
import HandS.HeadHook2
import HandS.Head0
import HandS.Head1
import HandS.Head2
import HandS.OwnEq
import HandS.TupAny
import HandS.DictComp
import PyProof.DictFindH
import PyProof.DictRoadsH
import HandS.Iter
import HandS.TupLen
import OpenK.KOps
import OpenK.KMeth
import HandS.Style
import HandS.More
import HandS.Conv
import PySem.Challenge.RW_keyactions_k03_schemas_made
section
set_option autoImplicit false
set_option Elab.async false
set_option linter.all false
set_option autoImplicit false
set_option maxRecDepth 100000
set_option maxHeartbeats 1000000
/-! Pd0: data without addresses, and how they stand in the heap. -/
namespace Pd
open PySem PySem.Spec PyProof.Rows L2

/-- data: what a value is, deep, without addresses -/
inductive D where
  | non | bl (b : Bool) | int (i : Int) | str (x : Str)
  | lst (xs : List D) | tup (xs : List D)
  | ins (C : Addr) (ns : List Str) (xs : List D)
  | dk (ks : List Key) (xs : List D)
  | dt (ks : List (List Key)) (xs : List D)
  | scr (ns : List Int)
  | cst (xs : List D)

mutual
/-- v stands for d in the heap P -/
def Rp (K : PySem.W.Frag) (P : Hp) : D → V → Prop
  | .non, v => v = .non
  | .bl b, v => v = .bl b
  | .int i, v => v = .int i
  | .str x, v => v = .str x
  | .lst ds, v => ∃ a xs, v = .ref a ∧ P a = some (.lst xs) ∧ RpL K P ds xs
  | .tup ds, v => ∃ a xs, v = .ref a ∧ P a = some (.tup xs) ∧ RpL K P ds xs
  | .cst ds, v => ∃ a xs, v = .ref a ∧ SqT K P a xs ∧ RpL K P ds xs
  | .ins C ns ds, v => ∃ a dx xs, v = .ref a ∧ P a = some (.ins C dx (ns.zip xs)) ∧ xs.length = ns.length ∧ RpL K P ds xs
  | .dk ks ds, v => ∃ a xs o, v = .ref a ∧ P a = some (.frz o (.dK (ks.zip xs))) ∧ xs.length = ks.length ∧ RpL K P ds xs
  | .dt ks ds, v => ∃ a xs o, v = .ref a ∧ P a = some (.frz o (.dT (ks.zip xs))) ∧ xs.length = ks.length ∧ RpL K P ds xs
  | .scr ns, v => ∃ a, v = .ref a ∧ SqL K P a (ns.map V.int)
def RpL (K : PySem.W.Frag) (P : Hp) : List D → List V → Prop
  | [], vs => vs = []
  | d :: ds, vs => ∃ v r, vs = v :: r ∧ Rp K P d v ∧ RpL K P ds r
end

/-- P is a part of H -/
def Sub (P H : Hp) : Prop := ∀ a o, P a = some o → H a = some o
theorem Sub.refl (H : Hp) : Sub H H := fun _ _ h => h
theorem Sub.trans {A B C : Hp} (x : Sub A B) (y : Sub B C) : Sub A C := fun a o h => y a o (x a o h)

theorem sub_rd {P H : Hp} {a : Addr} {u : HO} (e : Sub P H) (h : Rd P a u) : Rd H a u := by
  rcases h with h | ⟨o, h⟩
  · exact .inl (e a _ h)
  · exact .inr ⟨o, e a _ h⟩
theorem sub_l {K : PySem.W.Frag} {P H : Hp} {a : Addr} {xs : List V} (e : Sub P H) (h : SqL K P a xs) : SqL K H a xs := by
  rcases h with h | h
  · exact .inl (sub_rd e h)
  · exact .inr h
theorem sub_t {K : PySem.W.Frag} {P H : Hp} {a : Addr} {xs : List V} (e : Sub P H) (h : SqT K P a xs) : SqT K H a xs := by
  rcases h with h | h
  · exact .inl (sub_rd e h)
  · exact .inr h
mutual
theorem Rp.mono {K : PySem.W.Frag} {P H : Hp} (e : Sub P H) : ∀ (d : D) (v : V), Rp K P d v → Rp K H d v
  | .non, _, h => h
  | .bl _, _, h => h
  | .int _, _, h => h
  | .str _, _, h => h
  | .lst ds, _, h => by
    obtain ⟨a, xs, ev, hs, ha⟩ := h
    exact ⟨a, xs, ev, e _ _ hs, RpL.mono e ds xs ha⟩
  | .tup ds, _, h => by
    obtain ⟨a, xs, ev, hs, ha⟩ := h
    exact ⟨a, xs, ev, e _ _ hs, RpL.mono e ds xs ha⟩
  | .cst ds, _, h => by
    obtain ⟨a, xs, ev, hs, ha⟩ := h
    exact ⟨a, xs, ev, sub_t e hs, RpL.mono e ds xs ha⟩
  | .ins C ns ds, _, h => by
    obtain ⟨a, dx, xs, ev, hs, hl, ha⟩ := h
    exact ⟨a, dx, xs, ev, e _ _ hs, hl, RpL.mono e ds xs ha⟩
  | .dk ks ds, _, h => by
    obtain ⟨a, xs, o, ev, hs, hl, ha⟩ := h
    exact ⟨a, xs, o, ev, e _ _ hs, hl, RpL.mono e ds xs ha⟩
  | .scr ns, _, h => by
    obtain ⟨a, rfl, h⟩ := h
    exact ⟨a, rfl, sub_l e h⟩
  | .dt ks ds, _, h => by
    obtain ⟨a, xs, o, ev, hs, hl, ha⟩ := h
    exact ⟨a, xs, o, ev, e _ _ hs, hl, RpL.mono e ds xs ha⟩
theorem RpL.mono {K : PySem.W.Frag} {P H : Hp} (e : Sub P H) : ∀ (ds : List D) (vs : List V), RpL K P ds vs → RpL K H ds vs
  | [], _, h => h
  | d :: ds, _, h => by
    obtain ⟨v, r, ev, h1, h2⟩ := h
    exact ⟨v, r, ev, Rp.mono e d v h1, RpL.mono e ds r h2⟩
end
theorem RpL.length {K : PySem.W.Frag} {P : Hp} : ∀ {ds : List D} {vs : List V}, RpL K P ds vs → vs.length = ds.length
  | [], _, h => by
    cases h
    rfl
  | _ :: ds, _, h => by
    obtain ⟨v, r, rfl, _, h2⟩ := h
    simp [RpL.length h2]
theorem RpL.get {K : PySem.W.Frag} {P : Hp} : ∀ {ds : List D} {vs : List V} {i : Nat} {v : V}, RpL K P ds vs → vs[i]? = some v → ∃ d, ds[i]? = some d ∧ Rp K P d v
  | [], _, _, _, h, e => by
    cases h
    simp at e
  | d :: ds, _, 0, v, h, e => by
    obtain ⟨w, r, rfl, h1, _⟩ := h
    simp at e
    subst e
    exact ⟨d, rfl, h1⟩
  | d :: ds, _, i + 1, v, h, e => by
    obtain ⟨w, r, rfl, _, h2⟩ := h
    exact RpL.get (i := i) h2 (by simpa using e)
theorem RpL.getD {K : PySem.W.Frag} {P : Hp} {ds : List D} {vs : List V} {i : Nat} {d : D} (h : RpL K P ds vs) (e : ds[i]? = some d) : ∃ v, vs[i]? = some v ∧ Rp K P d v := by
  have hl := h.length
  have hi : i < ds.length := (List.getElem?_eq_some_iff.mp e).1
  obtain ⟨d', e', r⟩ := h.get (i := i) (v := vs[i]'(by omega)) (by simp [hl, hi])
  rw [e] at e'
  cases e'
  exact ⟨_, by simp [hl, hi], r⟩
theorem RpL.append {K : PySem.W.Frag} {P : Hp} : ∀ {ds es : List D} {vs ws : List V}, RpL K P ds vs → RpL K P es ws → RpL K P (ds ++ es) (vs ++ ws)
  | [], _, _, _, h, g => by
    cases h
    exact g
  | d :: ds, _, _, _, h, g => by
    obtain ⟨v, r, rfl, h1, h2⟩ := h
    exact ⟨v, _, rfl, h1, RpL.append h2 g⟩
theorem RpL.take {K : PySem.W.Frag} {P : Hp} : ∀ {ds : List D} {vs : List V} (n : Nat), RpL K P ds vs → RpL K P (ds.take n) (vs.take n)
  | [], _, n, h => by
    cases h
    cases n <;> rfl
  | d :: ds, _, 0, _ => by
    show RpL K P [] _
    simp [RpL]
  | d :: ds, _, n + 1, h => by
    obtain ⟨v, r, rfl, h1, h2⟩ := h
    exact ⟨v, _, rfl, h1, RpL.take n h2⟩
theorem RpL.drop {K : PySem.W.Frag} {P : Hp} : ∀ {ds : List D} {vs : List V} (n : Nat), RpL K P ds vs → RpL K P (ds.drop n) (vs.drop n)
  | [], _, n, h => by
    cases h
    cases n <;> rfl
  | d :: ds, _, 0, h => h
  | d :: ds, _, n + 1, h => by
    obtain ⟨v, r, rfl, h1, h2⟩ := h
    exact RpL.drop n h2

theorem sqT_of {K : PySem.W.Frag} {P : Hp} {a : Addr} {xs : List V} (h : P a = some (.tup xs)) : SqT K P a xs := .inl (.inl h)
/-! ### data that are the library's PyData -/
mutual
@[simp] def D.py : D → Option PyData
  | .non => some .none
  | .bl b => some (.bool b)
  | .int i => some (.int i)
  | .str x => some (.str x)
  | .lst ds => (D.pyL ds).map .list
  | .tup ds => (D.pyL ds).map .tuple
  | .cst ds => (D.pyL ds).map .tuple
  | .ins _ _ _ => none
  | .dk _ _ => none
  | .dt _ _ => none
  | .scr _ => none
@[simp] def D.pyL : List D → Option (List PyData)
  | [] => some []
  | d :: ds => match d.py, D.pyL ds with
    | some p, some ps => some (p :: ps)
    | _, _ => none
end
mutual
theorem Rp.dp {K : PySem.W.Frag} {P : Hp} : ∀ (d : D) (p : PyData) (v : V), d.py = some p → Rp K P d v → Dp K P v p
  | .non, p, v, e, h => by
    cases e
    cases h
    exact .non
  | .bl b, p, v, e, h => by
    cases e
    cases h
    exact .bl b
  | .int i, p, v, e, h => by
    cases e
    cases h
    exact .int i
  | .str x, p, v, e, h => by
    cases e
    cases h
    exact .str x
  | .lst ds, p, v, e, h => by
    obtain ⟨a, xs, rfl, hs, ha⟩ := h
    simp only [D.py, Option.map_eq_some_iff] at e
    obtain ⟨ps, e1, rfl⟩ := e
    exact .lst (SqL.of hs) (RpL.dp ds ps xs e1 ha)
  | .tup ds, p, v, e, h => by
    obtain ⟨a, xs, rfl, hs, ha⟩ := h
    simp only [D.py, Option.map_eq_some_iff] at e
    obtain ⟨ps, e1, rfl⟩ := e
    exact .tup (.inl (.inl hs)) (RpL.dp ds ps xs e1 ha)
  | .cst ds, p, v, e, h => by
    obtain ⟨a, xs, rfl, hs, ha⟩ := h
    simp only [D.py, Option.map_eq_some_iff] at e
    obtain ⟨ps, e1, rfl⟩ := e
    exact .tup hs (RpL.dp ds ps xs e1 ha)
  | .ins _ _ _, p, v, e, _ => by simp [D.py] at e
  | .dk _ _, p, v, e, _ => by simp [D.py] at e
  | .dt _ _, p, v, e, _ => by simp [D.py] at e
  | .scr _, p, v, e, _ => by simp [D.py] at e
theorem RpL.dp {K : PySem.W.Frag} {P : Hp} : ∀ (ds : List D) (ps : List PyData) (vs : List V), D.pyL ds = some ps → RpL K P ds vs → DpAll K P vs ps
  | [], ps, vs, e, h => by
    cases e
    cases h
    exact .nil
  | d :: ds, ps, vs, e, h => by
    obtain ⟨v, r, rfl, h1, h2⟩ := h
    simp only [D.pyL] at e
    cases e1 : d.py with
    | none =>
      rw [e1] at e
      simp at e
    | some p =>
      cases e2 : D.pyL ds with
      | none =>
        rw [e1, e2] at e
        simp at e
      | some qs =>
        rw [e1, e2] at e
        cases e
        exact .cons (Rp.dp d p v e1 h1) (RpL.dp ds qs r e2 h2)
end
mutual
theorem D.py_plain : ∀ (d : D) (p : PyData), d.py = some p → p.plain = true
  | .non, p, e => by
    cases e
    rfl
  | .bl b, p, e => by
    cases e
    rfl
  | .int i, p, e => by
    cases e
    rfl
  | .str x, p, e => by
    cases e
    rfl
  | .lst ds, p, e => by
    simp only [D.py, Option.map_eq_some_iff] at e
    obtain ⟨ps, e1, rfl⟩ := e
    exact D.pyL_plain ds ps e1
  | .tup ds, p, e => by
    simp only [D.py, Option.map_eq_some_iff] at e
    obtain ⟨ps, e1, rfl⟩ := e
    exact D.pyL_plain ds ps e1
  | .cst ds, p, e => by
    simp only [D.py, Option.map_eq_some_iff] at e
    obtain ⟨ps, e1, rfl⟩ := e
    exact D.pyL_plain ds ps e1
  | .ins _ _ _, p, e => by simp [D.py] at e
  | .dk _ _, p, e => by simp [D.py] at e
  | .dt _ _, p, e => by simp [D.py] at e
  | .scr _, p, e => by simp [D.py] at e
theorem D.pyL_plain : ∀ (ds : List D) (ps : List PyData), D.pyL ds = some ps → PyData.plainAll ps = true
  | [], ps, e => by
    cases e
    rfl
  | d :: ds, ps, e => by
    simp only [D.pyL] at e
    cases e1 : d.py with
    | none =>
      rw [e1] at e
      simp at e
    | some p =>
      cases e2 : D.pyL ds with
      | none =>
        rw [e1, e2] at e
        simp at e
      | some qs =>
        rw [e1, e2] at e
        cases e
        simp only [PyData.plainAll, Bool.and_eq_true]
        exact ⟨D.py_plain d p e1, D.pyL_plain ds qs e2⟩
end
end Pd
end
section
set_option autoImplicit false
set_option Elab.async false
set_option linter.all false
set_option autoImplicit false
set_option maxRecDepth 100000
set_option maxHeartbeats 1000000
/-! Pd1: slots, frames, the judgements over data. -/
namespace Pd
open PySem PySem.Spec PyProof.Rows L2

/-- an exception: its class, its fields -/
structure Xd where
  C : Addr
  ns : List Str
  ds : List D
/-- what a slot holds: nothing, data, a list of the frame's own (nobody else knows it), the draws (n more may be made), the instance that is being made -/
inductive Sl where
  | un | dat (d : D) | own (xs : List D) | bag (n : Nat) | slf (C : Addr) (ns : List Str) (xs : List D) | exc (x : Xd) | dct (d : D)
def Sl.addr : Sl → Bool
  | .own _ => true
  | .bag _ => true
  | .slf _ _ _ => true
  | .dct _ => true
  | _ => false
abbrev Sv := List Sl
abbrev DX := Xd → Sv → Prop
abbrev De := Sv → (D → Sv → Prop) → DX → Prop
/-- what may be met at a: nothing, or the tuple that stands there -/
def NewAt (H : Hp) (a : Addr) (o : HO) : Prop := H a = none ∨ ∃ xs, o = .tup xs ∧ H a = some (.tup xs)
theorem NewAt.no {H : Hp} {a : Addr} {o u : HO} (h : NewAt H a o) (e : H a = some u) (n : ∀ xs, u ≠ .tup xs) : False := by
  rcases h with h | ⟨xs, _, h⟩
  · rw [h] at e; cases e
  · rw [h] at e; exact n xs (Option.some.inj e).symm
/-- what is put aside: no tuple -/
abbrev Ko := {o : HO // ∀ xs, o ≠ .tup xs}
/-- what a frame is entered with -/
structure Fr where
  H0 : Hp
  P0 : Hp
  B0 : Addr → Prop
  S0 : Addr → Prop
  L : Int
  Kp : List (Addr × Ko)
  Xc : Option (Addr × Value × Option Addr)

/-- what is beside the frame: the error that is being handled -/
abbrev Ez := Option (Addr × Value × Option Addr)
abbrev Fr.at (F : Fr) (z : Ez) : Fr := { F with Xc := z }
/-- what is wished for, where an error leaves; what is being handled -/
structure Wz where
  w : WX
  z : Ez
instance : CoeFun Wz (fun _ => WX) := ⟨Wz.w⟩

def DrawsAt (H : Hp) (p : Addr) (L : Int) (n : Nat) : Prop := ∃ x y z : Int, H p = some (.lst [.int x, .int y, .int z]) ∧ 0 ≤ x ∧ 0 ≤ y ∧ y < 2 ^ 61 ∧ 0 ≤ z ∧ z + n ≤ L
theorem DrawsAt.less {H : Hp} {p : Addr} {L : Int} {n m : Nat} (h : DrawsAt H p L n) (e : m ≤ n) : DrawsAt H p L m := by
  obtain ⟨x, y, z, h1, h2, h3, h4, h5, h6⟩ := h
  exact ⟨x, y, z, h1, h2, h3, h4, h5, by omega⟩

/-- how many draws may be made of p: as many as the frame was told, or (a bag of its own) as there may be -/
def Fr.lim (F : Fr) (p : Addr) : Int := if (F.H0 p).isNone then 2 ^ 39 else F.L
theorem Fr.lim_some {F : Fr} {p : Addr} {o : HO} (h : F.H0 p = some o) : F.lim p = F.L := by
  unfold Fr.lim
  rw [h]
  rfl
theorem Fr.lim_none {F : Fr} {p : Addr} (h : F.H0 p = none) : F.lim p = 2 ^ 39 := by
  unfold Fr.lim
  rw [h]
  rfl
theorem Fr.lim_le {F : Fr} {p : Addr} (h : F.L ≤ 2 ^ 39) : F.lim p ≤ 2 ^ 39 := by
  unfold Fr.lim
  split
  · exact Int.le_refl _
  · exact h
/-- how an exception stands: its class, its dict -/
def XdRel (K : PySem.W.Frag) (P H : Hp) (x : Xd) (cls : Value) (dd : Option Addr) : Prop :=
  cls = .ref x.C ∧ ((x.ns = [] ∧ dd = none) ∨ ∃ d fs, dd = some d ∧ P d = some (.xd fs) ∧ ∀ f z, (x.ns.zip x.ds).lookup f = some z → ∃ v, fs.lookup f = some v ∧ Rp K P z v)
theorem XdRel.mono {K : PySem.W.Frag} {P P' H H' : Hp} {x : Xd} {cls : Value} {dd : Option Addr} (e : Sub P P') (h : XdRel K P H x cls dd) : XdRel K P' H' x cls dd := by
  obtain ⟨h1, h2⟩ := h
  refine ⟨h1, ?_⟩
  rcases h2 with h2 | ⟨d, fs, e1, e2, h2⟩
  · exact .inl h2
  · refine .inr ⟨d, fs, e1, e _ _ e2, fun f z q => ?_⟩
    obtain ⟨v, q1, q2⟩ := h2 f z q
    exact ⟨v, q1, Rp.mono e z v q2⟩

/-- a dict of the frame's own at p -/
def DctAt (K : PySem.W.Frag) (P H : Hp) (p : Addr) : D → Prop
  | .dk ks ds => ∃ vs, H p = some (.dK (ks.zip vs)) ∧ vs.length = ks.length ∧ RpL K P ds vs
  | .dt ks ds => ∃ vs, H p = some (.dT (ks.zip vs)) ∧ vs.length = ks.length ∧ RpL K P ds vs
  | _ => False
theorem DctAt.mono {K : PySem.W.Frag} {P P' H H' : Hp} {p : Addr} {d : D} (eP : Sub P P') (eH : ∀ o, H p = some o → H' p = some o) (h : DctAt K P H p d) : DctAt K P' H' p d := by
  cases d with
  | dk ks ds => obtain ⟨vs, h1, h2, h3⟩ := h; exact ⟨vs, eH _ h1, h2, RpL.mono eP ds vs h3⟩
  | dt ks ds => obtain ⟨vs, h1, h2, h3⟩ := h; exact ⟨vs, eH _ h1, h2, RpL.mono eP ds vs h3⟩
  | _ => exact h.elim
theorem DctAt.some' {K : PySem.W.Frag} {P H : Hp} {p : Addr} {d : D} (h : DctAt K P H p d) : ∃ o, H p = some o ∧ (∀ vs, o ≠ .lst vs) ∧ (∀ C dx fs, o ≠ .ins C dx fs) ∧ ∀ vs, o ≠ .tup vs := by
  cases d with
  | dk ks ds => obtain ⟨vs, h1, _⟩ := h; exact ⟨_, h1, (fun _ z => by cases z), (fun _ _ _ z => by cases z), (fun _ z => by cases z)⟩
  | dt ks ds => obtain ⟨vs, h1, _⟩ := h; exact ⟨_, h1, (fun _ z => by cases z), (fun _ _ _ z => by cases z), (fun _ z => by cases z)⟩
  | _ => exact h.elim
/-- slot i's content; o is the value of the slot -/
def SlRel (K : PySem.W.Frag) (F : Fr) (P H : Hp) : Sl → Option V → Prop
  | .un, _ => True
  | .dat d, o => ∃ v, o = some v ∧ Rp K P d v
  | .own ds, o => ∃ p vs, o = some (.ref p) ∧ H p = some (.lst vs) ∧ P p = none ∧ F.H0 p = none ∧ RpL K P ds vs
  | .bag n, o => ∃ p, o = some (.ref p) ∧ P p = none ∧ (F.B0 p ∨ F.H0 p = none) ∧ DrawsAt H p (F.lim p) n
  | .exc x, o => ∃ a cls dd, F.Xc = some (a, cls, dd) ∧ o = some (.ref a) ∧ XdRel K P H x cls dd
  | .dct d, o => ∃ p, o = some (.ref p) ∧ P p = none ∧ F.H0 p = none ∧ DctAt K P H p d
  | .slf C ns ds, o => ∃ p dx vs, o = some (.ref p) ∧ H p = some (.ins C dx (ns.zip vs)) ∧ vs.length = ns.length ∧ P p = none ∧ F.S0 p ∧ RpL K P ds vs

structure Rel (K : PySem.W.Frag) (F : Fr) (P H : Hp) (σ : L2.St) (sv : Sv) : Prop where
  len : sv.length = σ.length
  lim : F.L ≤ 2 ^ 39
  sub : Sub P H
  p0 : Sub F.P0 P
  new : ∀ a o, P a = some o → F.P0 a = some o ∨ NewAt F.H0 a o
  ext : ∀ a o, F.H0 a = some o → ¬ F.B0 a → ¬ F.S0 a → H a = some o
  selfs : ∀ a, F.S0 a → F.P0 a = none ∧ (∃ o, F.H0 a = some o) ∧ ∃ C dx fs, H a = some (.ins C dx fs)
  bags : ∀ a, F.B0 a → F.P0 a = none ∧ (∃ o, F.H0 a = some o) ∧ DrawsAt H a F.L 0
  sl : ∀ (i : Nat) (s : Sl) (o : Option V), sv[i]? = some s → σ[i]? = some o → SlRel K F P H s o
  apart : ∀ (i j : Nat) (s t : Sl) (o u : Option V) (p : Addr), i ≠ j → sv[i]? = some s → sv[j]? = some t → s.addr = true → t.addr = true → σ[i]? = some o → σ[j]? = some u → o = some (.ref p) → u ≠ some (.ref p)
  kept : ∀ p vs, (p, vs) ∈ F.Kp → H p = some vs.1 ∧ P p = none ∧ F.H0 p = none ∧ ∀ (i : Nat) (s : Sl), sv[i]? = some s → s.addr = true → σ[i]? ≠ some (some (.ref p))

def SndE (K : PySem.W.Frag) (W : Wz) (t : TE) (f : De) : Prop := ∀ (F : Fr) (P H : Hp) (σ : L2.St) (sv : Sv) (Q : D → Sv → Prop) (E : DX) (R : VK), Rel K (F.at W.z) P H σ sv →
  (∀ v H' P' d sv', Rel K (F.at W.z) P' H' σ sv' → Sub P P' → Rp K P' d v → Q d sv' → R v H') →
  (∀ cls dd H' P' x sv', Rel K (F.at W.z) P' H' σ sv' → XdRel K P' H' x cls dd → E x sv' → W cls dd σ H') → f sv Q E → t σ H R
def PD (X : Cx) (W : Wz) (e : Expr) (f : De) : Prop := ∃ t, PE X e t ∧ SndE X.K W t f

abbrev Dt := Sv → (Bool → Sv → Prop) → DX → Prop
def SndT (K : PySem.W.Frag) (W : Wz) (t : TT) (f : Dt) : Prop := ∀ (F : Fr) (P H : Hp) (σ : L2.St) (sv : Sv) (Q : Bool → Sv → Prop) (E : DX) (R : Bool → Hp → Prop), Rel K (F.at W.z) P H σ sv →
  (∀ b H' P' sv', Rel K (F.at W.z) P' H' σ sv' → Sub P P' → Q b sv' → R b H') →
  (∀ cls dd H' P' x sv', Rel K (F.at W.z) P' H' σ sv' → XdRel K P' H' x cls dd → E x sv' → W cls dd σ H') → f sv Q E → t σ H R
def PDT (X : Cx) (W : Wz) (e : Expr) (f : Dt) : Prop := ∃ t, PT X e t ∧ SndT X.K W t f

/-- an argument: data, or the draws of slot i -/
inductive Ar where
  | dat (d : D) | bag (i : Nat)
def ArRel (K : PySem.W.Frag) (P : Hp) (σ : L2.St) : Ar → V → Prop
  | .dat d, v => Rp K P d v
  | .bag i, v => σ[i]? = some (some v)
def ArsRel (K : PySem.W.Frag) (P : Hp) (σ : L2.St) : List Ar → List V → Prop
  | [], vs => vs = []
  | a :: as, vs => ∃ v r, vs = v :: r ∧ ArRel K P σ a v ∧ ArsRel K P σ as r
theorem ArRel.mono {K : PySem.W.Frag} {P P' : Hp} {σ : L2.St} (e : Sub P P') : ∀ {a : Ar} {v : V}, ArRel K P σ a v → ArRel K P' σ a v
  | .dat d, v, h => Rp.mono e d v h
  | .bag _, _, h => h
theorem ArsRel.mono {K : PySem.W.Frag} {P P' : Hp} {σ : L2.St} (e : Sub P P') : ∀ {as : List Ar} {vs : List V}, ArsRel K P σ as vs → ArsRel K P' σ as vs
  | [], _, h => h
  | a :: as, _, h => by
    obtain ⟨v, r, rfl, h1, h2⟩ := h
    exact ⟨v, r, rfl, h1.mono e, h2.mono e⟩
abbrev Da := Sv → (List Ar → Sv → Prop) → DX → Prop
def SndA (K : PySem.W.Frag) (W : Wz) (t : TA) (f : Da) : Prop := ∀ (F : Fr) (P H : Hp) (σ : L2.St) (sv : Sv) (Q : List Ar → Sv → Prop) (E : DX) (R : List V → Hp → Prop), Rel K (F.at W.z) P H σ sv →
  (∀ vs H' P' as sv', Rel K (F.at W.z) P' H' σ sv' → Sub P P' → ArsRel K P' σ as vs → Q as sv' → R vs H') →
  (∀ cls dd H' P' x sv', Rel K (F.at W.z) P' H' σ sv' → XdRel K P' H' x cls dd → E x sv' → W cls dd σ H') → f sv Q E → t σ H R
def PDA (X : Cx) (W : Wz) (es : List Expr) (f : Da) : Prop := ∃ t, PA X es t ∧ SndA X.K W t f

/-- an expression that gives a new list -/
abbrev Dl := Sv → (List D → Sv → Prop) → DX → Prop
/-- p is a list that nobody knows -/
def NewL (K : PySem.W.Frag) (F : Fr) (P H : Hp) (σ : L2.St) (sv : Sv) (p : Addr) (ds : List D) : Prop :=
  ∃ vs, H p = some (.lst vs) ∧ P p = none ∧ F.H0 p = none ∧ RpL K P ds vs ∧ (∀ (i : Nat) (s : Sl), sv[i]? = some s → s.addr = true → σ[i]? ≠ some (some (.ref p))) ∧ ∀ q ws, (q, ws) ∈ F.Kp → q ≠ p
def SndL (K : PySem.W.Frag) (W : Wz) (t : TE) (f : Dl) : Prop := ∀ (F : Fr) (P H : Hp) (σ : L2.St) (sv : Sv) (Q : List D → Sv → Prop) (E : DX) (R : VK), Rel K (F.at W.z) P H σ sv →
  (∀ p H' P' ds sv', Rel K (F.at W.z) P' H' σ sv' → Sub P P' → NewL K (F.at W.z) P' H' σ sv' p ds → Q ds sv' → R (.ref p) H') →
  (∀ cls dd H' P' x sv', Rel K (F.at W.z) P' H' σ sv' → XdRel K P' H' x cls dd → E x sv' → W cls dd σ H') → f sv Q E → t σ H R
def PDL (X : Cx) (W : Wz) (e : Expr) (f : Dl) : Prop := ∃ t, PE X e t ∧ SndL X.K W t f

/-! ### what is wanted behind a statement -/
structure Ed where
  nx : Sv → Prop
  rt : D → Prop
  bk : Sv → Prop := fun _ => False
  ct : Sv → Prop := fun _ => False
  ex : DX := fun _ _ => False
abbrev Ds := Sv → Ed → Prop
structure Link (K : PySem.W.Frag) (W : Wz) (F : Fr) (P : Hp) (D : Ends) (Dd : Ed) : Prop where
  nx : ∀ σ' H' P' sv', Rel K (F.at W.z) P' H' σ' sv' → Sub P P' → Dd.nx sv' → D.nx σ' H'
  rt : ∀ σ' H' P' sv' v d, Rel K (F.at W.z) P' H' σ' sv' → Rp K P' d v → Dd.rt d → D.rt v H'
  bk : ∀ σ' H' P' sv', Rel K (F.at W.z) P' H' σ' sv' → Sub P P' → Dd.bk sv' → D.bk σ' H'
  ct : ∀ σ' H' P' sv', Rel K (F.at W.z) P' H' σ' sv' → Sub P P' → Dd.ct sv' → D.ct σ' H'
  ex : ∀ cls dd σ' H' P' x sv', Rel K (F.at W.z) P' H' σ' sv' → XdRel K P' H' x cls dd → Dd.ex x sv' → W cls dd σ' H'
theorem Link.mono {K : PySem.W.Frag} {W : Wz} {F : Fr} {P P1 : Hp} {D : Ends} {Dd : Ed} (l : Link K W F P D Dd) (s : Sub P P1) : Link K W F P1 D Dd :=
  ⟨fun σ' H' P' sv' r q => l.nx σ' H' P' sv' r (s.trans q), l.rt, fun σ' H' P' sv' r q => l.bk σ' H' P' sv' r (s.trans q), fun σ' H' P' sv' r q => l.ct σ' H' P' sv' r (s.trans q), l.ex⟩
def SndS (K : PySem.W.Frag) (W : Wz) (t : TS) (f : Ds) : Prop := ∀ (F : Fr) (P H : Hp) (σ : L2.St) (sv : Sv) (D : Ends) (Dd : Ed), Rel K (F.at W.z) P H σ sv → Link K W F P D Dd → f sv Dd → t D σ H
def PDS (X : Cx) (W : Wz) (st : Stmt) (f : Ds) : Prop := ∃ t, PS X st t ∧ SndS X.K W t f
def PDSs (X : Cx) (W : Wz) (st : List Stmt) (f : Ds) : Prop := ∃ t, PSs X st t ∧ SndS X.K W t f

/-! ### how the relation moves -/
section
variable {K : PySem.W.Frag} {F : Fr} {P H H' P' : Hp} {σ : L2.St} {sv : Sv}
theorem SlRel.mono {s : Sl} {o : Option V} (eP : Sub P P') (nP : ∀ a o, P' a = some o → P a = some o ∨ NewAt H a o) (eH : Sub H H') (h : SlRel K F P H s o) : SlRel K F P' H' s o := by
  have np : ∀ p o, P p = none → H p = some o → (∀ xs, o ≠ .tup xs) → P' p = none := fun p o n e nt => by
    cases q : P' p with
    | none => rfl
    | some u =>
      rcases nP p u q with z | z
      · rw [n] at z
        cases z
      · exact (z.no e nt).elim
  cases s with
  | un => trivial
  | dat d =>
    obtain ⟨v, e, r⟩ := h
    exact ⟨v, e, Rp.mono eP d v r⟩
  | own ds =>
    obtain ⟨p, vs, e, h1, h2, h3, r⟩ := h
    exact ⟨p, vs, e, eH _ _ h1, np p _ h2 h1 (fun _ z => by cases z), h3, RpL.mono eP ds vs r⟩
  | bag n =>
    obtain ⟨p, e, h1, h2, x, y, z, h3, h4⟩ := h
    exact ⟨p, e, np p _ h1 h3 (fun _ z => by cases z), h2, x, y, z, eH _ _ h3, h4⟩
  | slf C ns ds =>
    obtain ⟨p, dx, vs, e, h1, h2, h3, h4, r⟩ := h
    exact ⟨p, dx, vs, e, eH _ _ h1, h2, np p _ h3 h1 (fun _ z => by cases z), h4, RpL.mono eP ds vs r⟩
  | exc x =>
    obtain ⟨a, cls, dd, e1, e2, r⟩ := h
    exact ⟨a, cls, dd, e1, e2, r.mono eP⟩
  | dct d =>
    obtain ⟨p, e, h1, h2, h3⟩ := h
    obtain ⟨o, ho, _, _, nt⟩ := h3.some'
    exact ⟨p, e, np p _ h1 ho nt, h2, h3.mono eP (eH _)⟩
/-- the heap grows, P grows into what is new -/
theorem Rel.grow (r : Rel K F P H σ sv) (eP : Sub P P') (nP : ∀ a o, P' a = some o → P a = some o ∨ NewAt H a o) (eH : Sub H H') (s : Sub P' H') : Rel K F P' H' σ sv where
  len := r.len
  lim := r.lim
  sub := s
  p0 := r.p0.trans eP
  new := fun a o e => by
    rcases nP a o e with z | z
    · exact r.new a o z
    · refine .inr ?_
      cases q : F.H0 a with
      | none => exact .inl q
      | some u =>
        have ne : ∀ v, H a = some v → (∀ xs, v ≠ .tup xs) → False := fun v hv nt => z.no hv nt
        by_cases hb : F.B0 a
        · obtain ⟨_, _, x, y, w, e1, _⟩ := r.bags a hb
          exact (ne _ e1 fun _ z => by cases z).elim
        · by_cases hs : F.S0 a
          · obtain ⟨_, _, C, dx, fs, e1⟩ := r.selfs a hs
            exact (ne _ e1 fun _ z => by cases z).elim
          · have e2 := r.ext a u q hb hs
            rcases z with z | ⟨xs, rfl, z⟩
            · rw [e2] at z; cases z
            · rw [e2] at z
              exact .inr ⟨xs, rfl, q.trans z⟩
  ext := fun a o e nb ns => eH a o (r.ext a o e nb ns)
  selfs := fun a hs => by
    obtain ⟨h1, h2, C, dx, fs, h3⟩ := r.selfs a hs
    exact ⟨h1, h2, C, dx, fs, eH _ _ h3⟩
  bags := fun a hb => by
    obtain ⟨h1, h2, x, y, z, h3, h4⟩ := r.bags a hb
    exact ⟨h1, h2, x, y, z, eH _ _ h3, h4⟩
  sl := fun i s o h1 h2 => (r.sl i s o h1 h2).mono eP nP eH
  apart := r.apart
  kept := fun p vs hp => by
    obtain ⟨h1, h2, h3, h4⟩ := r.kept p vs hp
    refine ⟨eH _ _ h1, ?_, h3, h4⟩
    cases q : P' p with
    | none => rfl
    | some u =>
      rcases nP p u q with z | z
      · rw [h2] at z
        cases z
      · exact (z.no h1 vs.2).elim
theorem sub_upd {p : Addr} {o : HO} (h : H p = none) : Sub H (upd H p o) := fun a u e => by
  rw [upd_ne (ne_of_none e h)]
  exact e
theorem Rel.free (r : Rel K F P H σ sv) {p : Addr} (h : H p = none) : P p = none := by
  cases q : P p with
  | none => rfl
  | some u =>
    rw [r.sub p u q] at h
    cases h
theorem Rel.free0 (r : Rel K F P H σ sv) {p : Addr} (h : H p = none) : F.H0 p = none := by
  cases q : F.H0 p with
  | none => rfl
  | some u =>
    by_cases hb : F.B0 p
    · obtain ⟨_, _, x, y, w, e1, _⟩ := r.bags p hb
      rw [e1] at h
      cases h
    · by_cases hs : F.S0 p
      · obtain ⟨_, _, C, dx, fs, e1⟩ := r.selfs p hs
        rw [e1] at h
        cases h
      · rw [r.ext p u q hb hs] at h
        cases h
/-- a new object is laid and is data from now on -/
theorem Rel.lay (r : Rel K F P H σ sv) {p : Addr} {o : HO} (h : H p = none) : Rel K F (upd P p o) (upd H p o) σ sv := by
  refine r.grow (sub_upd (r.free h)) (fun a u e => ?_) (sub_upd h) fun a u e => ?_
  · by_cases ha : a = p
    · subst ha
      exact .inr (.inl h)
    · rw [upd_ne ha] at e
      exact .inl e
  · by_cases ha : a = p
    · subst ha
      rw [upd_same] at e ⊢
      exact e
    · rw [upd_ne ha] at e ⊢
      exact r.sub a u e
/-- a new object is laid, not known as data yet -/
theorem Rel.layH (r : Rel K F P H σ sv) {p : Addr} {o : HO} (h : H p = none) : Rel K F P (upd H p o) σ sv :=
  r.grow (Sub.refl P) (fun _ _ e => .inl e) (sub_upd h) (r.sub.trans (sub_upd h))
/-- an address of the slots is no free one -/
theorem Rel.slotNe (r : Rel K F P H σ sv) {p : Addr} (h : H p = none) (i : Nat) (s : Sl) (hs : sv[i]? = some s) (ha : s.addr = true) : σ[i]? ≠ some (some (.ref p)) := fun e => by
  have q := r.sl i s _ hs e
  cases s with
  | un => cases ha
  | dat d => cases ha
  | own ds =>
    obtain ⟨p', vs, e1, h1, _⟩ := q
    cases e1
    rw [h1] at h
    cases h
  | bag n =>
    obtain ⟨p', e1, _, _, x, y, z, h1, _⟩ := q
    cases e1
    rw [h1] at h
    cases h
  | slf C ns ds =>
    obtain ⟨p', dx, vs, e1, h1, _⟩ := q
    cases e1
    rw [h1] at h
    cases h
  | exc x => cases ha
  | dct d =>
    obtain ⟨p', e1, _, _, h1⟩ := q
    cases e1
    obtain ⟨o, ho, _⟩ := h1.some'
    rw [ho] at h
    cases h
theorem Rel.newL (r : Rel K F P H σ sv) {p : Addr} {ds : List D} {vs : List V} (h : H p = none) (rv : RpL K P ds vs) : NewL K F P (upd H p (.lst vs)) σ sv p ds :=
  ⟨vs, upd_same, r.free h, r.free0 h, rv, r.slotNe h, fun q ws hq z => by
    obtain ⟨h1, _⟩ := r.kept q ws hq
    rw [z, h] at h1
    cases h1⟩
/-- a new list becomes data -/
theorem Rel.publish (r : Rel K F P H σ sv) {p : Addr} {ds : List D} (h : NewL K F P H σ sv p ds) : ∃ P', Rel K F P' H σ sv ∧ Sub P P' ∧ Rp K P' (.lst ds) (.ref p) := by
  obtain ⟨vs, h1, h2, h3, h4, h5, h6⟩ := h
  refine ⟨upd P p (.lst vs), ?_, sub_upd h2, ⟨p, vs, rfl, upd_same, RpL.mono (sub_upd h2) ds vs h4⟩⟩
  refine ⟨r.len, r.lim, fun a o e => ?_, r.p0.trans (sub_upd h2), fun a o e => ?_, r.ext, r.selfs, r.bags, fun i s o e1 e2 => ?_, r.apart, fun q ws hq => by
    obtain ⟨z1, z2, z3⟩ := r.kept q ws hq
    exact ⟨z1, by rw [upd_ne (h6 q ws hq)]; exact z2, z3⟩⟩
  · by_cases ha : a = p
    · subst ha
      rw [upd_same] at e
      cases e
      exact h1
    · rw [upd_ne ha] at e
      exact r.sub a o e
  · by_cases ha : a = p
    · subst ha
      exact .inr (.inl h3)
    · rw [upd_ne ha] at e
      exact r.new a o e
  · have q := r.sl i s o e1 e2
    cases s with
    | un => trivial
    | dat d =>
      obtain ⟨v, e, z⟩ := q
      exact ⟨v, e, Rp.mono (sub_upd h2) d v z⟩
    | own es =>
      obtain ⟨q', ws, e, z1, z2, z3, z4⟩ := q
      have ne : q' ≠ p := fun z => by
        subst z e
        exact h5 i (.own es) e1 rfl e2
      exact ⟨q', ws, e, z1, by rw [upd_ne ne]; exact z2, z3, RpL.mono (sub_upd h2) es ws z4⟩
    | bag n =>
      obtain ⟨q', e, z1, z2, z3⟩ := q
      have ne : q' ≠ p := fun z => by
        subst z e
        exact h5 i (.bag n) e1 rfl e2
      exact ⟨q', e, by rw [upd_ne ne]; exact z1, z2, z3⟩
    | slf C ns es =>
      obtain ⟨q', dx, ws, e, z1, z2, z3, z4, z5⟩ := q
      have ne : q' ≠ p := fun z => by
        subst z e
        exact h5 i (.slf C ns es) e1 rfl e2
      exact ⟨q', dx, ws, e, z1, z2, by rw [upd_ne ne]; exact z3, z4, RpL.mono (sub_upd h2) es ws z5⟩
    | exc x =>
      obtain ⟨a, cls, dd, e1, e2, z⟩ := q
      exact ⟨a, cls, dd, e1, e2, z.mono (sub_upd h2)⟩
    | dct d =>
      obtain ⟨q', e, z1, z2, z3⟩ := q
      have ne : q' ≠ p := fun z => by
        subst z e
        exact h5 i (.dct d) e1 rfl e2
      exact ⟨q', e, by rw [upd_ne ne]; exact z1, z2, z3.mono (sub_upd h2) fun _ => id⟩
/-- a slot is given data -/
theorem Rel.setDat (r : Rel K F P H σ sv) {i : Nat} {d : D} {v : V} (h : Rp K P d v) : Rel K F P H (σ.set i (some v)) (sv.set i (.dat d)) := by
  have back : ∀ {m : Nat} {z : Sl}, (sv.set i (.dat d))[m]? = some z → z.addr = true → sv[m]? = some z ∧ m ≠ i := fun {m z} em az => by
    by_cases hm : m = i
    · subst hm
      rw [List.getElem?_set] at em
      rw [if_pos rfl] at em
      split at em
      · cases em
        cases az
      · cases em
    · exact ⟨by rwa [List.getElem?_set_ne (Ne.symm hm)] at em, hm⟩
  refine ⟨by rw [List.length_set, List.length_set]; exact r.len, r.lim, r.sub, r.p0, r.new, r.ext, r.selfs, r.bags, fun j s o e1 e2 => ?_, fun j k s t o u p ne e1 e2 a1 a2 s1 s2 eo eu => ?_, fun p vs hp => ?_⟩
  · by_cases hj : j = i
    · subst hj
      rw [List.getElem?_set, if_pos rfl] at e1 e2
      split at e1
      · cases e1
        split at e2
        · cases e2
          exact ⟨v, rfl, h⟩
        · cases e2
      · cases e1
    · rw [List.getElem?_set_ne (Ne.symm hj)] at e1 e2
      exact r.sl j s o e1 e2
  · obtain ⟨b1, n1⟩ := back e1 a1
    obtain ⟨b2, n2⟩ := back e2 a2
    rw [List.getElem?_set_ne (Ne.symm n1)] at s1
    rw [List.getElem?_set_ne (Ne.symm n2)] at s2
    exact r.apart j k s t o u p ne b1 b2 a1 a2 s1 s2 eo eu
  · obtain ⟨z1, z2, z3, z4⟩ := r.kept p vs hp
    refine ⟨z1, z2, z3, fun m s e1 a1 => ?_⟩
    obtain ⟨b1, n1⟩ := back e1 a1
    rw [List.getElem?_set_ne (Ne.symm n1)]
    exact z4 m s b1 a1
/-- a slot is given a new list -/
theorem Rel.setNew (r : Rel K F P H σ sv) {i : Nat} {p : Addr} {ds : List D} (h : NewL K F P H σ sv p ds) : Rel K F P H (σ.set i (some (.ref p))) (sv.set i (.own ds)) := by
  obtain ⟨vs, h1, h2, h3, h4, h5, h6⟩ := h
  refine ⟨by rw [List.length_set, List.length_set]; exact r.len, r.lim, r.sub, r.p0, r.new, r.ext, r.selfs, r.bags, fun j s o e1 e2 => ?_, fun j k s t o u q ne e1 e2 a1 a2 s1 s2 eo eu => ?_, fun q ws hq => ?_⟩
  · by_cases hj : j = i
    · subst hj
      rw [List.getElem?_set, if_pos rfl] at e1 e2
      split at e1
      · cases e1
        split at e2
        · cases e2
          exact ⟨p, vs, rfl, h1, h2, h3, h4⟩
        · cases e2
      · cases e1
    · rw [List.getElem?_set_ne (Ne.symm hj)] at e1 e2
      exact r.sl j s o e1 e2
  · by_cases hj : j = i
    · subst hj
      have hk : k ≠ j := fun z => ne z.symm
      rw [List.getElem?_set_ne (Ne.symm hk)] at e2 s2
      rw [List.getElem?_set, if_pos rfl] at s1
      split at s1
      · cases s1
        cases eo
        rw [eu] at s2
        exact h5 k t e2 a2 s2
      · cases s1
    · rw [List.getElem?_set_ne (Ne.symm hj)] at e1 s1
      by_cases hk : k = i
      · subst hk
        rw [List.getElem?_set, if_pos rfl] at s2
        split at s2
        · cases s2
          cases eu
          rw [eo] at s1
          exact h5 j s e1 a1 s1
        · cases s2
      · rw [List.getElem?_set_ne (Ne.symm hk)] at e2 s2
        exact r.apart j k s t o u q ne e1 e2 a1 a2 s1 s2 eo eu
  · obtain ⟨z1, z2, z3, z4⟩ := r.kept q ws hq
    refine ⟨z1, z2, z3, fun m s e1 a1 => ?_⟩
    by_cases hm : m = i
    · subst hm
      rw [List.getElem?_set, if_pos rfl]
      split
      · intro z
        injection z with z5
        injection z5 with z6
        injection z6 with z7
        exact h6 q ws hq z7.symm
      · intro z
        cases z
    · rw [List.getElem?_set_ne (Ne.symm hm)] at e1 ⊢
      exact z4 m s e1 a1
end
end Pd
end
section
set_option autoImplicit false
set_option Elab.async false
set_option linter.all false
set_option autoImplicit false
set_option maxRecDepth 100000
set_option maxHeartbeats 1000000
/-! Pd2: expressions over data. -/
namespace Pd
open PySem PySem.Spec PyProof.Rows L2
section
variable {X : Cx} {W : Wz} {pos : Pos}

/-! ### constants, names -/
@[simp] def dC (d : D) : De := fun sv Q _ => Q d sv
theorem snd_c {K : PySem.W.Frag} {W : Wz} {d : D} {v : V} (h : ∀ P, Rp K P d v) : SndE K W (tC v) (dC d) := fun F P H σ sv Q E R r k _ q => k v H P d sv r (Sub.refl P) (h P) q
theorem pd_int {i j} : PD X W (.Constant (.int i) j pos) (dC (.int i)) := ⟨_, pe_int, snd_c fun _ => rfl⟩
theorem pd_bl {b j} : PD X W (.Constant (.bool b) j pos) (dC (.bl b)) := ⟨_, pe_bl, snd_c fun _ => rfl⟩
theorem pd_non {j} : PD X W (.Constant .none j pos) (dC .non) := ⟨_, pe_non, snd_c fun _ => rfl⟩
theorem pd_str {x j} : PD X W (.Constant (.str x) j pos) (dC (.str x)) := ⟨_, pe_str, snd_c fun _ => rfl⟩
theorem pd_globI {x : Str} {i : Int} (hg : Gl X x) (hm : ∃ t, X.mg x = some (.int i t)) (hd : (x == ("__debug__" : Str)) = false := by decide) : PD X W (.Name x pos) (dC (.int i)) := by
  obtain ⟨t, hm⟩ := hm
  exact ⟨_, pe_glob (v := .int i) hg hm ⟨t, rfl⟩ hd, snd_c fun _ => rfl⟩
theorem pd_globS {x z : Str} (hg : Gl X x) (hm : ∃ t, X.mg x = some (.str z t)) (hd : (x == ("__debug__" : Str)) = false := by decide) : PD X W (.Name x pos) (dC (.str z)) := by
  obtain ⟨t, hm⟩ := hm
  exact ⟨_, pe_glob (v := .str z) hg hm ⟨t, rfl⟩ hd, snd_c fun _ => rfl⟩

/-- a slot is read as data; a list of one's own is data from then on -/
@[simp] def dVar (i : Nat) : De := fun sv Q _ => match sv[i]? with
  | some (.dat d) => Q d sv
  | some (.own ds) => Q (.lst ds) (sv.set i (.dat (.lst ds)))
  | _ => False
theorem rel_get {K : PySem.W.Frag} {F : Fr} {P H : Hp} {σ : L2.St} {sv : Sv} (r : Rel K F P H σ sv) {i : Nat} {s : Sl} (h : sv[i]? = some s) : ∃ o, σ[i]? = some o ∧ SlRel K F P H s o := by
  have hi : i < sv.length := (List.getElem?_eq_some_iff.mp h).1
  have hi2 : i < σ.length := by rw [← r.len]; exact hi
  exact ⟨σ[i], by simp [hi2], r.sl i s _ h (by simp [hi2])⟩
/-- slot i's list becomes data -/
theorem Rel.freeze {K : PySem.W.Frag} {F : Fr} {P H : Hp} {σ : L2.St} {sv : Sv} (r : Rel K F P H σ sv) {i : Nat} {ds : List D} (h : sv[i]? = some (.own ds)) :
    ∃ p P', σ[i]? = some (some (.ref p)) ∧ Rel K F P' H σ (sv.set i (.dat (.lst ds))) ∧ Sub P P' ∧ Rp K P' (.lst ds) (.ref p) := by
  obtain ⟨o, ho, p, vs, rfl, h1, h2, h3, h4⟩ := rel_get r h
  have hi : i < sv.length := (List.getElem?_eq_some_iff.mp h).1
  have rp : Rp K (upd P p (.lst vs)) (.lst ds) (.ref p) := ⟨p, vs, rfl, upd_same, RpL.mono (sub_upd h2) ds vs h4⟩
  refine ⟨p, upd P p (.lst vs), ho, ?_, sub_upd h2, rp⟩
  refine ⟨by rw [List.length_set]; exact r.len, r.lim, fun a u e => ?_, r.p0.trans (sub_upd h2), fun a u e => ?_, r.ext, r.selfs, r.bags, fun j s u e1 e2 => ?_, fun j k s t u w q ne e1 e2 a1 a2 s1 s2 eu ew => ?_, fun q ws hq => ?_⟩
  · by_cases ha : a = p
    · subst ha
      rw [upd_same] at e
      cases e
      exact h1
    · rw [upd_ne ha] at e
      exact r.sub a u e
  · by_cases ha : a = p
    · subst ha
      exact .inr (.inl h3)
    · rw [upd_ne ha] at e
      exact r.new a u e
  · by_cases hj : j = i
    · subst hj
      rw [List.getElem?_set_self hi] at e1
      cases e1
      rw [ho] at e2
      cases e2
      exact ⟨_, rfl, rp⟩
    · rw [List.getElem?_set_ne (Ne.symm hj)] at e1
      have q := r.sl j s u e1 e2
      cases s with
      | un => trivial
      | dat d =>
        obtain ⟨v, e, z⟩ := q
        exact ⟨v, e, Rp.mono (sub_upd h2) d v z⟩
      | own es =>
        obtain ⟨q', ws, e, z1, z2, z3, z4⟩ := q
        have ne : q' ≠ p := fun z => by
          subst z e
          exact r.apart j i _ _ _ _ q' hj e1 h rfl rfl e2 ho rfl rfl
        exact ⟨q', ws, e, z1, by rw [upd_ne ne]; exact z2, z3, RpL.mono (sub_upd h2) es ws z4⟩
      | bag n =>
        obtain ⟨q', e, z1, z2, z3⟩ := q
        have ne : q' ≠ p := fun z => by
          subst z e
          exact r.apart j i _ _ _ _ q' hj e1 h rfl rfl e2 ho rfl rfl
        exact ⟨q', e, by rw [upd_ne ne]; exact z1, z2, z3⟩
      | slf C ns es =>
        obtain ⟨q', dx, ws, e, z1, z2, z3, z4, z5⟩ := q
        have ne : q' ≠ p := fun z => by
          subst z e
          exact r.apart j i _ _ _ _ q' hj e1 h rfl rfl e2 ho rfl rfl
        exact ⟨q', dx, ws, e, z1, z2, by rw [upd_ne ne]; exact z3, z4, RpL.mono (sub_upd h2) es ws z5⟩
      | exc x =>
        obtain ⟨a, cls, dd, e1, e2, z⟩ := q
        exact ⟨a, cls, dd, e1, e2, z.mono (sub_upd h2)⟩
      | dct d =>
        obtain ⟨q', e, z1, z2, z3⟩ := q
        have ne : q' ≠ p := fun z => by
          subst z e
          exact r.apart j i _ _ _ _ q' hj e1 h rfl rfl e2 ho rfl rfl
        exact ⟨q', e, by rw [upd_ne ne]; exact z1, z2, z3.mono (sub_upd h2) fun _ => id⟩
  · have back : ∀ {m : Nat} {z : Sl}, (sv.set i (.dat (.lst ds)))[m]? = some z → z.addr = true → sv[m]? = some z := fun {m z} em az => by
      by_cases hm : m = i
      · subst hm
        rw [List.getElem?_set_self hi] at em
        cases em
        cases az
      · rwa [List.getElem?_set_ne (Ne.symm hm)] at em
    exact r.apart j k s t u w q ne (back e1 a1) (back e2 a2) a1 a2 s1 s2 eu ew
  · obtain ⟨z1, z2, z3, z4⟩ := r.kept q ws hq
    have ne : q ≠ p := fun z => by
      subst z
      exact z4 i _ h rfl ho
    refine ⟨z1, by rw [upd_ne ne]; exact z2, z3, fun m s e1 a1 => ?_⟩
    by_cases hm : m = i
    · subst hm
      rw [List.getElem?_set_self hi] at e1
      cases e1
      cases a1
    · rw [List.getElem?_set_ne (Ne.symm hm)] at e1
      exact z4 m s e1 a1
theorem snd_var {K : PySem.W.Frag} {i : Nat} : SndE K W (tVar i) (dVar i) := fun F P H σ sv Q E R r k _ q => by
  unfold dVar at q
  cases e : sv[i]? with
  | none =>
    rw [e] at q
    exact q.elim
  | some s =>
    rw [e] at q
    cases s with
    | un => exact q.elim
    | bag n => exact q.elim
    | slf C ns ds => exact q.elim
    | exc x => exact q.elim
    | dct d => exact q.elim
    | dat d =>
      obtain ⟨o, ho, v, rfl, rv⟩ := rel_get r e
      exact ⟨v, ho, k v H P d sv r (Sub.refl P) rv q⟩
    | own ds =>
      obtain ⟨p, P', hp, r', s', rv⟩ := r.freeze e
      exact ⟨_, hp, k _ H P' _ _ r' s' rv q⟩
theorem pd_var {i : Nat} {x : Str} (hN : X.N[i]? = some x) (hv : Vis X.env.scope x) (hd : (x == ("__debug__" : Str)) = false := by decide) (hcd : (x == ("__classdict__" : Str)) = false := by decide) : PD X W (.Name x pos) (dVar i) :=
  ⟨_, pe_var hN hv hd hcd, snd_var⟩

/-! ### argument lists -/
@[simp] def dNil : Da := fun sv Q _ => Q [] sv
@[simp] def dCons (f : De) (g : Da) : Da := fun sv Q E => f sv (fun d sv1 => g sv1 (fun as sv2 => Q (.dat d :: as) sv2) E) E
/-- a name in an argument list: data, or the draws -/
@[simp] def dConsV (i : Nat) (g : Da) : Da := fun sv Q E => match sv[i]? with
  | some (.bag _) => g sv (fun as sv2 => Q (.bag i :: as) sv2) E
  | _ => dCons (dVar i) g sv Q E
theorem pda_nil : PDA X W [] dNil := ⟨_, pa_nil, fun F P H σ sv Q E R r k _ q => k [] H P [] sv r (Sub.refl P) rfl q⟩
theorem snd_cons {K : PySem.W.Frag} {te : TE} {ta : TA} {f : De} {g : Da} (h1 : SndE K W te f) (h2 : SndA K W ta g) : SndA K W (tCons te ta) (dCons f g) := fun F P H σ sv Q E R r k kx q =>
  h1 F P H σ sv _ E _ r (fun v H1 P1 d sv1 r1 s1 rv q1 => h2 F P1 H1 σ sv1 _ E _ r1 (fun vs H2 P2 as sv2 r2 s2 ra q2 =>
    k (v :: vs) H2 P2 (.dat d :: as) sv2 r2 (s1.trans s2) ⟨v, vs, rfl, Rp.mono s2 d v rv, ra⟩ q2) kx q1) kx q
theorem pda_cons {e : Expr} {es : List Expr} {f : De} {g : Da} (h1 : PD X W e f) (h2 : PDA X W es g) (hs : starEach (e :: es) X.env = (false, eval e X.env) :: starEach es X.env := by rfl) : PDA X W (e :: es) (dCons f g) := by
  obtain ⟨te, p1, s1⟩ := h1
  obtain ⟨ta, p2, s2⟩ := h2
  exact ⟨_, pa_cons p1 p2 hs, snd_cons s1 s2⟩
theorem pda_var {i : Nat} {x : Str} {p : Pos} {es : List Expr} {g : Da} (hN : X.N[i]? = some x) (hv : Vis X.env.scope x) (h2 : PDA X W es g) (hd : (x == ("__debug__" : Str)) = false := by decide) (hcd : (x == ("__classdict__" : Str)) = false := by decide)
    (hs : starEach (.Name x p :: es) X.env = (false, eval (.Name x p) X.env) :: starEach es X.env := by rfl) : PDA X W (.Name x p :: es) (dConsV i g) := by
  obtain ⟨ta, p2, s2⟩ := h2
  refine ⟨_, pa_cons (pe_var hN hv hd hcd) p2 hs, fun F P H σ sv Q E R r k kx q => ?_⟩
  unfold dConsV at q
  cases e : sv[i]? with
  | none =>
    rw [e] at q
    exact snd_cons snd_var s2 F P H σ sv Q E R r k kx q
  | some s =>
    rw [e] at q
    cases s with
    | un => exact snd_cons snd_var s2 F P H σ sv Q E R r k kx q
    | dat d => exact snd_cons snd_var s2 F P H σ sv Q E R r k kx q
    | own ds => exact snd_cons snd_var s2 F P H σ sv Q E R r k kx q
    | slf C ns ds => exact snd_cons snd_var s2 F P H σ sv Q E R r k kx q
    | exc x => exact snd_cons snd_var s2 F P H σ sv Q E R r k kx q
    | dct x => exact snd_cons snd_var s2 F P H σ sv Q E R r k kx q
    | bag n =>
      obtain ⟨o, ho, p', rfl, _⟩ := rel_get r e
      exact ⟨_, ho, s2 F P H σ sv _ E _ r (fun vs H2 P2 as sv2 r2 s2' ra q2 => k _ H2 P2 (.bag i :: as) sv2 r2 s2' ⟨_, vs, rfl, ho, ra⟩ q2) kx q⟩
/-- data all of them -/
@[simp] def asD : List Ar → Option (List D)
  | [] => some []
  | .dat d :: as => (asD as).map (d :: ·)
  | .bag _ :: _ => none
theorem asD_rel {K : PySem.W.Frag} {P : Hp} {σ : L2.St} : ∀ {as : List Ar} {vs : List V} {ds : List D}, ArsRel K P σ as vs → asD as = some ds → RpL K P ds vs
  | [], _, _, h, e => by
    cases e
    exact h
  | .dat d :: as, _, _, h, e => by
    obtain ⟨v, r, rfl, h1, h2⟩ := h
    simp only [asD, Option.map_eq_some_iff] at e
    obtain ⟨ds, e1, rfl⟩ := e
    exact ⟨v, r, rfl, h1, asD_rel h2 e1⟩
  | .bag _ :: _, _, _, _, e => by cases e
theorem small_line {n : Nat} (h : n ≤ 100000) : n ≤ sizeLine := Nat.le_trans h (by decide)

/-! ### displays -/
@[simp] def dTup (g : Da) : De := fun sv Q E => g sv (fun as sv' => ∃ ds, asD as = some ds ∧ ds.length ≤ 100000 ∧ Q (.tup ds) sv') E
@[simp] def dLst (g : Da) : Dl := fun sv Q E => g sv (fun as sv' => ∃ ds, asD as = some ds ∧ ds.length ≤ 100000 ∧ Q ds sv') E
theorem pd_tup {es : List Expr} {c} {g : Da} (h : PDA X W es g) : PD X W (.Tuple es c pos) (dTup g) := by
  obtain ⟨ta, p, s⟩ := h
  refine ⟨_, pe_tup p, fun F P H σ sv Q E R r k kx q => s F P H σ sv _ E _ r (fun vs H1 P1 as sv1 r1 s1 ra ⟨ds, e, hl, q1⟩ => ?_) kx q⟩
  have rv := asD_rel ra e
  refine ⟨small_line (by rw [rv.length]; exact hl), fun p hp => ?_⟩
  exact k (.ref p) _ _ (.tup ds) sv1 (r1.lay hp) (s1.trans (sub_upd (r1.free hp))) ⟨p, vs, rfl, upd_same, RpL.mono (sub_upd (r1.free hp)) ds vs rv⟩ q1
theorem pdl_lst {es : List Expr} {g : Da} (h : PDA X W es g) : PDL X W (.List es pos) (dLst g) := by
  obtain ⟨ta, p, s⟩ := h
  refine ⟨_, pe_lst p, fun F P H σ sv Q E R r k kx q => s F P H σ sv _ E _ r (fun vs H1 P1 as sv1 r1 s1 ra ⟨ds, e, hl, q1⟩ => ?_) kx q⟩
  have rv := asD_rel ra e
  refine ⟨small_line (by rw [rv.length]; exact hl), fun p hp => ?_⟩
  exact k p _ _ ds sv1 (r1.layH hp) s1 (r1.newL hp rv) q1
/-- a new list as data -/
@[simp] def dL (g : Dl) : De := fun sv Q E => g sv (fun ds sv' => Q (.lst ds) sv') E
theorem snd_L {K : PySem.W.Frag} {t : TE} {g : Dl} (h : SndL K W t g) : SndE K W t (dL g) := fun F P H σ sv Q E R r k kx q =>
  h F P H σ sv _ E R r (fun p H1 P1 ds sv1 r1 s1 n q1 => by
    obtain ⟨P2, r2, s2, rp⟩ := r1.publish n
    exact k _ H1 P2 _ sv1 r2 (s1.trans s2) rp q1) kx q
theorem pd_L {e : Expr} {g : Dl} (h : PDL X W e g) : PD X W e (dL g) := by
  obtain ⟨t, p, s⟩ := h
  exact ⟨t, p, snd_L s⟩

/-! ### operators by values -/
abbrev G2 := D → D → (D → Prop) → Prop
def SndR (K : PySem.W.Frag) (r : R2) (g : G2) : Prop := ∀ (F : Fr) (P H : Hp) (σ : L2.St) (sv : Sv) (x y : V) (d e : D) (Q : D → Prop) (R : VK), Rel K F P H σ sv → Rp K P d x → Rp K P e y →
  (∀ v H' P' z, Rel K F P' H' σ sv → Sub P P' → Rp K P' z v → Q z → R v H') → g d e Q → r x y H R
@[simp] def dOp (g : G2) (f1 f2 : De) : De := fun sv Q E => f1 sv (fun d sv1 => f2 sv1 (fun e sv2 => g d e fun z => Q z sv2) E) E
theorem snd_op {K : PySem.W.Frag} {ta tb : TE} {f1 f2 : De} {r : R2} {g : G2} (h1 : SndE K W ta f1) (h2 : SndE K W tb f2) (hr : SndR K r g) : SndE K W (tOp r ta tb) (dOp g f1 f2) := fun F P H σ sv Q E R re k kx q =>
  h1 F P H σ sv _ E _ re (fun x H1 P1 d sv1 r1 s1 rx q1 => h2 F P1 H1 σ sv1 _ E _ r1 (fun y H2 P2 e sv2 r2 s2 ry q2 =>
    hr _ P2 H2 σ sv2 x y d e _ R r2 (Rp.mono s2 d x rx) ry (fun v H3 P3 z r3 s3 rz q3 => k v H3 P3 z sv2 r3 ((s1.trans s2).trans s3) rz q3) q2) kx q1) kx q
theorem pd_op {a b : Expr} {op : Operator} {f1 f2 : De} {r : R2} {g : G2} (ho : OpR X (binaryOp op) r) (hr : SndR X.K r g) (h1 : PD X W a f1) (h2 : PD X W b f2) : PD X W (.BinOp a op b pos) (dOp g f1 f2) := by
  obtain ⟨ta, p1, s1⟩ := h1
  obtain ⟨tb, p2, s2⟩ := h2
  exact ⟨_, pe_op ho p1 p2, snd_op s1 s2 hr⟩
theorem pd_cmp {a b : Expr} {op : CmpOp} {f1 f2 : De} {r : R2} {g : G2} (ho : OpR X (compareOp op) r) (hr : SndR X.K r g) (h1 : PD X W a f1) (h2 : PD X W b f2) (hm : behindInMarks op b = false := by rfl) : PD X W (.Compare a [op] [b] pos) (dOp g f1 f2) := by
  obtain ⟨ta, p1, s1⟩ := h1
  obtain ⟨tb, p2, s2⟩ := h2
  exact ⟨_, pe_cmpR ho p1 p2 hm, snd_op s1 s2 hr⟩
/-- a test by a value that is a bool -/
@[simp] def dTest (f : De) : Dt := fun sv Q E => f sv (fun d sv' => ∃ b, d = .bl b ∧ Q b sv') E
theorem pdt_cmp {a b : Expr} {op : CmpOp} {f1 f2 : De} {r : R2} {g : G2} (ho : OpR X (compareOp op) r) (hr : SndR X.K r g) (h1 : PD X W a f1) (h2 : PD X W b f2) (hm : behindInMarks op b = false := by rfl) : PDT X W (.Compare a [op] [b] pos) (dTest (dOp g f1 f2)) := by
  obtain ⟨ta, p1, s1⟩ := h1
  obtain ⟨tb, p2, s2⟩ := h2
  refine ⟨_, pt_cmpR ho p1 p2 hm, fun F P H σ sv Q E R re k kx q => snd_op s1 s2 hr _ P H σ sv _ E _ re (fun v H1 P1 d sv1 r1 s1' rv ⟨b, ed, q1⟩ => ?_) kx q⟩
  subst ed
  exact ⟨b, rv, k b H1 P1 sv1 r1 s1' q1⟩
theorem SndR.or {K : PySem.W.Frag} {r r' : R2} {g g' : G2} (h : SndR K r g) (h' : SndR K r' g') : SndR K (fun x y H Q => r x y H Q ∨ r' x y H Q) (fun d e Q => g d e Q ∨ g' d e Q) := fun F P H σ sv x y d e Q R re rx ry k q => by
  rcases q with q | q
  · exact .inl (h F P H σ sv x y d e Q R re rx ry k q)
  · exact .inr (h' F P H σ sv x y d e Q R re rx ry k q)

/-- ints -/
@[simp] def gI (f : Int → Int → D) : G2 := fun d e Q => match d, e with
  | .int i, .int j => Q (f i j)
  | _, _ => False
theorem snd_I0 {K : PySem.W.Frag} {g : Int → Int → V} {f : Int → Int → D} (h : ∀ P i j, Rp K P (f i j) (g i j)) : SndR K (rI0 g) (gI f) := fun F P H σ sv x y d e Q R re rx ry k q => by
  cases d with
  | int i =>
    cases e with
    | int j =>
      obtain rfl := rx
      obtain rfl := ry
      exact ⟨i, j, rfl, rfl, k _ H P _ re (Sub.refl P) (h P i j) q⟩
    | _ => exact q.elim
  | _ => exact q.elim
/-- ints, under a condition -/
@[simp] def gIC (C : Int → Int → Prop) (f : Int → Int → D) : G2 := fun d e Q => match d, e with
  | .int i, .int j => C i j ∧ Q (f i j)
  | _, _ => False
theorem snd_I {K : PySem.W.Frag} {C : Int → Int → Prop} {g : Int → Int → V} {f : Int → Int → D} (h : ∀ P i j, Rp K P (f i j) (g i j)) : SndR K (rI C g) (gIC C f) := fun F P H σ sv x y d e Q R re rx ry k q => by
  cases d with
  | int i =>
    cases e with
    | int j =>
      obtain rfl := rx
      obtain rfl := ry
      exact ⟨i, j, rfl, rfl, q.1, k _ H P _ re (Sub.refl P) (h P i j) q.2⟩
    | _ => exact q.elim
  | _ => exact q.elim

/-- + of ints, texts, lists (a new one) -/
@[simp] def gAdd : G2 := fun d e Q => match d, e with
  | .int i, .int j => Q (.int (i + j))
  | .str a, .str b => a.length + b.length ≤ sizeLine ∧ Q (.str (a ++ b))
  | .lst xs, .lst ys => xs.length + ys.length ≤ 100000 ∧ Q (.lst (xs ++ ys))
  | _, _ => False
theorem pd_add {a b : Expr} {f1 f2 : De} (h1 : PD X W a f1) (h2 : PD X W b f2) : PD X W (.BinOp a .Add b pos) (dOp gAdd f1 f2) := by
  refine pd_op (OpR.or op_add (OpR.or op_add_str op_cat)) ?_ h1 h2
  intro F P H σ sv x y d e Q R re rx ry k q
  cases d with
  | int i =>
    cases e with
    | int j =>
      obtain rfl := rx
      obtain rfl := ry
      exact .inl ⟨i, j, rfl, rfl, k _ H P (.int (i + j)) re (Sub.refl P) rfl q⟩
    | _ => exact q.elim
  | str z =>
    cases e with
    | str w =>
      obtain rfl := rx
      obtain rfl := ry
      exact .inr (.inl ⟨z, w, rfl, rfl, q.1, k _ H P (.str (z ++ w)) re (Sub.refl P) rfl q.2⟩)
    | _ => exact q.elim
  | lst xs =>
    cases e with
    | lst ys =>
      obtain ⟨p, vs, rfl, e1, r1⟩ := rx
      obtain ⟨p2, ws, rfl, e2, r2⟩ := ry
      refine .inr (.inr ⟨p, p2, vs, ws, rfl, rfl, re.sub _ _ e1, re.sub _ _ e2, small_line (by rw [r1.length, r2.length]; exact q.1), fun p3 hp => ?_⟩)
      have f3 := re.free hp
      exact k _ _ _ (.lst (xs ++ ys)) (re.lay hp) (sub_upd f3) ⟨p3, _, rfl, upd_same, RpL.mono (sub_upd f3) _ _ (r1.append r2)⟩ q.2
    | _ => exact q.elim
  | _ => exact q.elim
theorem pd_sub {a b : Expr} {f1 f2 : De} (h1 : PD X W a f1) (h2 : PD X W b f2) : PD X W (.BinOp a .Sub b pos) (dOp (gI fun i j => .int (i - j)) f1 f2) := pd_op op_sub (snd_I0 fun _ _ _ => rfl) h1 h2
theorem pd_mod {a b : Expr} {f1 f2 : De} (h1 : PD X W a f1) (h2 : PD X W b f2) : PD X W (.BinOp a .Mod b pos) (dOp (gIC (fun _ j => 0 < j) fun i j => .int (i % j)) f1 f2) := pd_op op_mod (snd_I fun _ _ _ => rfl) h1 h2
/-- * of ints, of a list and an int -/
@[simp] def gMul : G2 := fun d e Q => match d, e with
  | .int i, .int j => CMul i j ∧ Q (.int (i * j))
  | .lst xs, .int k => -(2 ^ 63) ≤ k ∧ k < 2 ^ 63 ∧ xs.length * k.toNat ≤ 100000 ∧ Q (.lst (List.replicate k.toNat xs).flatten)
  | _, _ => False
theorem RpL.rep {K : PySem.W.Frag} {P : Hp} {ds : List D} {vs : List V} (h : RpL K P ds vs) : ∀ n : Nat, RpL K P (List.replicate n ds).flatten (List.replicate n vs).flatten
  | 0 => rfl
  | n + 1 => by
    rw [List.replicate_succ, List.replicate_succ, List.flatten_cons, List.flatten_cons]
    exact h.append (RpL.rep h n)
theorem pd_mul {a b : Expr} {f1 f2 : De} (h1 : PD X W a f1) (h2 : PD X W b f2) : PD X W (.BinOp a .Mult b pos) (dOp gMul f1 f2) := by
  refine pd_op (OpR.or op_mul op_rep) ?_ h1 h2
  intro F P H σ sv x y d e Q R re rx ry k q
  cases d with
  | int i =>
    cases e with
    | int j =>
      obtain rfl := rx
      obtain rfl := ry
      exact .inl ⟨i, j, rfl, rfl, q.1, k _ H P (.int (i * j)) re (Sub.refl P) rfl q.2⟩
    | _ => exact q.elim
  | lst xs =>
    cases e with
    | int j =>
      obtain ⟨p, vs, rfl, e1, r1⟩ := rx
      obtain rfl := ry
      refine .inr ⟨p, j, vs, rfl, rfl, re.sub _ _ e1, q.1, q.2.1, small_line (by rw [r1.length]; exact q.2.2.1), fun p3 hp => ?_⟩
      have f3 := re.free hp
      exact k _ _ _ (.lst _) (re.lay hp) (sub_upd f3) ⟨p3, _, rfl, upd_same, RpL.mono (sub_upd f3) _ _ (r1.rep j.toNat)⟩ q.2.2.2
    | _ => exact q.elim
  | _ => exact q.elim
@[simp] def gLt : G2 := gI fun i j => .bl (decide (i < j))
@[simp] def gLe : G2 := gI fun i j => .bl (decide (i ≤ j))
@[simp] def gGt : G2 := gI fun i j => .bl (decide (j < i))
@[simp] def gGe : G2 := gI fun i j => .bl (decide (j ≤ i))
theorem or_lt : OpR X (compareOp .Lt) (rI0 fun i j => .bl (decide (i < j))) := op_lt
theorem snd_lt {K : PySem.W.Frag} : SndR K (rI0 fun i j => .bl (decide (i < j))) gLt := snd_I0 fun _ _ _ => rfl
theorem snd_le {K : PySem.W.Frag} : SndR K (rI0 fun i j => .bl (decide (i ≤ j))) gLe := snd_I0 fun _ _ _ => rfl
theorem snd_gt {K : PySem.W.Frag} : SndR K (rI0 fun i j => .bl (decide (j < i))) gGt := snd_I0 fun _ _ _ => rfl
theorem snd_ge {K : PySem.W.Frag} : SndR K (rI0 fun i j => .bl (decide (j ≤ i))) gGe := snd_I0 fun _ _ _ => rfl

/-! ### ==, != of plain data -/
@[simp] def gEq : G2 := fun d e Q => ∃ p q, d.py = some p ∧ e.py = some q ∧ min p.depth q.depth ≤ 60 ∧ Q (.bl (PyData.eqv p q))
@[simp] def gNe : G2 := fun d e Q => ∃ p q, d.py = some p ∧ e.py = some q ∧ min p.depth q.depth ≤ 60 ∧ Q (.bl (!PyData.eqv p q))
def rEqP (K : PySem.W.Frag) : R2 := fun x y H Q => ∃ d e, Dp K H x d ∧ Dp K H y e ∧ d.plain = true ∧ e.plain = true ∧ min d.depth e.depth ≤ 60 ∧ Q (.bl (PyData.eqv d e)) H
def rNeP (K : PySem.W.Frag) : R2 := fun x y H Q => ∃ d e, Dp K H x d ∧ Dp K H y e ∧ d.plain = true ∧ e.plain = true ∧ min d.depth e.depth ≤ 60 ∧ Q (.bl (!PyData.eqv d e)) H
theorem op_eqP (hu : X.A.units + 64 < cLine) : OpR X (compareOp .Eq) (rEqP X.K) := by
  intro pins s σ H x y v u Q I rx ry h
  obtain ⟨d, e, hd, he, pd, pe, hm, q⟩ := h
  obtain ⟨as, r1⟩ := Dp.reads I d x v hd rx
  obtain ⟨bs, r2⟩ := Dp.reads I e y u he ry
  exact PySem.SeqAt.eq_plain r1 r2 pd pe (by omega) ⟨.bl _, H, I, rfl, q⟩
theorem op_neP (hu : X.A.units + 64 < cLine) : OpR X (compareOp .NotEq) (rNeP X.K) := by
  intro pins s σ H x y v u Q I rx ry h
  obtain ⟨d, e, hd, he, pd, pe, hm, q⟩ := h
  obtain ⟨as, r1⟩ := Dp.reads I d x v hd rx
  obtain ⟨bs, r2⟩ := Dp.reads I e y u he ry
  exact PySem.SeqAt.ne_plain r1 r2 pd pe (by omega) ⟨.bl _, H, I, rfl, q⟩
theorem snd_eq {K : PySem.W.Frag} : SndR K (rEqP K) gEq := fun F P H σ sv x y d e Q R re rx ry k q => by
  obtain ⟨p, p2, e1, e2, hm, q⟩ := q
  exact ⟨p, p2, Rp.dp d p x e1 (Rp.mono re.sub d x rx), Rp.dp e p2 y e2 (Rp.mono re.sub e y ry), D.py_plain d p e1, D.py_plain e p2 e2, hm, k _ H P (.bl _) re (Sub.refl P) rfl q⟩
theorem snd_ne {K : PySem.W.Frag} : SndR K (rNeP K) gNe := fun F P H σ sv x y d e Q R re rx ry k q => by
  obtain ⟨p, p2, e1, e2, hm, q⟩ := q
  exact ⟨p, p2, Rp.dp d p x e1 (Rp.mono re.sub d x rx), Rp.dp e p2 y e2 (Rp.mono re.sub e y ry), D.py_plain d p e1, D.py_plain e p2 e2, hm, k _ H P (.bl _) re (Sub.refl P) rfl q⟩
/-! ### is None -/
@[simp] def D.isNon : D → Bool
  | .non => true
  | _ => false
theorem D.isNon_v {K : PySem.W.Frag} {P : Hp} {d : D} {v : V} (h : Rp K P d v) : decide (v = .non) = d.isNon := by
  cases d with
  | non => cases h; rfl
  | bl b => cases h; rfl
  | int i => cases h; rfl
  | str x => cases h; rfl
  | lst ds => obtain ⟨a, xs, rfl, _⟩ := h; rfl
  | tup ds => obtain ⟨a, xs, rfl, _⟩ := h; rfl
  | ins C ns ds => obtain ⟨a, dx, xs, rfl, _⟩ := h; rfl
  | dk ks ds => obtain ⟨a, xs, o, rfl, _⟩ := h; rfl
  | dt ks ds => obtain ⟨a, xs, o, rfl, _⟩ := h; rfl
  | scr ns => obtain ⟨a, rfl, _⟩ := h; rfl
  | cst ds => obtain ⟨a, xs, rfl, _⟩ := h; rfl
@[simp] def gIsN : G2 := fun d e Q => e = .non ∧ Q (.bl d.isNon)
@[simp] def gNotN : G2 := fun d e Q => e = .non ∧ Q (.bl (!d.isNon))
theorem snd_isN {K : PySem.W.Frag} : SndR K rIsN gIsN := fun F P H σ sv x y d e Q R re rx ry k q => by
  obtain ⟨rfl, q⟩ := q
  refine ⟨ry, ?_⟩
  rw [D.isNon_v rx]
  exact k _ H P (.bl _) re (Sub.refl P) rfl q
theorem snd_notN {K : PySem.W.Frag} : SndR K rNotN gNotN := fun F P H σ sv x y d e Q R re rx ry k q => by
  obtain ⟨rfl, q⟩ := q
  refine ⟨ry, ?_⟩
  rw [D.isNon_v rx]
  exact k _ H P (.bl _) re (Sub.refl P) rfl q
end
end Pd
end
section
set_option autoImplicit false
set_option Elab.async false
set_option linter.all false
set_option autoImplicit false
set_option maxRecDepth 100000
set_option maxHeartbeats 1000000
/-! Pd3: membership, chains, and | or | not, tests, choices, items, slices, fields, built-ins. -/
namespace Pd
open PySem PySem.Spec PyProof.Rows L2
section
variable {X : Cx} {W : Wz} {pos : Pos}

/-! ### in -/
def rInP (K : PySem.W.Frag) : R2 := fun x y H Q => ∃ d ds, Dp K H x d ∧ (Dp K H y (.list ds) ∨ Dp K H y (.tuple ds)) ∧ d.plain = true ∧ PyData.plainAll ds = true ∧ min (PyData.depthAll ds) d.depth ≤ 60 ∧ Q (.bl (ds.any fun z => PyData.eqv z d)) H
def rNotInP (K : PySem.W.Frag) : R2 := fun x y H Q => ∃ d ds, Dp K H x d ∧ (Dp K H y (.list ds) ∨ Dp K H y (.tuple ds)) ∧ d.plain = true ∧ PyData.plainAll ds = true ∧ min (PyData.depthAll ds) d.depth ≤ 60 ∧ Q (.bl (!ds.any fun z => PyData.eqv z d)) H
theorem op_inP (hu : X.A.units + 65 < cLine) : OpR X (compareOp .In) (rInP X.K) := by
  intro pins s σ H x y v u Q I rx ry h
  obtain ⟨d, ds, hd, he, pd, pe, hm, q⟩ := h
  obtain ⟨as, r1⟩ := Dp.reads I d x v hd rx
  rcases he with he | he
  · obtain ⟨bs, r2⟩ := Dp.reads I _ y u he ry
    exact PySem.SeqAt.in_list_data r2 r1 pe pd (by omega) ⟨.bl _, H, I, rfl, q⟩
  · obtain ⟨bs, r2⟩ := Dp.reads I _ y u he ry
    exact PySem.SeqAt.in_tuple_data r2 r1 pe pd (by omega) ⟨.bl _, H, I, rfl, q⟩
theorem op_notInP (hu : X.A.units + 65 < cLine) : OpR X (compareOp .NotIn) (rNotInP X.K) := by
  intro pins s σ H x y v u Q I rx ry h
  obtain ⟨d, ds, hd, he, pd, pe, hm, q⟩ := h
  obtain ⟨as, r1⟩ := Dp.reads I d x v hd rx
  rcases he with he | he
  · obtain ⟨bs, r2⟩ := Dp.reads I _ y u he ry
    exact PySem.SeqAt.notIn_list_data r2 r1 pe pd (by omega) ⟨.bl _, H, I, rfl, q⟩
  · obtain ⟨bs, r2⟩ := Dp.reads I _ y u he ry
    exact PySem.SeqAt.notIn_tuple_data r2 r1 pe pd (by omega) ⟨.bl _, H, I, rfl, q⟩
/-- what x in y is -/
@[simp] def isIn (d e : D) (Q : Bool → Prop) : Prop := match e with
  | .str z => ∃ c, d = .str ⟨#[c]⟩ ∧ Q (decide (c ∈ z.cps.toList))
  | .lst es => ∃ p ps, d.py = some p ∧ D.pyL es = some ps ∧ min (PyData.depthAll ps) p.depth ≤ 60 ∧ Q (ps.any fun z => PyData.eqv z p)
  | .tup es => ∃ p ps, d.py = some p ∧ D.pyL es = some ps ∧ min (PyData.depthAll ps) p.depth ≤ 60 ∧ Q (ps.any fun z => PyData.eqv z p)
  | .cst es => ∃ p ps, d.py = some p ∧ D.pyL es = some ps ∧ min (PyData.depthAll ps) p.depth ≤ 60 ∧ Q (ps.any fun z => PyData.eqv z p)
  | _ => False
@[simp] def gIn : G2 := fun d e Q => isIn d e fun b => Q (.bl b)
@[simp] def gNotIn : G2 := fun d e Q => isIn d e fun b => Q (.bl (!b))
theorem pyTup {es : List D} {ps : List PyData} (h : D.pyL es = some ps) : (D.tup es).py = some (.tuple ps) := by simp [D.py, h]
theorem pyCst {es : List D} {ps : List PyData} (h : D.pyL es = some ps) : (D.cst es).py = some (.tuple ps) := by simp [D.py, h]
theorem pyLst {es : List D} {ps : List PyData} (h : D.pyL es = some ps) : (D.lst es).py = some (.list ps) := by simp [D.py, h]
theorem snd_in {K : PySem.W.Frag} : SndR K (fun x y H Q => (∃ (c : Nat) (z : Str), x = .str ⟨#[c]⟩ ∧ y = .str z ∧ Q (.bl (decide (c ∈ z.cps.toList))) H) ∨ rInP K x y H Q) gIn := fun F P H σ sv x y d e Q R re rx ry k q => by
  cases e with
  | str z =>
    obtain ⟨c, rfl, q⟩ := q
    obtain rfl := ry
    obtain rfl := rx
    exact .inl ⟨c, z, rfl, rfl, k _ H P (.bl _) re (Sub.refl P) rfl q⟩
  | lst es =>
    obtain ⟨p, ps, e1, e2, hm, q⟩ := q
    exact .inr ⟨p, ps, Rp.dp d p x e1 (Rp.mono re.sub d x rx), .inl (Rp.dp _ _ y (pyLst e2) (Rp.mono re.sub _ y ry)), D.py_plain d p e1, D.pyL_plain es ps e2, hm, k _ H P (.bl _) re (Sub.refl P) rfl q⟩
  | tup es =>
    obtain ⟨p, ps, e1, e2, hm, q⟩ := q
    exact .inr ⟨p, ps, Rp.dp d p x e1 (Rp.mono re.sub d x rx), .inr (Rp.dp _ _ y (pyTup e2) (Rp.mono re.sub _ y ry)), D.py_plain d p e1, D.pyL_plain es ps e2, hm, k _ H P (.bl _) re (Sub.refl P) rfl q⟩
  | cst es =>
    obtain ⟨p, ps, e1, e2, hm, q⟩ := q
    exact .inr ⟨p, ps, Rp.dp d p x e1 (Rp.mono re.sub d x rx), .inr (Rp.dp _ _ y (pyCst e2) (Rp.mono re.sub _ y ry)), D.py_plain d p e1, D.pyL_plain es ps e2, hm, k _ H P (.bl _) re (Sub.refl P) rfl q⟩
  | _ => exact q.elim
theorem snd_notIn {K : PySem.W.Frag} : SndR K (fun x y H Q => (∃ (c : Nat) (z : Str), x = .str ⟨#[c]⟩ ∧ y = .str z ∧ Q (.bl (!decide (c ∈ z.cps.toList))) H) ∨ rNotInP K x y H Q) gNotIn := fun F P H σ sv x y d e Q R re rx ry k q => by
  cases e with
  | str z =>
    obtain ⟨c, rfl, q⟩ := q
    obtain rfl := ry
    obtain rfl := rx
    exact .inl ⟨c, z, rfl, rfl, k _ H P (.bl _) re (Sub.refl P) rfl q⟩
  | lst es =>
    obtain ⟨p, ps, e1, e2, hm, q⟩ := q
    exact .inr ⟨p, ps, Rp.dp d p x e1 (Rp.mono re.sub d x rx), .inl (Rp.dp _ _ y (pyLst e2) (Rp.mono re.sub _ y ry)), D.py_plain d p e1, D.pyL_plain es ps e2, hm, k _ H P (.bl _) re (Sub.refl P) rfl q⟩
  | tup es =>
    obtain ⟨p, ps, e1, e2, hm, q⟩ := q
    exact .inr ⟨p, ps, Rp.dp d p x e1 (Rp.mono re.sub d x rx), .inr (Rp.dp _ _ y (pyTup e2) (Rp.mono re.sub _ y ry)), D.py_plain d p e1, D.pyL_plain es ps e2, hm, k _ H P (.bl _) re (Sub.refl P) rfl q⟩
  | cst es =>
    obtain ⟨p, ps, e1, e2, hm, q⟩ := q
    exact .inr ⟨p, ps, Rp.dp d p x e1 (Rp.mono re.sub d x rx), .inr (Rp.dp _ _ y (pyCst e2) (Rp.mono re.sub _ y ry)), D.py_plain d p e1, D.pyL_plain es ps e2, hm, k _ H P (.bl _) re (Sub.refl P) rfl q⟩
  | _ => exact q.elim

/-! ### a op b op' c -/
@[simp] def dChain (g g' : G2) (f1 f2 f3 : De) : De := fun sv Q E => f1 sv (fun d sv1 => f2 sv1 (fun e sv2 => g d e fun z => ∃ b, z = .bl b ∧ if b = true then f3 sv2 (fun w sv3 => g' e w fun u => Q u sv3) E else Q (.bl false) sv2) E) E
theorem snd_chain {K : PySem.W.Frag} {ta tb tc : TE} {f1 f2 f3 : De} {r r' : R2} {g g' : G2} (h1 : SndE K W ta f1) (h2 : SndE K W tb f2) (h3 : SndE K W tc f3) (hr : SndR K r g) (hr' : SndR K r' g') :
    SndE K W (tChain r r' ta tb tc) (dChain g g' f1 f2 f3) := fun F P H σ sv Q E R re k kx q =>
  h1 F P H σ sv _ E _ re (fun x H1 P1 d sv1 r1 s1 rx q1 => h2 F P1 H1 σ sv1 _ E _ r1 (fun y H2 P2 e sv2 r2 s2 ry q2 =>
    hr _ P2 H2 σ sv2 x y d e _ _ r2 (Rp.mono s2 d x rx) ry (fun v H3 P3 z r3 s3 rz q3 => by
      obtain ⟨b, rfl, q3⟩ := q3
      refine ⟨b, rz, ?_⟩
      cases b with
      | true =>
        exact h3 F P3 H3 σ sv2 _ E _ r3 (fun w H4 P4 dw sv3 r4 s4 rw q4 => hr' _ P4 H4 σ sv3 y w e dw _ R r4 (Rp.mono s4 e y (Rp.mono s3 e y ry)) rw
          (fun v' H5 P5 z' r5 s5 rz' q5 => k v' H5 P5 z' sv3 r5 ((((s1.trans s2).trans s3).trans s4).trans s5) rz' q5) q4) kx q3
      | false => exact k _ H3 P3 (.bl false) sv2 r3 ((s1.trans s2).trans s3) rfl q3) q2) kx q1) kx q
theorem pd_chain {a b c : Expr} {op op' : CmpOp} {f1 f2 f3 : De} {r r' : R2} {g g' : G2} (ho : OpR X (compareOp op) r) (hr : SndR X.K r g) (ho' : OpR X (compareOp op') r') (hr' : SndR X.K r' g') (h1 : PD X W a f1) (h2 : PD X W b f2) (h3 : PD X W c f3)
    (hm : lastMarks [op, op'] [b, c] = false := by with_unfolding_all rfl) : PD X W (.Compare a [op, op'] [b, c] pos) (dChain g g' f1 f2 f3) := by
  obtain ⟨ta, p1, s1⟩ := h1
  obtain ⟨tb, p2, s2⟩ := h2
  obtain ⟨tc, p3, s3⟩ := h3
  exact ⟨_, pe_chain ho ho' p1 p2 p3 hm, snd_chain s1 s2 s3 hr hr'⟩

/-! ### and, or, not: values that are bools -/
@[simp] def dAndV (f g : De) : De := fun sv Q E => f sv (fun d sv1 => ∃ b, d = .bl b ∧ if b = true then g sv1 Q E else Q (.bl false) sv1) E
@[simp] def dOrV (f g : De) : De := fun sv Q E => f sv (fun d sv1 => ∃ b, d = .bl b ∧ if b = true then Q (.bl true) sv1 else g sv1 Q E) E
@[simp] def dNotV (f : De) : De := fun sv Q E => f sv (fun d sv1 => ∃ b, d = .bl b ∧ Q (.bl (!b)) sv1) E
theorem pd_one {op} {a : Expr} {f : De} (h : PD X W a f) : PD X W (.BoolOp op [a] pos) f := by
  obtain ⟨t, p, s⟩ := h
  exact ⟨t, pe_one p, s⟩
theorem pd_and {a b : Expr} {rest : List Expr} {f g : De} (h1 : PD X W a f) (h2 : PD X W (.BoolOp .And (b :: rest) pos) g) : PD X W (.BoolOp .And (a :: b :: rest) pos) (dAndV f g) := by
  obtain ⟨ta, p1, s1⟩ := h1
  obtain ⟨tb, p2, s2⟩ := h2
  refine ⟨_, pe_and p1 p2, fun F P H σ sv Q E R re k kx q => s1 F P H σ sv _ E _ re (fun v H1 P1 d sv1 r1 s1' rv q1 => ?_) kx q⟩
  obtain ⟨b, rfl, q1⟩ := q1
  refine ⟨b, rv, ?_⟩
  cases b with
  | true => exact s2 F P1 H1 σ sv1 Q E R r1 (fun v' H2 P2 d' sv2 r2 s2' rv' q2 => k v' H2 P2 d' sv2 r2 (s1'.trans s2') rv' q2) kx q1
  | false => exact k _ H1 P1 (.bl false) sv1 r1 s1' rfl q1
theorem pd_or {a b : Expr} {rest : List Expr} {f g : De} (h1 : PD X W a f) (h2 : PD X W (.BoolOp .Or (b :: rest) pos) g) : PD X W (.BoolOp .Or (a :: b :: rest) pos) (dOrV f g) := by
  obtain ⟨ta, p1, s1⟩ := h1
  obtain ⟨tb, p2, s2⟩ := h2
  refine ⟨_, pe_or p1 p2, fun F P H σ sv Q E R re k kx q => s1 F P H σ sv _ E _ re (fun v H1 P1 d sv1 r1 s1' rv q1 => ?_) kx q⟩
  obtain ⟨b, rfl, q1⟩ := q1
  refine ⟨b, rv, ?_⟩
  cases b with
  | true => exact k _ H1 P1 (.bl true) sv1 r1 s1' rfl q1
  | false => exact s2 F P1 H1 σ sv1 Q E R r1 (fun v' H2 P2 d' sv2 r2 s2' rv' q2 => k v' H2 P2 d' sv2 r2 (s1'.trans s2') rv' q2) kx q1
theorem pd_not {a : Expr} {f : De} (h1 : PD X W a f) : PD X W (.UnaryOp .Not a pos) (dNotV f) := by
  obtain ⟨ta, p1, s1⟩ := h1
  refine ⟨_, pe_not p1, fun F P H σ sv Q E R re k kx q => s1 F P H σ sv _ E _ re (fun v H1 P1 d sv1 r1 s1' rv q1 => ?_) kx q⟩
  obtain ⟨b, rfl, q1⟩ := q1
  exact ⟨b, rv, k _ H1 P1 (.bl (!b)) sv1 r1 s1' rfl q1⟩

/-! ### tests -/
theorem pdt_val {e : Expr} {f : De} (h : PD X W e f) (he : ∀ whole, isTrue e X.env whole = (do let v ← whole; standAt e.pos; holding [v] (truthy v)) := by intro _; rfl) : PDT X W e (dTest f) := by
  obtain ⟨t, p, s⟩ := h
  refine ⟨_, pt_val p he, fun F P H σ sv Q E R re k kx q => s F P H σ sv _ E _ re (fun v H1 P1 d sv1 r1 s1' rv q1 => ?_) kx q⟩
  obtain ⟨b, rfl, q1⟩ := q1
  exact ⟨b, rv, k b H1 P1 sv1 r1 s1' q1⟩
def PDW (X : Cx) (W : Wz) (e : Expr) (f : Dt) : Prop := ∃ t, PW X e t ∧ SndT X.K W t f
theorem pdt_w {e : Expr} {f : Dt} (h : PDW X W e f) : PDT X W e f := by
  obtain ⟨t, p, s⟩ := h
  exact ⟨t, p.pt, s⟩
@[simp] def dAnd (f g : Dt) : Dt := fun sv Q E => f sv (fun b sv1 => if b = true then g sv1 Q E else Q false sv1) E
@[simp] def dOr (f g : Dt) : Dt := fun sv Q E => f sv (fun b sv1 => if b = true then Q true sv1 else g sv1 Q E) E
@[simp] def dNot (f : Dt) : Dt := fun sv Q E => f sv (fun b sv1 => Q (!b) sv1) E
theorem pdw_and1 {a : Expr} {f : Dt} (h : PDT X W a f) : PDW X W (.BoolOp .And [a] pos) f := by
  obtain ⟨t, p, s⟩ := h
  exact ⟨t, pw_and1 p, s⟩
theorem pdw_or1 {a : Expr} {f : Dt} (h : PDT X W a f) : PDW X W (.BoolOp .Or [a] pos) f := by
  obtain ⟨t, p, s⟩ := h
  exact ⟨t, pw_or1 p, s⟩
theorem snd_and {K : PySem.W.Frag} {t u : TT} {f g : Dt} (s1 : SndT K W t f) (s2 : SndT K W u g) : SndT K W (tAnd t u) (dAnd f g) := fun F P H σ sv Q E R re k kx q => s1 F P H σ sv _ E _ re (fun b H1 P1 sv1 r1 s1' q1 => by
  cases b with
  | true => exact s2 F P1 H1 σ sv1 Q E R r1 (fun b' H2 P2 sv2 r2 s2' q2 => k b' H2 P2 sv2 r2 (s1'.trans s2') q2) kx q1
  | false => exact k false H1 P1 sv1 r1 s1' q1) kx q
theorem snd_or {K : PySem.W.Frag} {t u : TT} {f g : Dt} (s1 : SndT K W t f) (s2 : SndT K W u g) : SndT K W (tOr t u) (dOr f g) := fun F P H σ sv Q E R re k kx q => s1 F P H σ sv _ E _ re (fun b H1 P1 sv1 r1 s1' q1 => by
  cases b with
  | true => exact k true H1 P1 sv1 r1 s1' q1
  | false => exact s2 F P1 H1 σ sv1 Q E R r1 (fun b' H2 P2 sv2 r2 s2' q2 => k b' H2 P2 sv2 r2 (s1'.trans s2') q2) kx q1) kx q
theorem pdw_and {a b : Expr} {rest : List Expr} {f g : Dt} (h1 : PDT X W a f) (h2 : PDW X W (.BoolOp .And (b :: rest) pos) g) : PDW X W (.BoolOp .And (a :: b :: rest) pos) (dAnd f g) := by
  obtain ⟨ta, p1, s1⟩ := h1
  obtain ⟨tb, p2, s2⟩ := h2
  exact ⟨_, pw_and p1 p2, snd_and s1 s2⟩
theorem pdw_or {a b : Expr} {rest : List Expr} {f g : Dt} (h1 : PDT X W a f) (h2 : PDW X W (.BoolOp .Or (b :: rest) pos) g) : PDW X W (.BoolOp .Or (a :: b :: rest) pos) (dOr f g) := by
  obtain ⟨ta, p1, s1⟩ := h1
  obtain ⟨tb, p2, s2⟩ := h2
  exact ⟨_, pw_or p1 p2, snd_or s1 s2⟩
theorem pdt_not {a : Expr} {f : Dt} (h1 : PDT X W a f) : PDT X W (.UnaryOp .Not a pos) (dNot f) := by
  obtain ⟨ta, p1, s1⟩ := h1
  exact ⟨_, pt_not p1, fun F P H σ sv Q E R re k kx q => s1 F P H σ sv _ E _ re (fun b H1 P1 sv1 r1 s1' q1 => k (!b) H1 P1 sv1 r1 s1' q1) kx q⟩
/-- the truth of data: a bool, a list, a tuple, an int, a text, None -/
@[simp] def D.tru : D → Option Bool
  | .non => some false
  | .bl b => some b
  | .int i => some (i != 0)
  | .str x => if x.length ≤ sizeLine then some ((x.length : Int) != 0) else none
  | .lst ds => some (!ds.isEmpty)
  | .tup ds => some (!ds.isEmpty)
  | _ => none
@[simp] def dTru (f : De) : Dt := fun sv Q E => f sv (fun d sv' => ∃ b, d.tru = some b ∧ Q b sv') E
theorem isEmptyL {K : PySem.W.Frag} {P : Hp} {ds : List D} {vs : List V} (h : RpL K P ds vs) : vs.isEmpty = ds.isEmpty := by
  cases ds with
  | nil => cases h; rfl
  | cons d ds => obtain ⟨v, r, rfl, _⟩ := h; rfl
theorem tru_v {K : PySem.W.Frag} {H : Hp} {d : D} {v : V} {b : Bool} (h : Rp K H d v) (e : d.tru = some b) : TruV K v H b := by
  cases d with
  | non => cases h; cases e; rfl
  | bl b => cases h; cases e; rfl
  | int i => cases h; cases e; rfl
  | str x =>
    cases h
    have e2 : (if x.length ≤ sizeLine then some ((x.length : Int) != 0) else none) = some b := e
    by_cases hx : x.length ≤ sizeLine
    · rw [if_pos hx] at e2
      cases e2
      exact ⟨hx, rfl⟩
    · rw [if_neg hx] at e2
      cases e2
  | lst ds =>
    obtain ⟨a, xs, rfl, h1, h2⟩ := h
    cases e
    exact .inl ⟨xs, SqL.of h1, by rw [isEmptyL h2]⟩
  | tup ds =>
    obtain ⟨a, xs, rfl, h1, h2⟩ := h
    cases e
    exact .inr (.inl ⟨xs, sqT_of h1, by rw [isEmptyL h2]⟩)
  | _ => cases e
theorem pdt_tru {e : Expr} {f : De} (h : PD X W e f) (he : ∀ whole, isTrue e X.env whole = (do let v ← whole; standAt e.pos; holding [v] (truthy v)) := by intro _; rfl) : PDT X W e (dTru f) := by
  obtain ⟨t, p, s⟩ := h
  refine ⟨_, pt_truth p he, fun F P H σ sv Q E R re k kx q => s F P H σ sv _ E _ re (fun v H1 P1 d sv1 r1 s1' rv q1 => ?_) kx q⟩
  obtain ⟨b, e1, q1⟩ := q1
  exact ⟨b, tru_v (Rp.mono r1.sub d v rv) e1, k b H1 P1 sv1 r1 s1' q1⟩

/-! ### a if c else b -/
@[simp] def dIf (c : Dt) (f g : De) : De := fun sv Q E => c sv (fun b sv1 => if b = true then f sv1 Q E else g sv1 Q E) E
theorem pd_if {c a b : Expr} {fc : Dt} {f g : De} (hc : PDT X W c fc) (h1 : PD X W a f) (h2 : PD X W b g) : PD X W (.IfExp c a b pos) (dIf fc f g) := by
  obtain ⟨tc, pc, sc⟩ := hc
  obtain ⟨ta, p1, s1⟩ := h1
  obtain ⟨tb, p2, s2⟩ := h2
  refine ⟨_, pe_ifExp pc p1 p2, fun F P H σ sv Q E R re k kx q => sc F P H σ sv _ E _ re (fun c H1 P1 sv1 r1 s1' q1 => ?_) kx q⟩
  cases c with
  | true => exact s1 F P1 H1 σ sv1 Q E R r1 (fun v' H2 P2 d' sv2 r2 s2' rv' q2 => k v' H2 P2 d' sv2 r2 (s1'.trans s2') rv' q2) kx q1
  | false => exact s2 F P1 H1 σ sv1 Q E R r1 (fun v' H2 P2 d' sv2 r2 s2' rv' q2 => k v' H2 P2 d' sv2 r2 (s1'.trans s2') rv' q2) kx q1

/-! ### items and slices -/
theorem atI_rel {K : PySem.W.Frag} {P : Hp} {ds : List D} {vs : List V} {i : Int} {z : D} (h : RpL K P ds vs) (e : atI ds i = some z) : ∃ v, atI vs i = some v ∧ Rp K P z v := by
  unfold atI at e ⊢
  rw [h.length]
  cases q : ixN ds.length i with
  | none =>
    rw [q] at e
    cases e
  | some j =>
    rw [q] at e
    exact h.getD e
@[simp] def gIx : G2 := fun d e Q => match d, e with
  | .lst ds, .int i => ∃ z, atI ds i = some z ∧ Q z
  | .tup ds, .int i => ∃ z, atI ds i = some z ∧ Q z
  | .str s, .int i => s.length ≤ sizeLine ∧ ∃ c, atI s.cps.toList i = some c ∧ Q (.str ⟨#[c]⟩)
  | _, _ => False
theorem pd_ix {a b : Expr} {f g : De} (h1 : PD X W a f) (h2 : PD X W b g) (hs : PlainIx b := by exact fun _ _ => rfl) : PD X W (.Subscript a b pos) (dOp gIx f g) := by
  obtain ⟨ta, p1, s1⟩ := h1
  obtain ⟨tb, p2, s2⟩ := h2
  refine ⟨_, pe_ix (IxR.or ix_list (IxR.or ix_tup ix_str)) p1 p2 hs, snd_op s1 s2 fun F P H σ sv x y d e Q R re rx ry k q => ?_⟩
  cases d with
  | lst ds =>
    cases e with
    | int i =>
      obtain ⟨p, vs, rfl, e1, r1⟩ := rx
      obtain rfl := ry
      obtain ⟨z, ez, q⟩ := q
      obtain ⟨v, ev, rv⟩ := atI_rel r1 ez
      exact .inl ⟨p, vs, i, v, rfl, rfl, SqL.of (re.sub _ _ e1), ev, k v H P z re (Sub.refl P) rv q⟩
    | _ => exact q.elim
  | tup ds =>
    cases e with
    | int i =>
      obtain ⟨p, vs, rfl, e1, r1⟩ := rx
      obtain rfl := ry
      obtain ⟨z, ez, q⟩ := q
      obtain ⟨v, ev, rv⟩ := atI_rel r1 ez
      exact .inr (.inl ⟨p, vs, i, v, rfl, rfl, sqT_of (re.sub _ _ e1), ev, k v H P z re (Sub.refl P) rv q⟩)
    | _ => exact q.elim
  | str s =>
    cases e with
    | int i =>
      obtain rfl := rx
      obtain rfl := ry
      obtain ⟨hl, c, ec, q⟩ := q
      exact .inr (.inr ⟨s, i, c, rfl, rfl, hl, ec, k _ H P (.str ⟨#[c]⟩) re (Sub.refl P) rfl q⟩)
    | _ => exact q.elim
  | _ => exact q.elim
/-- a part of a slice -/
abbrev Do := Sv → (Option Int → Sv → Prop) → DX → Prop
def SndO (K : PySem.W.Frag) (W : Wz) (t : TO) (f : Do) : Prop := ∀ (F : Fr) (P H : Hp) (σ : L2.St) (sv : Sv) (Q : Option Int → Sv → Prop) (E : DX) (R : Option Int → Hp → Prop), Rel K (F.at W.z) P H σ sv →
  (∀ o H' P' sv', Rel K (F.at W.z) P' H' σ sv' → Sub P P' → Q o sv' → R o H') →
  (∀ cls dd H' P' x sv', Rel K (F.at W.z) P' H' σ sv' → XdRel K P' H' x cls dd → E x sv' → W cls dd σ H') → f sv Q E → t σ H R
def PDO (X : Cx) (W : Wz) (e : Option Expr) (f : Do) : Prop := ∃ t, PO X e t ∧ SndO X.K W t f
@[simp] def dNoPart : Do := fun sv Q _ => Q none sv
@[simp] def dPart (f : De) : Do := fun sv Q E => f sv (fun d sv1 => ∃ i, d = .int i ∧ Q (some i) sv1) E
theorem pdo_none : PDO X W none dNoPart := ⟨_, po_none, fun F P H σ sv Q E R re k kx q => k _ H P sv re (Sub.refl P) q⟩
theorem pdo_some {e : Expr} {f : De} (h : PD X W e f) : PDO X W (some e) (dPart f) := by
  obtain ⟨t, p, s⟩ := h
  refine ⟨_, po_some p, fun F P H σ sv Q E R re k kx q => s F P H σ sv _ E _ re (fun v H1 P1 d sv1 r1 s1' rv q1 => ?_) kx q⟩
  obtain ⟨i, rfl, q1⟩ := q1
  exact ⟨i, rv, k (some i) H1 P1 sv1 r1 s1' q1⟩
def cutD {α : Type} (xs : List α) (lo hi : Option Int) : List α := (xs.drop (HT.sIx xs.length 0 lo)).take (HT.sIx xs.length xs.length hi - HT.sIx xs.length 0 lo)
theorem cut_rel {K : PySem.W.Frag} {P : Hp} {ds : List D} {vs : List V} (lo hi : Option Int) (h : RpL K P ds vs) : RpL K P (cutD ds lo hi) (cutV vs lo hi) := by
  unfold cutD cutV
  rw [h.length]
  exact (h.drop _).take _
/-- xs[lo:hi] of a list: a new one -/
@[simp] def dSl (f : De) (lo hi : Do) : Dl := fun sv Q E => f sv (fun d sv1 => lo sv1 (fun l sv2 => hi sv2 (fun u sv3 => ∃ ds, d = .lst ds ∧ Q (cutD ds l u) sv3) E) E) E
theorem pdl_sl {e : Expr} {lo hi : Option Expr} {p2 : Pos} {f : De} {g h : Do} (h1 : PD X W e f) (h2 : PDO X W lo g) (h3 : PDO X W hi h) : PDL X W (.Subscript e (.Slice lo hi none p2) pos) (dSl f g h) := by
  obtain ⟨ta, p1, s1⟩ := h1
  obtain ⟨tb, p2, s2⟩ := h2
  obtain ⟨tc, p3, s3⟩ := h3
  refine ⟨_, pe_slice sl_list p1 p2 p3, fun F P H σ sv Q E R re k kx q => s1 F P H σ sv _ E _ re (fun v H1 P1 d sv1 r1 s1' rv q1 => s2 F P1 H1 σ sv1 _ E _ r1 (fun l H2 P2 sv2 r2 s2' q2 => s3 F P2 H2 σ sv2 _ E _ r2 (fun u H3 P3 sv3 r3 s3' q3 => ?_) kx q2) kx q1) kx q⟩
  obtain ⟨ds, rfl, q3⟩ := q3
  obtain ⟨a, vs, rfl, e1, rl⟩ := Rp.mono (s2'.trans s3') (.lst ds) v rv
  exact ⟨a, vs, rfl, SqL.of (r3.sub _ _ e1), fun p hp => k p _ _ _ sv3 (r3.layH hp) ((s1'.trans s2').trans s3') (r3.newL hp (cut_rel l u rl)) q3⟩

/-! ### o.f of an instance -/
def OkF (K : PySem.W.Frag) (C : Addr) (f : Str) : Prop := Cls K C ∧ NoAttr K C f
theorem lookup_zip {K : PySem.W.Frag} {P : Hp} {f : Str} : ∀ {ns : List Str} {ds : List D} {vs : List V} {z : D}, RpL K P ds vs → (ns.zip ds).lookup f = some z → ∃ v, (ns.zip vs).lookup f = some v ∧ Rp K P z v
  | [], ds, vs, z, _, e => by simp at e
  | n :: ns, [], vs, z, _, e => by simp at e
  | n :: ns, d :: ds, vs, z, h, e => by
    obtain ⟨v, r, rfl, h1, h2⟩ := h
    simp only [List.zip_cons_cons, List.lookup_cons] at e ⊢
    cases q : (f == n) with
    | true =>
      rw [q] at e
      cases e
      exact ⟨v, rfl, h1⟩
    | false =>
      rw [q] at e
      exact lookup_zip h2 e
@[simp] def gFld (K : PySem.W.Frag) (f : Str) (d : D) (Q : D → Prop) : Prop := match d with
  | .ins C ns ds => OkF K C f ∧ ∃ z, (ns.zip ds).lookup f = some z ∧ Q z
  | _ => False
@[simp] def dFld (K : PySem.W.Frag) (f : Str) (g : De) : De := fun sv Q E => g sv (fun d sv1 => gFld K f d fun z => Q z sv1) E
theorem pd_fld {e : Expr} {f : Str} {g : De} (h : PD X W e g) (hb : attributeBase e f X.env (eval e X.env) = eval e X.env := by rfl) : PD X W (.Attribute e f pos) (dFld X.K f g) := by
  obtain ⟨t, p, s⟩ := h
  refine ⟨_, pe_fld p hb, fun F P H σ sv Q E R re k kx q => s F P H σ sv _ E _ re (fun v H1 P1 d sv1 r1 s1' rv q1 => ?_) kx q⟩
  cases d with
  | ins C ns ds =>
    obtain ⟨⟨c, n⟩, z, ez, q1⟩ := q1
    obtain ⟨a, dx, vs, rfl, e1, _, rl⟩ := rv
    obtain ⟨w, ew, rw⟩ := lookup_zip rl ez
    exact ⟨a, C, dx, _, w, rfl, r1.sub _ _ e1, c, n, ew, k w H1 P1 z sv1 r1 s1' rw q1⟩
  | _ => exact q1.elim
end
end Pd
end
section
set_option autoImplicit false
set_option Elab.async false
set_option linter.all false
set_option autoImplicit false
set_option maxRecDepth 100000
set_option maxHeartbeats 1000000
/-! Pd4: built-ins by name, lists of one's own. -/
namespace Pd
open PySem PySem.Spec PyProof.Rows L2
section
variable {X : Cx} {W : Wz} {pos : Pos}

/-! ### calls of built-ins with data -/
abbrev G1 := List D → (D → Prop) → Prop
def SndC (K : PySem.W.Frag) (r : List V → Hp → VK → Prop) (g : G1) : Prop := ∀ (F : Fr) (P H : Hp) (σ : L2.St) (sv : Sv) (vs : List V) (ds : List D) (Q : D → Prop) (R : VK), Rel K F P H σ sv → RpL K P ds vs →
  (∀ v H' P' z, Rel K F P' H' σ sv → Sub P P' → Rp K P' z v → Q z → R v H') → g ds Q → r vs H R
@[simp] def dCB (g : G1) (fa : Da) : De := fun sv Q E => fa sv (fun as sv1 => ∃ ds, asD as = some ds ∧ g ds fun z => Q z sv1) E
theorem snd_cb {K : PySem.W.Frag} {ta : TA} {fa : Da} {r : List V → Hp → VK → Prop} {g : G1} (h1 : SndA K W ta fa) (hr : SndC K r g) : SndE K W (tCB r ta) (dCB g fa) := fun F P H σ sv Q E R re k kx q =>
  h1 F P H σ sv _ E _ re (fun vs H1 P1 as sv1 r1 s1 ra ⟨ds, e, q1⟩ => hr _ P1 H1 σ sv1 vs ds _ R r1 (asD_rel ra e) (fun v H2 P2 z r2 s2 rz q2 => k v H2 P2 z sv1 r2 (s1.trans s2) rz q2) q1) kx q
theorem pd_callB {x : Str} {p : Pos} {e : Expr} {es : List Expr} {fa : Da} {id : String} {r : List V → Hp → VK → Prop} {g : G1} (hc : CallR X (.builtin id) r) (hr : SndC X.K r g) (hv : bootBuiltins x = some (.builtin id)) (hg : Gl X x) (hm : X.mg x = none) (ha : PDA X W (e :: es) fa)
    (hn : x ≠ "__name__" := by decide) (hdb : (x == ("__debug__" : Str)) = false := by decide) (he : starEach (e :: es) X.env = (false, eval e X.env) :: starEach es X.env := by rfl) (hpl : (backTo pos (starEach es X.env)).any (·.1) = false := by rfl) :
    PD X W (.Call (.Name x p) (e :: es) [] pos) (dCB g fa) := by
  obtain ⟨ta, p1, s1⟩ := ha
  exact ⟨_, pe_callB hc hg hm hv p1 hn hdb he hpl, snd_cb s1 hr⟩
theorem pd_callTy {x : Str} {p : Pos} {e : Expr} {es : List Expr} {fa : Da} {T : String} {r : List V → Hp → VK → Prop} {g : G1} (hc : CallR X (.type T) r) (hr : SndC X.K r g) (hv : bootBuiltins x = some (.type T)) (hg : Gl X x) (hm : X.mg x = none) (ha : PDA X W (e :: es) fa)
    (hn : x ≠ "__name__" := by decide) (hdb : (x == ("__debug__" : Str)) = false := by decide) (he : starEach (e :: es) X.env = (false, eval e X.env) :: starEach es X.env := by rfl) (hpl : (backTo pos (starEach es X.env)).any (·.1) = false := by rfl) :
    PD X W (.Call (.Name x p) (e :: es) [] pos) (dCB g fa) := by
  obtain ⟨ta, p1, s1⟩ := ha
  exact ⟨_, pe_callTy hc hg hm hv p1 hn hdb he hpl, snd_cb s1 hr⟩

/-! len -/
@[simp] def len1 (d : D) (Q : D → Prop) : Prop := match d with
  | .lst xs => Q (.int xs.length)
  | .tup xs => Q (.int xs.length)
  | .cst xs => Q (.int xs.length)
  | .str s => s.length ≤ sizeLine ∧ Q (.int s.length)
  | .scr ns => Q (.int ns.length)
  | _ => False
@[simp] def gLen : G1 := fun ds Q => ∃ d, ds = [d] ∧ len1 d Q
theorem snd_len {K : PySem.W.Frag} : SndC K (fun xs H Q => (∃ p ys, xs = [.ref p] ∧ (SqL K H p ys ∨ SqT K H p ys) ∧ Q (.int ys.length) H) ∨ ∃ z : Str, xs = [.str z] ∧ z.length ≤ sizeLine ∧ Q (.int z.length) H) gLen := fun F P H σ sv vs ds Q R re rv k q => by
  obtain ⟨d, rfl, q⟩ := q
  obtain ⟨v, r, rfl, rv, rfl⟩ := rv
  cases d with
  | lst xs =>
    obtain ⟨a, ys, rfl, e1, rl⟩ := rv
    refine .inl ⟨a, ys, rfl, .inl (SqL.of (re.sub _ _ e1)), ?_⟩
    rw [rl.length]
    exact k _ H P (.int xs.length) re (Sub.refl P) rfl q
  | tup xs =>
    obtain ⟨a, ys, rfl, e1, rl⟩ := rv
    refine .inl ⟨a, ys, rfl, .inr (sqT_of (re.sub _ _ e1)), ?_⟩
    rw [rl.length]
    exact k _ H P (.int xs.length) re (Sub.refl P) rfl q
  | cst xs =>
    obtain ⟨a, ys, rfl, e1, rl⟩ := rv
    refine .inl ⟨a, ys, rfl, .inr (sub_t re.sub e1), ?_⟩
    rw [rl.length]
    exact k _ H P (.int xs.length) re (Sub.refl P) rfl q
  | str s =>
    obtain rfl := rv
    exact .inr ⟨s, rfl, q.1, k _ H P (.int s.length) re (Sub.refl P) rfl q.2⟩
  | scr ns =>
    obtain ⟨a, rfl, e1⟩ := rv
    refine .inl ⟨a, _, rfl, .inl (sub_l re.sub e1), ?_⟩
    rw [List.length_map]
    exact k _ H P (.int ns.length) re (Sub.refl P) rfl q
  | _ => exact q.elim
theorem pd_len {p : Pos} {e : Expr} {fa : Da} (hg : Gl X "len") (hm : X.mg "len" = none) (ha : PDA X W [e] fa) (he : starEach [e] X.env = (false, eval e X.env) :: starEach [] X.env := by rfl) : PD X W (.Call (.Name "len" p) [e] [] pos) (dCB gLen fa) :=
  pd_callB (CallR.or call_len_seq call_len_str) snd_len PySem.boot_len hg hm ha (by decide) (by decide) he
/-- len of a name: a list of one's own stays one's own -/
@[simp] def dLenV (i : Nat) : De := fun sv Q E => match sv[i]? with
  | some (.own ds) => Q (.int ds.length) sv
  | _ => dCB gLen (dConsV i dNil) sv Q E
theorem pd_lenV {p p2 : Pos} {i : Nat} {x : Str} (hN : X.N[i]? = some x) (hv : Vis X.env.scope x) (hg : Gl X "len") (hm : X.mg "len" = none) (hd : (x == ("__debug__" : Str)) = false := by decide) (hcd : (x == ("__classdict__" : Str)) = false := by decide)
    (he : starEach [.Name x p2] X.env = (false, eval (.Name x p2) X.env) :: starEach [] X.env := by rfl) : PD X W (.Call (.Name "len" p) [.Name x p2] [] pos) (dLenV i) := by
  obtain ⟨ta, pa, sa⟩ := pda_var (W := W) hN hv pda_nil hd hcd he
  refine ⟨_, pe_callB (CallR.or call_len_seq call_len_str) hg hm PySem.boot_len (pa_cons (pe_var hN hv hd hcd) pa_nil he) (by decide) (by decide) he, fun F P H σ sv Q E R re k kx q => ?_⟩
  unfold dLenV at q
  have other : dCB gLen (dConsV i dNil) sv Q E → tCB _ (tCons (tVar i) tNil) σ H R := fun q' => by
    refine snd_cb (W := W) (ta := tCons (tVar i) tNil) ?_ snd_len F P H σ sv Q E R re k kx q'
    intro F P H σ sv Q E R r k kx q
    unfold dConsV at q
    cases e : sv[i]? with
    | none =>
      rw [e] at q
      exact snd_cons snd_var (fun F P H σ sv Q E R r k _ q => k [] H P [] sv r (Sub.refl P) rfl q) F P H σ sv Q E R r k kx q
    | some s =>
      rw [e] at q
      cases s with
      | bag n =>
        obtain ⟨o, ho, p', rfl, _⟩ := rel_get r e
        exact ⟨_, ho, k _ H P [.bag i] sv r (Sub.refl P) ⟨_, [], rfl, ho, rfl⟩ q⟩
      | un => exact snd_cons snd_var (fun F P H σ sv Q E R r k _ q => k [] H P [] sv r (Sub.refl P) rfl q) F P H σ sv Q E R r k kx q
      | dat d => exact snd_cons snd_var (fun F P H σ sv Q E R r k _ q => k [] H P [] sv r (Sub.refl P) rfl q) F P H σ sv Q E R r k kx q
      | own ds => exact snd_cons snd_var (fun F P H σ sv Q E R r k _ q => k [] H P [] sv r (Sub.refl P) rfl q) F P H σ sv Q E R r k kx q
      | slf C ns ds => exact snd_cons snd_var (fun F P H σ sv Q E R r k _ q => k [] H P [] sv r (Sub.refl P) rfl q) F P H σ sv Q E R r k kx q
      | exc x => exact snd_cons snd_var (fun F P H σ sv Q E R r k _ q => k [] H P [] sv r (Sub.refl P) rfl q) F P H σ sv Q E R r k kx q
      | dct x => exact snd_cons snd_var (fun F P H σ sv Q E R r k _ q => k [] H P [] sv r (Sub.refl P) rfl q) F P H σ sv Q E R r k kx q
  cases e : sv[i]? with
  | none =>
    rw [e] at q
    exact other q
  | some s =>
    rw [e] at q
    cases s with
    | un => exact other q
    | dat d => exact other q
    | bag n => exact other q
    | slf C ns ds => exact other q
    | exc x => exact other q
    | dct x => exact other q
    | own ds =>
      obtain ⟨o, ho, p', vs, rfl, h1, h2, h3, h4⟩ := rel_get re e
      refine ⟨_, ho, .inl ⟨p', vs, rfl, .inl (SqL.of h1), ?_⟩⟩
      rw [h4.length]
      exact k _ H P (.int ds.length) sv re (Sub.refl P) rfl q
/-! list(x), tuple(x) -/
theorem boot_list'' : bootBuiltins "list" = some (.type "list") := by decide +kernel
theorem boot_tuple'' : bootBuiltins "tuple" = some (.type "tuple") := by decide +kernel
@[simp] def dListOf (fa : Da) : Dl := fun sv Q E => fa sv (fun as sv1 => ∃ d, as = [.dat d] ∧ ((∃ xs, d = .lst xs ∧ Q xs sv1) ∨ ∃ xs, d = .tup xs ∧ Q xs sv1)) E
theorem pdl_list {p : Pos} {e : Expr} {fa : Da} (hg : Gl X "list") (hm : X.mg "list" = none) (ha : PDA X W [e] fa) (he : starEach [e] X.env = (false, eval e X.env) :: starEach [] X.env := by rfl) : PDL X W (.Call (.Name "list" p) [e] [] pos) (dListOf fa) := by
  obtain ⟨ta, p1, s1⟩ := ha
  refine ⟨_, pe_callTy call_list_of hg hm boot_list'' p1 (by decide) (by decide) he, fun F P H σ sv Q E R re k kx q => s1 F P H σ sv _ E _ re (fun vs H1 P1 as sv1 r1 s1' ra q1 => ?_) kx q⟩
  obtain ⟨d, rfl, q1⟩ := q1
  obtain ⟨v, r, rfl, rv, rfl⟩ := ra
  rcases q1 with ⟨xs, rfl, q1⟩ | ⟨xs, rfl, q1⟩
  · obtain ⟨a, ys, rfl, e1, rl⟩ := rv
    exact ⟨a, ys, rfl, .inl (SqL.of (r1.sub _ _ e1)), fun l hl => k l _ _ xs sv1 (r1.layH hl) s1' (r1.newL hl rl) q1⟩
  · obtain ⟨a, ys, rfl, e1, rl⟩ := rv
    exact ⟨a, ys, rfl, .inr (sqT_of (r1.sub _ _ e1)), fun l hl => k l _ _ xs sv1 (r1.layH hl) s1' (r1.newL hl rl) q1⟩
@[simp] def tuple1 (d : D) (Q : D → Prop) : Prop := match d with
  | .lst xs => Q (.tup xs)
  | .tup xs => Q (.tup xs)
  | .cst xs => Q (.cst xs)
  | _ => False
@[simp] def gTuple : G1 := fun ds Q => ∃ d, ds = [d] ∧ tuple1 d Q
theorem snd_tuple {K : PySem.W.Frag} : SndC K (fun xs H Q => ∃ p ys, xs = [.ref p] ∧ ((SqL K H p ys ∧ ∀ l, H l = none → Q (.ref l) (upd H l (.tup ys))) ∨ (SqT K H p ys ∧ Q (.ref p) H))) gTuple := fun F P H σ sv vs ds Q R re rv k q => by
  obtain ⟨d, rfl, q⟩ := q
  obtain ⟨v, r, rfl, rv, rfl⟩ := rv
  cases d with
  | lst xs =>
    obtain ⟨a, ys, rfl, e1, rl⟩ := rv
    refine ⟨a, ys, rfl, .inl ⟨SqL.of (re.sub _ _ e1), fun l hl => ?_⟩⟩
    have f3 := re.free hl
    exact k _ _ _ (.tup xs) (re.lay hl) (sub_upd f3) ⟨l, ys, rfl, upd_same, RpL.mono (sub_upd f3) _ _ rl⟩ q
  | tup xs =>
    obtain ⟨a, ys, rfl, e1, rl⟩ := rv
    exact ⟨a, ys, rfl, .inr ⟨sqT_of (re.sub _ _ e1), k _ H P (.tup xs) re (Sub.refl P) ⟨a, ys, rfl, e1, rl⟩ q⟩⟩
  | cst xs =>
    obtain ⟨a, ys, rfl, e1, rl⟩ := rv
    exact ⟨a, ys, rfl, .inr ⟨sub_t re.sub e1, k _ H P (.cst xs) re (Sub.refl P) ⟨a, ys, rfl, e1, rl⟩ q⟩⟩
  | _ => exact q.elim
theorem pd_tuple {p : Pos} {e : Expr} {fa : Da} (hg : Gl X "tuple") (hm : X.mg "tuple" = none) (ha : PDA X W [e] fa) (he : starEach [e] X.env = (false, eval e X.env) :: starEach [] X.env := by rfl) : PD X W (.Call (.Name "tuple" p) [e] [] pos) (dCB gTuple fa) :=
  pd_callTy call_tuple_of snd_tuple boot_tuple'' hg hm ha (by decide) (by decide) he
/-! all, any of a list of bools -/
@[simp] def asB : List D → Option (List Bool)
  | [] => some []
  | .bl b :: ds => (asB ds).map (b :: ·)
  | _ => none
theorem asB_rel {K : PySem.W.Frag} {P : Hp} : ∀ {ds : List D} {vs : List V} {bs : List Bool}, RpL K P ds vs → asB ds = some bs → vs = bs.map V.bl
  | [], _, _, h, e => by
    cases e
    exact h
  | d :: ds, _, _, h, e => by
    obtain ⟨v, r, rfl, h1, h2⟩ := h
    cases d with
    | bl b =>
      simp only [asB, Option.map_eq_some_iff] at e
      obtain ⟨bs, e1, rfl⟩ := e
      obtain rfl := h1
      rw [asB_rel h2 e1]
      rfl
    | _ => cases e
@[simp] def gAll : G1 := fun ds Q => ∃ xs, ds = [.lst xs] ∧ ∃ bs, asB xs = some bs ∧ Q (.bl (bs.all id))
@[simp] def gAny : G1 := fun ds Q => ∃ xs, ds = [.lst xs] ∧ ∃ bs, asB xs = some bs ∧ Q (.bl (bs.any id))
theorem snd_all {K : PySem.W.Frag} : SndC K (rAll K) gAll := fun F P H σ sv vs ds Q R re rv k q => by
  obtain ⟨xs, rfl, bs, eb, q⟩ := q
  obtain ⟨v, r, rfl, ⟨a, ys, rfl, e1, rl⟩, rfl⟩ := rv
  obtain rfl := asB_rel rl eb
  exact ⟨a, bs, rfl, SqL.of (re.sub _ _ e1), k _ H P (.bl _) re (Sub.refl P) rfl q⟩
theorem snd_any {K : PySem.W.Frag} : SndC K (rAny K) gAny := fun F P H σ sv vs ds Q R re rv k q => by
  obtain ⟨xs, rfl, bs, eb, q⟩ := q
  obtain ⟨v, r, rfl, ⟨a, ys, rfl, e1, rl⟩, rfl⟩ := rv
  obtain rfl := asB_rel rl eb
  exact ⟨a, bs, rfl, SqL.of (re.sub _ _ e1), k _ H P (.bl _) re (Sub.refl P) rfl q⟩
theorem boot_any' : bootBuiltins "any" = some (.builtin "any") := by decide +kernel
theorem boot_all' : bootBuiltins "all" = some (.builtin "all") := by decide +kernel
theorem pd_all {p : Pos} {e : Expr} {fa : Da} (hc : X.calm = true) (hg : Gl X "all") (hm : X.mg "all" = none) (ha : PDA X W [e] fa) (he : starEach [e] X.env = (false, eval e X.env) :: starEach [] X.env := by rfl) : PD X W (.Call (.Name "all" p) [e] [] pos) (dCB gAll fa) :=
  pd_callB (cr_all hc) snd_all boot_all' hg hm ha (by decide) (by decide) he
theorem pd_any {p : Pos} {e : Expr} {fa : Da} (hc : X.calm = true) (hg : Gl X "any") (hm : X.mg "any" = none) (ha : PDA X W [e] fa) (he : starEach [e] X.env = (false, eval e X.env) :: starEach [] X.env := by rfl) : PD X W (.Call (.Name "any" p) [e] [] pos) (dCB gAny fa) :=
  pd_callB (cr_any hc) snd_any boot_any' hg hm ha (by decide) (by decide) he
/-! repr -/
def rRepr (K : PySem.W.Frag) : List V → Hp → VK → Prop := fun xs H Q => ∃ v d, xs = [v] ∧ Dp K H v d ∧ d.plain = true ∧ d.showable = true ∧ d.depth ≤ 60 ∧ d.shown.length ≤ sizeLine ∧ Q (.str d.shown) H
theorem nodict_of_plain : ∀ d : PyData, d.plain = true → d.hasDict = false := by
  intro d
  exact plain_rec d
where
  plain_rec : ∀ d : PyData, d.plain = true → d.hasDict = false
    | .none, _ => by simp [PyData.hasDict]
    | .bool _, _ => by simp [PyData.hasDict]
    | .int _, _ => by simp [PyData.hasDict]
    | .str _, _ => by simp [PyData.hasDict]
    | .list xs, h => by
      simp only [PyData.hasDict]
      exact plainAll_rec xs h
    | .tuple xs, h => by
      simp only [PyData.hasDict]
      exact plainAll_rec xs h
    | .dict _, h => by cases h
  plainAll_rec : ∀ xs : List PyData, PyData.plainAll xs = true → PyData.hasDictAll xs = false
    | [], _ => by simp [PyData.hasDictAll]
    | d :: ds, h => by
      simp only [PyData.plainAll, Bool.and_eq_true] at h
      simp only [PyData.hasDictAll, plain_rec d h.1, plainAll_rec ds h.2, Bool.or_false]
theorem call_repr (hG : X.A.guards = some []) (hu : X.A.units + 64 < cLine) : CallR X (.builtin "repr") (rRepr X.K) := by
  intro pins s σ H xs us Q I r h
  obtain ⟨v, d, rfl, hd, hp, hs, hdp, hz, q⟩ := h
  obtain ⟨u, rfl, ru⟩ := vals1 r
  obtain ⟨as, rd⟩ := Dp.reads I d v u hd ru
  cases d with
  | none =>
    cases rd
    exact PySem.P.repr_of_none ⟨.str _, H, I.tok _, ⟨_, rfl⟩, q⟩
  | bool b =>
    cases rd
    exact PySem.P.repr_of_bool ⟨.str _, H, I.tok _, ⟨_, rfl⟩, q⟩
  | int i =>
    cases rd
    exact PySem.P.repr_of_int (of_decide_eq_true (show decide (i.natAbs.log2 < 1920) = true from by simpa [PyData.showable] using hs)) ⟨.str _, H, I.tok _, ⟨_, rfl⟩, q⟩
  | str x =>
    cases rd
    exact PySem.P.repr_of_str ⟨.str _, H, I.tok _, ⟨_, rfl⟩, q⟩ hz
  | list ds =>
    cases rd with
    | list h1 h2 h3 h4 => exact PySem.repr_of_reads' (.list h1 h2 h3 h4) hs (fun z => by rw [nodict_of_plain _ hp] at z; cases z) hG (by omega) (fun _ _ e => e) (fun h' u tk hk => ⟨.str _, H, I.kept (t' := tk) hk, ⟨_, rfl⟩, q⟩) hz
  | tuple ds =>
    cases rd with
    | tuple h1 h2 h3 h4 => exact PySem.repr_of_reads' (.tuple h1 h2 h3 h4) hs (fun z => by rw [nodict_of_plain _ hp] at z; cases z) hG (by omega) (fun _ _ e => e) (fun h' u tk hk => ⟨.str _, H, I.kept (t' := tk) hk, ⟨_, rfl⟩, q⟩) hz
  | dict kvs => cases hp
/-- a text that can be shown -/
structure Shows (p : PyData) : Prop where
  s : p.showable = true
  d : p.depth ≤ 60
  z : p.shown.length ≤ sizeLine
@[simp] def gRepr : G1 := fun ds Q => ∃ d, ds = [d] ∧ ∃ p, d.py = some p ∧ Shows p ∧ Q (.str p.shown)
theorem snd_repr {K : PySem.W.Frag} : SndC K (rRepr K) gRepr := fun F P H σ sv vs ds Q R re rv k q => by
  obtain ⟨d, rfl, p, e, hs, q⟩ := q
  obtain ⟨v, r, rfl, h1, rfl⟩ := rv
  exact ⟨v, p, rfl, Rp.dp d p v e (Rp.mono re.sub d v h1), D.py_plain d p e, hs.s, hs.d, hs.z, k _ H P (.str _) re (Sub.refl P) rfl q⟩
theorem boot_repr' : bootBuiltins "repr" = some (.builtin "repr") := by decide +kernel
theorem pd_repr {p : Pos} {e : Expr} {fa : Da} (hG : X.A.guards = some []) (hu : X.A.units + 64 < cLine) (hg : Gl X "repr") (hm : X.mg "repr" = none) (ha : PDA X W [e] fa) (he : starEach [e] X.env = (false, eval e X.env) :: starEach [] X.env := by rfl) :
    PD X W (.Call (.Name "repr" p) [e] [] pos) (dCB gRepr fa) := pd_callB (call_repr hG hu) snd_repr boot_repr' hg hm ha (by decide) (by decide) he
/-! isinstance -/
/-- what the top says of a class whose instances are asked -/
structure InsTy (K : PySem.W.Frag) (C : Addr) : Prop where
  cl : Cls K C
  ha : PySem.W.findIn K (.ref C) "__class__" = some (some (.builtin "object.__class__"))
  hn : PySem.W.specialIn K (.builtin "object.__class__") "__get__" = some (some (.builtin "getset_descriptor.__get__"))
  htk : PySem.W.takesIn K (.builtin "object.__class__") = some true
  hm : PySem.W.mroIn K C (.type "object") = some true
@[simp] def D.ty : D → Value
  | .non => .type "NoneType"
  | .bl _ => .type "bool"
  | .int _ => .type "int"
  | .str _ => .type "str"
  | .lst _ => .type "list"
  | .tup _ => .type "tuple"
  | .cst _ => .type "tuple"
  | .dk _ _ => .type "dict"
  | .dt _ _ => .type "dict"
  | .scr _ => .type "list"
  | .ins C _ _ => .ref C
@[simp] def D.okTy (K : PySem.W.Frag) : D → Prop
  | .ins C _ _ => InsTy K C
  | .scr _ => False
  | .dt _ _ => False
  | _ => True
@[simp] def gIsi (K : PySem.W.Frag) (c : Value) (d : D) (Q : D → Prop) : Prop := D.okTy K d ∧ ∃ b, PySem.W.kitOne K d.ty c = some b ∧ Q (.bl b)
theorem tyx_of {K : PySem.W.Frag} {H : Hp} {d : D} {v : V} (h : Rp K H d v) (o : D.okTy K d) : TyX K H v d.ty := by
  cases d with
  | non => cases h; exact .base .non
  | bl b => cases h; exact .base (.bl b)
  | int i => cases h; exact .base (.int i)
  | str x => cases h; exact .base (.str x)
  | lst ds =>
    obtain ⟨a, xs, rfl, h1, _⟩ := h
    exact .base (.lst h1)
  | tup ds =>
    obtain ⟨a, xs, rfl, h1, _⟩ := h
    exact .base (.tup h1)
  | cst ds =>
    obtain ⟨a, xs, rfl, h1, _⟩ := h
    rcases h1 with (h1 | ⟨o, h1⟩) | h1
    · exact .base (.tup h1)
    · exact .fTuple h1
    · obtain ⟨o, its, n, e1, e2, e3, e4⟩ := h1
      exact .kTuple e1 e2
  | dk ks ds =>
    obtain ⟨a, xs, o, rfl, h1, _⟩ := h
    exact .fDict h1
  | scr ns => exact o.elim
  | dt ks ds => exact o.elim
  | ins C ns ds =>
    obtain ⟨a, dx, xs, rfl, h1, _⟩ := h
    exact .base (.ins h1 o.cl o.ha o.hn o.htk o.hm)
@[simp] def dIsi (K : PySem.W.Frag) (c : Value) (f : De) : De := fun sv Q E => f sv (fun d sv1 => gIsi K c d fun z => Q z sv1) E
theorem boot_isi' : bootBuiltins "isinstance" = some (.builtin "isinstance") := by decide +kernel
theorem pd_isi {p : Pos} {e ce : Expr} {f : De} {cv : V} {c : Value} (hcv : ClsV cv c) (hce : PE X ce (tC cv)) (hg : Gl X "isinstance") (hm : X.mg "isinstance" = none) (h : PD X W e f)
    (he : starEach [e, ce] X.env = (false, eval e X.env) :: starEach [ce] X.env := by rfl) (he2 : starEach [ce] X.env = (false, eval ce X.env) :: starEach [] X.env := by rfl) (hpl : (backTo pos (starEach [ce] X.env)).any (·.1) = false := by rfl) :
    PD X W (.Call (.Name "isinstance" p) [e, ce] [] pos) (dIsi X.K c f) := by
  obtain ⟨t, p1, s1⟩ := h
  refine ⟨_, pe_callB call_isi hg hm boot_isi' (pa_cons p1 (pa_cons hce pa_nil he2) he) (by decide) (by decide) he hpl, fun F P H σ sv Q E R re k kx q => s1 F P H σ sv _ E _ re (fun v H1 P1 d sv1 r1 s1' rv q1 => ?_) kx q⟩
  obtain ⟨o, b, e1, q1⟩ := q1
  exact ⟨v, cv, _, c, b, rfl, hcv, tyx_of (Rp.mono r1.sub d v rv) o, e1, k _ H1 P1 (.bl b) sv1 r1 s1' rfl q1⟩
theorem pd_isiT {p p2 : Pos} {e : Expr} {f : De} {x : Str} {T : String} (hv : bootBuiltins x = some (.type T)) (hx : Gl X x) (hxm : X.mg x = none) (hg : Gl X "isinstance") (hm : X.mg "isinstance" = none) (h : PD X W e f)
    (hn : x ≠ "__name__" := by decide) (hdb : (x == ("__debug__" : Str)) = false := by decide)
    (he : starEach [e, .Name x p2] X.env = (false, eval e X.env) :: starEach [.Name x p2] X.env := by rfl) (he2 : starEach [.Name x p2] X.env = (false, eval (.Name x p2) X.env) :: starEach [] X.env := by rfl) (hpl : (backTo pos (starEach [.Name x p2] X.env)).any (·.1) = false := by rfl) :
    PD X W (.Call (.Name "isinstance" p) [e, .Name x p2] [] pos) (dIsi X.K (.type T) f) := pd_isi (.ty T) (pe_bltn (v := .ty T) hx hxm hv rfl hn hdb) hg hm h he he2 hpl
theorem pd_isiC {p p2 : Pos} {e : Expr} {f : De} {x : Str} {C : Addr} (hxm : X.mg x = some (.ref C)) (hx : Gl X x) (hg : Gl X "isinstance") (hm : X.mg "isinstance" = none) (h : PD X W e f)
    (hdb : (x == ("__debug__" : Str)) = false := by decide)
    (he : starEach [e, .Name x p2] X.env = (false, eval e X.env) :: starEach [.Name x p2] X.env := by rfl) (he2 : starEach [.Name x p2] X.env = (false, eval (.Name x p2) X.env) :: starEach [] X.env := by rfl) (hpl : (backTo pos (starEach [.Name x p2] X.env)).any (·.1) = false := by rfl) :
    PD X W (.Call (.Name "isinstance" p) [e, .Name x p2] [] pos) (dIsi X.K (.ref C) f) := pd_isi (.own C) (pe_glob (v := .ref C) hx hxm rfl hdb) hg hm h he he2 hpl
end

/-! ### a list of one's own -/
section
variable {K : PySem.W.Frag} {F : Fr} {P H : Hp} {σ : L2.St} {sv : Sv} {i : Nat} {ds : List D} {W : Wz}
theorem Rel.setOwn (r : Rel K F P H σ sv) (h : sv[i]? = some (.own ds)) {p : Addr} (hp : σ[i]? = some (some (.ref p))) {es : List D} {ws : List V} (rv : RpL K P es ws) : Rel K F P (upd H p (.lst ws)) σ (sv.set i (.own es)) := by
  obtain ⟨o, ho, p', vs, eo, h1, h2, h3, h4⟩ := rel_get r h
  rw [hp] at ho
  cases ho
  cases eo
  have hi : i < sv.length := (List.getElem?_eq_some_iff.mp h).1
  have nb : ∀ a, F.B0 a → a ≠ p := fun a hb e => by
    obtain ⟨_, ⟨u, hu⟩, _⟩ := r.bags a hb
    rw [e, h3] at hu
    cases hu
  refine ⟨by rw [List.length_set]; exact r.len, r.lim, fun a u e => ?_, r.p0, r.new, fun a u e nb ns => ?_, fun a hs => ?_, fun a hb => ?_, fun j s u e1 e2 => ?_, fun j k s t u w q ne e1 e2 a1 a2 s1 s2 eu ew => ?_, fun q xs hq => ?_⟩
  · have ne : a ≠ p := fun z => by
      rw [z, h2] at e
      cases e
    rw [upd_ne ne]
    exact r.sub a u e
  · have ne : a ≠ p := fun z => by
      rw [z, h3] at e
      cases e
    rw [upd_ne ne]
    exact r.ext a u e nb ns
  · obtain ⟨z1, ⟨u, hu⟩, C, dx, fs, z3⟩ := r.selfs a hs
    have ne : a ≠ p := fun z => by
      rw [z, h3] at hu
      cases hu
    exact ⟨z1, ⟨u, hu⟩, C, dx, fs, by rw [upd_ne ne]; exact z3⟩
  · obtain ⟨z1, z2, x, y, z, z3, z4⟩ := r.bags a hb
    exact ⟨z1, z2, x, y, z, by rw [upd_ne (nb a hb)]; exact z3, z4⟩
  · by_cases hj : j = i
    · subst hj
      rw [List.getElem?_set_self hi] at e1
      cases e1
      rw [hp] at e2
      cases e2
      exact ⟨p, ws, rfl, upd_same, h2, h3, rv⟩
    · rw [List.getElem?_set_ne (Ne.symm hj)] at e1
      have q := r.sl j s u e1 e2
      cases s with
      | un => trivial
      | dat d => exact q
      | own es =>
        obtain ⟨q', xs, e, z1, z⟩ := q
        have ne : q' ≠ p := fun z => by
          subst z e
          exact r.apart j i _ _ _ _ q' hj e1 h rfl rfl e2 hp rfl rfl
        exact ⟨q', xs, e, by rw [upd_ne ne]; exact z1, z⟩
      | bag n =>
        obtain ⟨q', e, z1, z2, x, y, z, z3, z4⟩ := q
        have ne : q' ≠ p := fun z => by
          subst z e
          exact r.apart j i _ _ _ _ q' hj e1 h rfl rfl e2 hp rfl rfl
        exact ⟨q', e, z1, z2, x, y, z, by rw [upd_ne ne]; exact z3, z4⟩
      | slf C ns es =>
        obtain ⟨q', dx, xs, e, z1, z⟩ := q
        have ne : q' ≠ p := fun z => by
          subst z e
          exact r.apart j i _ _ _ _ q' hj e1 h rfl rfl e2 hp rfl rfl
        exact ⟨q', dx, xs, e, by rw [upd_ne ne]; exact z1, z⟩
      | exc x => exact q
      | dct d =>
        obtain ⟨q', e, z1, z2, z⟩ := q
        have ne : q' ≠ p := fun z => by
          subst z e
          exact r.apart j i _ _ _ _ q' hj e1 h rfl rfl e2 hp rfl rfl
        exact ⟨q', e, z1, z2, z.mono (Sub.refl P) fun o ho => by rw [upd_ne ne]; exact ho⟩
  · have back : ∀ {m : Nat} {z : Sl}, (sv.set i (.own es))[m]? = some z → z.addr = true → ∃ z', sv[m]? = some z' ∧ z'.addr = true := fun {m z} em az => by
      by_cases hm : m = i
      · subst hm
        exact ⟨_, h, rfl⟩
      · rw [List.getElem?_set_ne (Ne.symm hm)] at em
        exact ⟨z, em, az⟩
    obtain ⟨s', b1, c1⟩ := back e1 a1
    obtain ⟨t', b2, c2⟩ := back e2 a2
    exact r.apart j k s' t' u w q ne b1 b2 c1 c2 s1 s2 eu ew
  · obtain ⟨z1, z2, z3, z4⟩ := r.kept q xs hq
    have ne : q ≠ p := fun z => by
      subst z
      exact z4 i _ h rfl hp
    refine ⟨by rw [upd_ne ne]; exact z1, z2, z3, fun m s e1 a1 => ?_⟩
    by_cases hm : m = i
    · subst hm
      exact z4 m _ h rfl
    · rw [List.getElem?_set_ne (Ne.symm hm)] at e1
      exact z4 m s e1 a1
/-- xs.append(e), xs in slot i -/
@[simp] def dAppend (i : Nat) (fa : Da) : De := fun sv Q E => ∃ ds, sv[i]? = some (.own ds) ∧ fa sv (fun as sv' => ∃ d ds', as = [.dat d] ∧ sv'[i]? = some (.own ds') ∧ ds'.length < 100000 ∧ Q .non (sv'.set i (.own (ds' ++ [d])))) E
theorem snd_append {ta : TA} {fa : Da} (h : SndA K W ta fa) : SndE K W (tBM K "list" rAppend (tVar i) ta) (dAppend i fa) := fun F P H σ sv Q E R re k kx q => by
  obtain ⟨ds, e, q⟩ := q
  obtain ⟨o, ho, p, vs, rfl, h1, h2, h3, h4⟩ := rel_get re e
  refine ⟨_, ho, .inl ⟨rfl, _, SqL.of h1⟩, h F P H σ sv _ E _ re (fun ws H1 P1 as sv1 r1 s1 ra q1 => ?_) kx q⟩
  obtain ⟨d, ds', rfl, e', hl, q1⟩ := q1
  obtain ⟨v, r, rfl, rv, rfl⟩ := ra
  obtain ⟨o', ho', p', vs', eo, g1, g2, g3, g4⟩ := rel_get r1 e'
  rw [ho] at ho'
  cases ho'
  cases eo
  refine ⟨p, vs', v, rfl, rfl, g1, Nat.lt_of_lt_of_le (by rw [g4.length]; exact hl) (by decide), ?_⟩
  exact k _ _ P1 .non _ (r1.setOwn e' ho (g4.append (show RpL K P1 [d] [v] from ⟨v, [], rfl, rv, rfl⟩))) s1 rfl q1
/-- xs.pop(k), xs in slot i -/
@[simp] def dPopAt (i : Nat) (fa : Da) : De := fun sv Q E => ∃ ds, sv[i]? = some (.own ds) ∧ fa sv (fun as sv' => ∃ j ds' n z, as = [.dat (.int j)] ∧ sv'[i]? = some (.own ds') ∧ -(2 ^ 63) ≤ j ∧ j < 2 ^ 63 ∧ seqIndex? j ds'.length = some n ∧ ds'[n]? = some z ∧ Q z (sv'.set i (.own (ds'.eraseIdx n)))) E
theorem RpL.erase {K : PySem.W.Frag} {P : Hp} : ∀ {ds : List D} {vs : List V} (n : Nat), RpL K P ds vs → RpL K P (ds.eraseIdx n) (vs.eraseIdx n)
  | [], _, n, h => by
    cases h
    rfl
  | d :: ds, _, 0, h => by
    obtain ⟨v, r, rfl, h1, h2⟩ := h
    exact h2
  | d :: ds, _, n + 1, h => by
    obtain ⟨v, r, rfl, h1, h2⟩ := h
    exact ⟨v, _, rfl, h1, RpL.erase n h2⟩
theorem snd_popAt {ta : TA} {fa : Da} (h : SndA K W ta fa) : SndE K W (tBM K "list" rPopAt (tVar i) ta) (dPopAt i fa) := fun F P H σ sv Q E R re k kx q => by
  obtain ⟨ds, e, q⟩ := q
  obtain ⟨o, ho, p, vs, rfl, h1, h2, h3, h4⟩ := rel_get re e
  refine ⟨_, ho, .inl ⟨rfl, _, SqL.of h1⟩, h F P H σ sv _ E _ re (fun ws H1 P1 as sv1 r1 s1 ra q1 => ?_) kx q⟩
  obtain ⟨j, ds', n, z, rfl, e', b1, b2, hn, hz, q1⟩ := q1
  obtain ⟨v, r, rfl, rv, rfl⟩ := ra
  obtain rfl := rv
  obtain ⟨o', ho', p', vs', eo, g1, g2, g3, g4⟩ := rel_get r1 e'
  rw [ho] at ho'
  cases ho'
  cases eo
  obtain ⟨y, hy, ry⟩ := g4.getD hz
  refine ⟨p, vs', j, n, y, rfl, rfl, g1, b1, b2, by rw [g4.length]; exact hn, hy, ?_⟩
  exact k _ _ P1 z _ (r1.setOwn e' ho (g4.erase n)) s1 ry q1
end
section
variable {X : Cx} {W : Wz} {pos : Pos}
theorem pd_append {i : Nat} {x : Str} {p apos : Pos} {e : Expr} {fa : Da} (hN : X.N[i]? = some x) (hv : Vis X.env.scope x) (ha : PDA X W [e] fa) (hd : (x == ("__debug__" : Str)) = false := by decide) (hcd : (x == ("__classdict__" : Str)) = false := by decide)
    (hbase : attributeBase (.Name x p) "append" X.env (eval (.Name x p) X.env) = eval (.Name x p) X.env := by rfl)
    (hfew : ((backTo pos (starEach [e] X.env)).all (fun x => !x.1) && (backToKw pos (keywordEach [] X.env)).all (fun x => x.1.isSome) && decide ([e].length + ([] : List Keyword).length + (if ([] : List Keyword).isEmpty then 0 else 1) < 30)) = true := by rfl)
    (hline : (apos.endLine == pos.line) = true := by rfl) (hs : starEach [e] X.env = (false, eval e X.env) :: starEach [] X.env := by rfl) : PD X W (.Call (.Attribute (.Name x p) "append" apos) [e] [] pos) (dAppend i fa) := by
  obtain ⟨ta, p1, s1⟩ := ha
  exact ⟨_, pe_bm PySem.F.plainAttrs_list PySem.F.slot_list_append PySem.F.type_list_append mt_append (pe_var hN hv hd hcd) p1 hbase hfew hline hs (by rfl), snd_append s1⟩
theorem pd_popAt {i : Nat} {x : Str} {p apos : Pos} {e : Expr} {fa : Da} (hN : X.N[i]? = some x) (hv : Vis X.env.scope x) (ha : PDA X W [e] fa) (hd : (x == ("__debug__" : Str)) = false := by decide) (hcd : (x == ("__classdict__" : Str)) = false := by decide)
    (hbase : attributeBase (.Name x p) "pop" X.env (eval (.Name x p) X.env) = eval (.Name x p) X.env := by rfl)
    (hfew : ((backTo pos (starEach [e] X.env)).all (fun x => !x.1) && (backToKw pos (keywordEach [] X.env)).all (fun x => x.1.isSome) && decide ([e].length + ([] : List Keyword).length + (if ([] : List Keyword).isEmpty then 0 else 1) < 30)) = true := by rfl)
    (hline : (apos.endLine == pos.line) = true := by rfl) (hs : starEach [e] X.env = (false, eval e X.env) :: starEach [] X.env := by rfl) : PD X W (.Call (.Attribute (.Name x p) "pop" apos) [e] [] pos) (dPopAt i fa) := by
  obtain ⟨ta, p1, s1⟩ := ha
  exact ⟨_, pe_bm PySem.F.plainAttrs_list PySem.F.slot_list_pop PySem.F.type_list_pop mt_popAt (pe_var hN hv hd hcd) p1 hbase hfew hline hs (by rfl), snd_popAt s1⟩
end
end Pd
end
section
set_option autoImplicit false
set_option Elab.async false
set_option linter.all false
set_option autoImplicit false
set_option maxRecDepth 100000
set_option maxHeartbeats 1000000
/-! Pd5: statements. -/
namespace Pd
open PySem PySem.Spec PyProof.Rows L2
section
variable {X : Cx} {W : Wz} {pos : Pos}

/-! ### targets -/
abbrev Dg := D → Sv → (Sv → Prop) → Prop
def SndG (K : PySem.W.Frag) (g : TG) (f : Dg) : Prop := ∀ (F : Fr) (P H : Hp) (σ : L2.St) (sv : Sv) (d : D) (v : V) (Q : Sv → Prop) (R : L2.St → Hp → Prop), Rel K F P H σ sv → Rp K P d v → (∀ σ' sv', Rel K F P H σ' sv' → Q sv' → R σ' H) → f d sv Q → g v σ H R
def PDG (X : Cx) (e : Expr) (f : Dg) : Prop := ∃ g, PG X e g ∧ SndG X.K g f
abbrev Dgs := List D → Sv → (Sv → Prop) → Prop
def SndGs (K : PySem.W.Frag) (g : TGs) (f : Dgs) : Prop := ∀ (F : Fr) (P H : Hp) (σ : L2.St) (sv : Sv) (ds : List D) (vs : List V) (Q : Sv → Prop) (R : L2.St → Hp → Prop), Rel K F P H σ sv → RpL K P ds vs → (∀ σ' sv', Rel K F P H σ' sv' → Q sv' → R σ' H) → f ds sv Q → g vs σ H R
def PDGs (X : Cx) (es : List Expr) (f : Dgs) : Prop := ∃ g, PGs X es g ∧ SndGs X.K g f
@[simp] def dgName (i : Nat) : Dg := fun d sv Q => Q (sv.set i (.dat d))
theorem snd_gname {K : PySem.W.Frag} {i : Nat} : SndG K (gName i) (dgName i) := fun F P H σ sv d v Q R r rv k q => k _ _ (r.setDat rv) q
theorem pdg_name {i : Nat} {x : Str} (hN : X.N.Nodup) (hi : X.N[i]? = some x) (hx : Loc X.env.scope x) (hf : X.fn x = true ∨ X.env.scope.names.lookup x = some .local := by first | exact .inl rfl | exact .inr rfl | assumption) : PDG X (.Name x pos) (dgName i) :=
  ⟨_, pg_name hN hi hx hf, snd_gname⟩
@[simp] def dgNil : Dgs := fun ds sv Q => ds = [] ∧ Q sv
@[simp] def dgCons (f : Dg) (g : Dgs) : Dgs := fun ds sv Q => ∃ d r, ds = d :: r ∧ f d sv fun sv1 => g r sv1 Q
theorem pdgs_nil : PDGs X [] dgNil := ⟨_, pgs_nil, fun F P H σ sv ds vs Q R r rv k q => by
  obtain ⟨rfl, q⟩ := q
  exact ⟨rv, k _ _ r q⟩⟩
theorem PG.or {e : Expr} {g g' : TG} (h : PG X e g) (h' : PG X e g') : PG X e (fun v σ H Q => g v σ H Q ∨ g' v σ H Q) := by
  refine ⟨fun pins s σ H v u Q I r q => ?_⟩
  rcases q with q | q
  · exact h.run pins s σ H v u Q I r q
  · exact h'.run pins s σ H v u Q I r q
theorem pdgs_cons {e : Expr} {es : List Expr} {f : Dg} {g : Dgs} (h1 : PDG X e f) (h2 : PDGs X es g) (hs : (assignEach (e :: es) X.env).map (·.2) = assign e X.env :: (assignEach es X.env).map (·.2) := by rfl) : PDGs X (e :: es) (dgCons f g) := by
  obtain ⟨t, p1, s1⟩ := h1
  obtain ⟨u, p2, s2⟩ := h2
  refine ⟨_, pgs_cons p1 p2 hs, fun F P H σ sv ds vs Q R r rv k q => ?_⟩
  obtain ⟨d, rr, rfl, q⟩ := q
  obtain ⟨v, vr, rfl, r1, r2⟩ := rv
  exact ⟨v, vr, rfl, s1 F P H σ sv d v _ _ r r1 (fun σ' sv' r' q' => s2 F P H σ' sv' rr vr Q R r' r2 k q') q⟩
@[simp] def dgTup (n : Nat) (g : Dgs) : Dg := fun d sv Q => match d with
  | .tup ds => ds.length = n ∧ g ds sv Q
  | .lst ds => ds.length = n ∧ g ds sv Q
  | _ => False
theorem pdg_tup {es : List Expr} {k : Nat} {g : Dgs} {n : Nat} (hc : X.calm = true) (h : PDGs X es g) (hn : (assignEach es X.env).length = n := by rfl) (hst : (assignEach es X.env).findIdx? (·.1) = none := by rfl) : PDG X (.Tuple es k pos) (dgTup n g) := by
  obtain ⟨t, p, s⟩ := h
  refine ⟨_, PG.or (pg_tup hc p hn hst) (pg_lst hc p hn hst), fun F P H σ sv d v Q R r rv kk q => ?_⟩
  cases d with
  | tup ds =>
    obtain ⟨a, xs, rfl, e1, rl⟩ := rv
    exact .inl ⟨a, xs, rfl, sqT_of (r.sub _ _ e1), by rw [rl.length]; exact q.1, s F P H σ sv ds xs Q R r rl kk q.2⟩
  | lst ds =>
    obtain ⟨a, xs, rfl, e1, rl⟩ := rv
    exact .inr ⟨a, xs, rfl, SqL.of (r.sub _ _ e1), by rw [rl.length]; exact q.1, s F P H σ sv ds xs Q R r rl kk q.2⟩
  | _ => exact q.elim

/-! ### assignments -/
@[simp] def dAsg (f : De) (g : Dg) : Ds := fun sv D => f sv (fun d sv1 => g d sv1 D.nx) D.ex
theorem snd_asg {K : PySem.W.Frag} {W : Wz} {t : TE} {g : TG} {f : De} {dg : Dg} (h1 : SndE K W t f) (h2 : SndG K g dg) : SndS K W (tAsg t g) (dAsg f dg) := fun F P H σ sv D Dd r l q =>
  h1 F P H σ sv _ _ _ r (fun v H1 P1 d sv1 r1 s1 rv q1 => h2 _ P1 H1 σ sv1 d v _ _ r1 rv (fun σ' sv' r' q' => l.nx σ' H1 P1 sv' r' s1 q') q1) (fun cls dd H1 P1 x sv1 r1 rx q1 => l.ex cls dd σ H1 P1 x sv1 r1 rx q1) q
theorem pds_set {i : Nat} {x : Str} {e : Expr} {f : De} {pos' : Pos} (hN : X.N.Nodup) (hi : X.N[i]? = some x) (hx : Loc X.env.scope x) (he : PD X W e f) (hs : swapsWith e (some (.Name x pos')) pos.line X.env = pure false := by rfl)
    (hf : X.fn x = true ∨ X.env.scope.names.lookup x = some .local := by first | exact .inl rfl | exact .inr rfl | assumption) : PDS X W (.Assign [.Name x pos'] e pos) (dAsg f (dgName i)) := by
  obtain ⟨t, p, s⟩ := he
  exact ⟨_, ps_set hN hi hx p hs hf, snd_asg s snd_gname⟩
theorem pds_asg {tg e : Expr} {f : De} {g : Dg} (he : PD X W e f) (hg : PDG X tg g) (hs : swapsWithSole [tg] e pos.line X.env = pure false := by rfl) (hw : swappedStores [tg] e X.env = pure none := by rfl) (hm : (assignEach [tg] X.env).map (·.2) = [assign tg X.env] := by rfl) : PDS X W (.Assign [tg] e pos) (dAsg f g) := by
  obtain ⟨t, p, s⟩ := he
  obtain ⟨u, p2, s2⟩ := hg
  exact ⟨_, ps_asg p p2 hs hw hm, snd_asg s s2⟩
/-- a slot is given a new list: it is the frame's own -/
@[simp] def dSetL (i : Nat) (g : Dl) : Ds := fun sv D => g sv (fun ds sv1 => D.nx (sv1.set i (.own ds))) D.ex
theorem pds_setL {i : Nat} {x : Str} {e : Expr} {g : Dl} {pos' : Pos} (hN : X.N.Nodup) (hi : X.N[i]? = some x) (hx : Loc X.env.scope x) (he : PDL X W e g) (hs : swapsWith e (some (.Name x pos')) pos.line X.env = pure false := by rfl)
    (hf : X.fn x = true ∨ X.env.scope.names.lookup x = some .local := by first | exact .inl rfl | exact .inr rfl | assumption) : PDS X W (.Assign [.Name x pos'] e pos) (dSetL i g) := by
  obtain ⟨t, p, s⟩ := he
  exact ⟨_, ps_set hN hi hx p hs hf, fun F P H σ sv D Dd r l q => s F P H σ sv _ _ _ r (fun p' H1 P1 ds sv1 r1 s1 n q1 => l.nx _ H1 P1 _ (r1.setNew n) s1 q1) (fun cls dd H1 P1 x sv1 r1 rx q1 => l.ex cls dd σ H1 P1 x sv1 r1 rx q1) q⟩
/-! a, b = e, f -/
section par
variable {i j : Nat} {x y : Str} {a b : Expr} {px py pt : Pos} {kt k2 : Nat} {pt2 : Pos}
@[simp] def dParDD (i j : Nat) (f g : De) : Ds := fun sv D => f sv (fun d sv1 => g sv1 (fun e sv2 => D.nx ((sv2.set i (.dat d)).set j (.dat e))) D.ex) D.ex
@[simp] def dParDL (i j : Nat) (f : De) (g : Dl) : Ds := fun sv D => f sv (fun d sv1 => g sv1 (fun es sv2 => D.nx ((sv2.set i (.dat d)).set j (.own es))) D.ex) D.ex
@[simp] def dParLD (i j : Nat) (f : Dl) (g : De) : Ds := fun sv D => f sv (fun ds sv1 => g sv1 (fun e sv2 => D.nx ((sv2.set i (.own ds)).set j (.dat e))) D.ex) D.ex
@[simp] def dParLL (i j : Nat) (f g : Dl) : Ds := fun sv D => f sv (fun ds sv1 => g sv1 (fun es sv2 => D.nx ((sv2.set i (.own ds)).set j (.own es))) D.ex) D.ex
/-- a new list is put aside, then taken up -/
def Fr.keep (F : Fr) (p : Addr) (vs : List V) : Fr := { F with Kp := (p, ⟨.lst vs, fun _ z => by cases z⟩) :: F.Kp }
theorem Rel.aside {K : PySem.W.Frag} {F : Fr} {P H : Hp} {σ : L2.St} {sv : Sv} {p : Addr} {ds : List D} (r : Rel K F P H σ sv) (n : NewL K F P H σ sv p ds) : ∃ vs, RpL K P ds vs ∧ Rel K (F.keep p vs) P H σ sv := by
  obtain ⟨vs, h1, h2, h3, h4, h5, h6⟩ := n
  exact ⟨vs, h4, ⟨r.len, r.lim, r.sub, r.p0, r.new, r.ext, r.selfs, r.bags, fun i s o e1 e2 => by
    have q := r.sl i s o e1 e2
    cases s <;> exact q, r.apart, fun q ws hq => by
    rcases List.mem_cons.mp hq with z | z
    · cases z
      exact ⟨h1, h2, h3, h5⟩
    · exact r.kept q ws z⟩⟩
theorem Rel.back {K : PySem.W.Frag} {F : Fr} {P H : Hp} {σ : L2.St} {sv : Sv} {p : Addr} {vs : List V} (r : Rel K (F.keep p vs) P H σ sv) : Rel K F P H σ sv :=
  ⟨r.len, r.lim, r.sub, r.p0, r.new, r.ext, r.selfs, r.bags, fun i s o e1 e2 => by
    have q := r.sl i s o e1 e2
    cases s <;> exact q, r.apart, fun q ws hq => r.kept q ws (List.mem_cons_of_mem _ hq)⟩
theorem Rel.taken {K : PySem.W.Frag} {F : Fr} {P P0 H : Hp} {σ : L2.St} {sv : Sv} {p : Addr} {vs : List V} {ds : List D} (r : Rel K (F.keep p vs) P H σ sv) (s : Sub P0 P) (h : RpL K P0 ds vs) (hk : ∀ q ws, (q, ws) ∈ F.Kp → q ≠ p) : NewL K F P H σ sv p ds := by
  obtain ⟨h1, h2, h3, h4⟩ := r.kept p ⟨.lst vs, fun _ z => by cases z⟩ List.mem_cons_self
  exact ⟨vs, h1, h2, h3, RpL.mono s ds vs h, h4, hk⟩
variable (hc : X.calm = true) (hN : X.N.Nodup) (hi : X.N[i]? = some x) (hj : X.N[j]? = some y) (hij : i ≠ j) (hx : X.env.scope.names.lookup x = some .local) (hy : X.env.scope.names.lookup y = some .local)
include hc hN hi hj hij hx hy
theorem pds_parDD {f g : De} (h1 : PD X W a f) (h2 : PD X W b g) (hw : swappedStores [.Tuple [.Name x px, .Name y py] kt pt] (.Tuple [a, b] k2 pt2) X.env = pure (some [x, y])) (hs : swapsWithSole [.Tuple [.Name x px, .Name y py] kt pt] (.Tuple [a, b] k2 pt2) pos.line X.env = pure false := by rfl)
    (e1 : starEach [a, b] X.env = (false, eval a X.env) :: starEach [b] X.env := by rfl) (e2 : starEach [b] X.env = (false, eval b X.env) :: starEach [] X.env := by rfl) :
    PDS X W (.Assign [.Tuple [.Name x px, .Name y py] kt pt] (.Tuple [a, b] k2 pt2) pos) (dParDD i j f g) := by
  obtain ⟨ta, p1, s1⟩ := h1
  obtain ⟨tb, p2, s2⟩ := h2
  refine ⟨_, ps_par hc hN hi hj hij hx hy (pa_cons p1 (pa_cons p2 pa_nil e2) e1) hw hs, fun F P H σ sv D Dd r l q => ?_⟩
  refine s1 F P H σ sv _ _ _ r (fun v H1 P1 d sv1 r1 t1 rv q1 => s2 F P1 H1 σ sv1 _ _ _ r1 (fun w H2 P2 e sv2 r2 t2 rw q2 => ?_) (fun cls dd H1 P1 x sv1 r1 rx q1 => l.ex cls dd σ H1 P1 x sv1 r1 rx q1) q1) (fun cls dd H1 P1 x sv1 r1 rx q1 => l.ex cls dd σ H1 P1 x sv1 r1 rx q1) q
  exact ⟨v, w, rfl, l.nx _ H2 P2 _ ((r2.setDat (Rp.mono t2 d v rv)).setDat rw) (t1.trans t2) q2⟩
theorem pds_parDL {f : De} {g : Dl} (h1 : PD X W a f) (h2 : PDL X W b g) (hw : swappedStores [.Tuple [.Name x px, .Name y py] kt pt] (.Tuple [a, b] k2 pt2) X.env = pure (some [x, y])) (hs : swapsWithSole [.Tuple [.Name x px, .Name y py] kt pt] (.Tuple [a, b] k2 pt2) pos.line X.env = pure false := by rfl)
    (e1 : starEach [a, b] X.env = (false, eval a X.env) :: starEach [b] X.env := by rfl) (e2 : starEach [b] X.env = (false, eval b X.env) :: starEach [] X.env := by rfl) :
    PDS X W (.Assign [.Tuple [.Name x px, .Name y py] kt pt] (.Tuple [a, b] k2 pt2) pos) (dParDL i j f g) := by
  obtain ⟨ta, p1, s1⟩ := h1
  obtain ⟨tb, p2, s2⟩ := h2
  refine ⟨_, ps_par hc hN hi hj hij hx hy (pa_cons p1 (pa_cons p2 pa_nil e2) e1) hw hs, fun F P H σ sv D Dd r l q => ?_⟩
  refine s1 F P H σ sv _ _ _ r (fun v H1 P1 d sv1 r1 t1 rv q1 => s2 F P1 H1 σ sv1 _ _ _ r1 (fun p H2 P2 es sv2 r2 t2 n q2 => ?_) (fun cls dd H1 P1 x sv1 r1 rx q1 => l.ex cls dd σ H1 P1 x sv1 r1 rx q1) q1) (fun cls dd H1 P1 x sv1 r1 rx q1 => l.ex cls dd σ H1 P1 x sv1 r1 rx q1) q
  refine ⟨v, _, rfl, l.nx _ H2 P2 _ ((r2.setDat (Rp.mono t2 d v rv)).setNew ?_) (t1.trans t2) q2⟩
  obtain ⟨vs, z1, z2, z3, z4, z5, z6⟩ := n
  refine ⟨vs, z1, z2, z3, z4, fun m s em am => ?_, z6⟩
  by_cases hm : m = i
  · subst hm
    rw [List.getElem?_set, if_pos rfl] at em
    split at em
    · cases em
      cases am
    · cases em
  · rw [List.getElem?_set_ne (Ne.symm hm)] at em ⊢
    exact z5 m s em am
theorem pds_parLD {f : Dl} {g : De} (h1 : PDL X W a f) (h2 : PD X W b g) (hw : swappedStores [.Tuple [.Name x px, .Name y py] kt pt] (.Tuple [a, b] k2 pt2) X.env = pure (some [x, y])) (hs : swapsWithSole [.Tuple [.Name x px, .Name y py] kt pt] (.Tuple [a, b] k2 pt2) pos.line X.env = pure false := by rfl)
    (e1 : starEach [a, b] X.env = (false, eval a X.env) :: starEach [b] X.env := by rfl) (e2 : starEach [b] X.env = (false, eval b X.env) :: starEach [] X.env := by rfl) :
    PDS X W (.Assign [.Tuple [.Name x px, .Name y py] kt pt] (.Tuple [a, b] k2 pt2) pos) (dParLD i j f g) := by
  obtain ⟨ta, p1, s1⟩ := h1
  obtain ⟨tb, p2, s2⟩ := h2
  refine ⟨_, ps_par hc hN hi hj hij hx hy (pa_cons p1 (pa_cons p2 pa_nil e2) e1) hw hs, fun F P H σ sv D Dd r l q => ?_⟩
  refine s1 F P H σ sv _ _ _ r (fun p H1 P1 ds sv1 r1 t1 n q1 => ?_) (fun cls dd H1 P1 x sv1 r1 rx q1 => l.ex cls dd σ H1 P1 x sv1 r1 rx q1) q
  obtain ⟨vs, rl, ra⟩ := r1.aside n
  have hk : ∀ q ws, (q, ws) ∈ F.Kp → q ≠ p := n.choose_spec.2.2.2.2.2
  refine s2 (F.keep p vs) P1 H1 σ sv1 _ _ _ ra (fun w H2 P2 e sv2 r2 t2 rw q2 => ?_) (fun cls dd H1 P1 x sv1 r1 rx q1 => l.ex cls dd σ H1 P1 x sv1 (Rel.back (F := F.at W.z) r1) rx q1) q1
  exact ⟨_, w, rfl, l.nx _ H2 P2 _ (((Rel.back (F := F.at W.z) r2).setNew (Rel.taken (F := F.at W.z) r2 t2 rl hk)).setDat rw) (t1.trans t2) q2⟩
theorem pds_parLL {f g : Dl} (h1 : PDL X W a f) (h2 : PDL X W b g) (hw : swappedStores [.Tuple [.Name x px, .Name y py] kt pt] (.Tuple [a, b] k2 pt2) X.env = pure (some [x, y])) (hs : swapsWithSole [.Tuple [.Name x px, .Name y py] kt pt] (.Tuple [a, b] k2 pt2) pos.line X.env = pure false := by rfl)
    (e1 : starEach [a, b] X.env = (false, eval a X.env) :: starEach [b] X.env := by rfl) (e2 : starEach [b] X.env = (false, eval b X.env) :: starEach [] X.env := by rfl) :
    PDS X W (.Assign [.Tuple [.Name x px, .Name y py] kt pt] (.Tuple [a, b] k2 pt2) pos) (dParLL i j f g) := by
  obtain ⟨ta, p1, s1⟩ := h1
  obtain ⟨tb, p2, s2⟩ := h2
  refine ⟨_, ps_par hc hN hi hj hij hx hy (pa_cons p1 (pa_cons p2 pa_nil e2) e1) hw hs, fun F P H σ sv D Dd r l q => ?_⟩
  refine s1 F P H σ sv _ _ _ r (fun p H1 P1 ds sv1 r1 t1 n q1 => ?_) (fun cls dd H1 P1 x sv1 r1 rx q1 => l.ex cls dd σ H1 P1 x sv1 r1 rx q1) q
  obtain ⟨vs, rl, ra⟩ := r1.aside n
  have hk : ∀ q ws, (q, ws) ∈ F.Kp → q ≠ p := n.choose_spec.2.2.2.2.2
  refine s2 (F.keep p vs) P1 H1 σ sv1 _ _ _ ra (fun p2 H2 P2 es sv2 r2 t2 n2 q2 => ?_) (fun cls dd H1 P1 x sv1 r1 rx q1 => l.ex cls dd σ H1 P1 x sv1 (Rel.back (F := F.at W.z) r1) rx q1) q1
  refine ⟨_, _, rfl, l.nx _ H2 P2 _ (((Rel.back (F := F.at W.z) r2).setNew (Rel.taken (F := F.at W.z) r2 t2 rl hk)).setNew ?_) (t1.trans t2) q2⟩
  obtain ⟨ws, z1, z2, z3, z4, z5, z6⟩ := n2
  refine ⟨ws, z1, z2, z3, z4, fun m s em am => ?_, fun q us hq => z6 q us (List.mem_cons_of_mem _ hq)⟩
  by_cases hm : m = i
  · subst hm
    rw [List.getElem?_set, if_pos rfl]
    split
    · intro z
      injection z with z7
      injection z7 with z8
      injection z8 with z9
      exact z6 p ⟨.lst vs, fun _ z => by cases z⟩ List.mem_cons_self z9
    · intro z
      cases z
  · rw [List.getElem?_set_ne (Ne.symm hm)] at em ⊢
    exact z5 m s em am
end par

/-! ### the rest -/
@[simp] def dDrop (f : De) : Ds := fun sv D => f sv (fun _ sv1 => D.nx sv1) D.ex
theorem pds_expr {e : Expr} {f : De} (he : PD X W e f) (hs : swapsWith e none pos.line X.env = pure false := by rfl) : PDS X W (.Expr e pos) (dDrop f) := by
  obtain ⟨t, p, s⟩ := he
  exact ⟨_, ps_expr p hs, fun F P H σ sv D Dd r l q => s F P H σ sv _ _ _ r (fun v H1 P1 d sv1 r1 s1 rv q1 => l.nx σ H1 P1 sv1 r1 s1 q1) (fun cls dd H1 P1 x sv1 r1 rx q1 => l.ex cls dd σ H1 P1 x sv1 r1 rx q1) q⟩
@[simp] def dRet (f : De) : Ds := fun sv D => f sv (fun d _ => D.rt d) D.ex
theorem pds_ret {e : Expr} {f : De} (he : PD X W e f) : PDS X W (.Return (some e) pos) (dRet f) := by
  obtain ⟨t, p, s⟩ := he
  exact ⟨_, ps_ret p, fun F P H σ sv D Dd r l q => s F P H σ sv _ _ _ r (fun v H1 P1 d sv1 r1 s1 rv q1 => l.rt σ H1 P1 sv1 v d r1 rv q1) (fun cls dd H1 P1 x sv1 r1 rx q1 => l.ex cls dd σ H1 P1 x sv1 r1 rx q1) q⟩
@[simp] def dRetN : Ds := fun _ D => D.rt .non
theorem pds_retN : PDS X W (.Return none pos) dRetN := ⟨_, ps_retN, fun F P H σ sv D Dd r l q => l.rt σ H P sv .non .non r rfl q⟩
@[simp] def dIfS (c : Dt) (f g : Ds) : Ds := fun sv D => c sv (fun b sv1 => if b = true then f sv1 D else g sv1 D) D.ex
theorem pds_if {c : Expr} {a b : List Stmt} {fc : Dt} {f g : Ds} (hc : PDT X W c fc) (h1 : PDSs X W a f) (h2 : PDSs X W b g) : PDS X W (.If c a b pos) (dIfS fc f g) := by
  obtain ⟨tc, pc, sc⟩ := hc
  obtain ⟨ta, p1, s1⟩ := h1
  obtain ⟨tb, p2, s2⟩ := h2
  refine ⟨_, ps_if pc p1 p2, fun F P H σ sv D Dd r l q => sc F P H σ sv _ _ _ r (fun b H1 P1 sv1 r1 t1 q1 => ?_) (fun cls dd H1 P1 x sv1 r1 rx q1 => l.ex cls dd σ H1 P1 x sv1 r1 rx q1) q⟩
  cases b with
  | true => exact s1 F P1 H1 σ sv1 D Dd r1 (l.mono t1) q1
  | false => exact s2 F P1 H1 σ sv1 D Dd r1 (l.mono t1) q1
@[simp] def dNext : Ds := fun sv D => D.nx sv
@[simp] def dSeq (f g : Ds) : Ds := fun sv D => f sv { D with nx := fun sv1 => g sv1 D }
theorem pdss_nil : PDSs X W [] dNext := ⟨_, pss_nil, fun F P H σ sv D Dd r l q => l.nx σ H P sv r (Sub.refl P) q⟩
theorem pdss_one {st : Stmt} {f : Ds} (h : PDS X W st f) : PDSs X W [st] f := by
  obtain ⟨t, p, s⟩ := h
  exact ⟨t, pss_one p, s⟩
theorem pdss_cons {st : Stmt} {rest : List Stmt} {f g : Ds} (h1 : PDS X W st f) (h2 : PDSs X W rest g) : PDSs X W (st :: rest) (dSeq f g) := by
  obtain ⟨t, p1, s1⟩ := h1
  obtain ⟨u, p2, s2⟩ := h2
  refine ⟨_, pss_cons p1 p2, fun F P H σ sv D Dd r l q => s1 F P H σ sv _ { Dd with nx := fun sv1 => g sv1 Dd } r ⟨fun σ' H' P' sv' r' t' q' => s2 F P' H' σ' sv' D Dd r' (l.mono t') q', l.rt, l.bk, l.ct, l.ex⟩ q⟩
@[simp] def dBreak : Ds := fun sv D => D.bk sv
@[simp] def dCont : Ds := fun sv D => D.ct sv
theorem pds_pass : PDS X W (.Pass pos) dNext := ⟨_, ps_pass, fun F P H σ sv D Dd r l q => l.nx σ H P sv r (Sub.refl P) q⟩
theorem pds_break : PDS X W (.Break pos) dBreak := ⟨_, ps_break, fun F P H σ sv D Dd r l q => l.bk σ H P sv r (Sub.refl P) q⟩
theorem pds_continue : PDS X W (.Continue pos) dCont := ⟨_, ps_continue, fun F P H σ sv D Dd r l q => l.ct σ H P sv r (Sub.refl P) q⟩

/-! ### for -/
/-- J walks the items ds -/
structure Walks (K : PySem.W.Frag) (J : It) (P : Hp) (ds : List D) : Prop where
  go : ∀ (i : Nat) (H P' : Hp), Sub P P' → Sub P' H → i < ds.length → J.go i H ∧ ∀ x H', J.yld i H x H' → ∃ P'', Sub P' P'' ∧ (∀ a o, P'' a = some o → P' a = some o ∨ NewAt H a o) ∧ Sub H H' ∧ Sub P'' H' ∧ ∃ d, ds[i]? = some d ∧ Rp K P'' d x
  stop : ∀ (i : Nat) (H P' : Hp), Sub P P' → Sub P' H → ds.length ≤ i → J.stop i H
def SndI (K : PySem.W.Frag) (W : Wz) (t : TI) (f : Dl) : Prop := ∀ (F : Fr) (P H : Hp) (σ : L2.St) (sv : Sv) (Q : List D → Sv → Prop) (E : DX) (R : It → Hp → Prop), Rel K (F.at W.z) P H σ sv →
  (∀ J H' P' ds sv', Rel K (F.at W.z) P' H' σ sv' → Sub P P' → Walks K J P' ds → Q ds sv' → R J H') →
  (∀ cls dd H' P' x sv', Rel K (F.at W.z) P' H' σ sv' → XdRel K P' H' x cls dd → E x sv' → W cls dd σ H') → f sv Q E → t σ H R
def PDI (X : Cx) (W : Wz) (tg e : Expr) (f : Dl) : Prop := ∃ t, PI X tg e t ∧ SndI X.K W t f
theorem still {K : PySem.W.Frag} {P' H H' : Hp} {ds : List D} {i : Nat} {x : V} (s2 : Sub P' H) (e : H' = H) (h : ∃ d, ds[i]? = some d ∧ Rp K P' d x) : ∃ P'', Sub P' P'' ∧ (∀ a o, P'' a = some o → P' a = some o ∨ NewAt H a o) ∧ Sub H H' ∧ Sub P'' H' ∧ ∃ d, ds[i]? = some d ∧ Rp K P'' d x := by
  subst e
  exact ⟨P', Sub.refl _, fun _ _ z => .inl z, Sub.refl _, s2, h⟩
/-- the items of a list -/
@[simp] def dItL (f : De) : Dl := fun sv Q E => f sv (fun d sv1 => ∃ ds, d = .lst ds ∧ Q ds sv1) E
@[simp] def dItT (f : De) : Dl := fun sv Q E => f sv (fun d sv1 => ∃ ds, (d = .tup ds ∨ d = .cst ds) ∧ Q ds sv1) E
@[simp] def dItS (f : De) : Dl := fun sv Q E => f sv (fun d sv1 => ∃ s, d = .str s ∧ Q (s.cps.toList.map fun c => .str ⟨#[c]⟩) sv1) E
theorem walks_list {K : PySem.W.Frag} {a : Addr} {P : Hp} {ds : List D} {vs : List V} (e : P a = some (.lst vs)) (r : RpL K P ds vs) : Walks K (Itl K a) P ds := by
  refine ⟨fun i H P' s1 s2 hi => ?_, fun i H P' s1 s2 hi => ⟨vs, SqL.of (s2 _ _ (s1 _ _ e)), by rw [r.length]; exact hi⟩⟩
  have hs : SqL K H a vs := SqL.of (s2 _ _ (s1 _ _ e))
  have hv : i < vs.length := by rw [r.length]; exact hi
  refine ⟨⟨vs, vs[i], hs, by simp [hv]⟩, fun x H' ⟨eh, y⟩ => still s2 eh ?_⟩
  exact (RpL.mono s1 ds vs r).get (y vs hs)
theorem walks_tup {K : PySem.W.Frag} {a : Addr} {P : Hp} {ds : List D} {vs : List V} (e : SqT K P a vs) (r : RpL K P ds vs) : Walks K (Itt K a) P ds := by
  refine ⟨fun i H P' s1 s2 hi => ?_, fun i H P' s1 s2 hi => ⟨vs, sub_t (s1.trans s2) e, by rw [r.length]; exact hi⟩⟩
  have hs : SqT K H a vs := sub_t (s1.trans s2) e
  have hv : i < vs.length := by rw [r.length]; exact hi
  refine ⟨⟨vs, vs[i], hs, by simp [hv]⟩, fun x H' ⟨eh, y⟩ => still s2 eh ?_⟩
  exact (RpL.mono s1 ds vs r).get (y vs hs)
theorem pdi_list {tg l : Expr} {f : De} (h : PD X W l f) : PDI X W tg l (dItL f) := by
  obtain ⟨t, p, s⟩ := h
  refine ⟨_, pi_list p, fun F P H σ sv Q E R r k kx q => s F P H σ sv _ E _ r (fun v H1 P1 d sv1 r1 s1 rv q1 => ?_) kx q⟩
  obtain ⟨ds, rfl, q1⟩ := q1
  obtain ⟨a, vs, rfl, e1, rl⟩ := rv
  exact ⟨a, rfl, ⟨vs, SqL.of (r1.sub _ _ e1)⟩, k _ H1 P1 ds sv1 r1 s1 (walks_list e1 rl) q1⟩
theorem pdi_tup {tg l : Expr} {f : De} (h : PD X W l f) : PDI X W tg l (dItT f) := by
  obtain ⟨t, p, s⟩ := h
  refine ⟨_, pi_tup p, fun F P H σ sv Q E R r k kx q => s F P H σ sv _ E _ r (fun v H1 P1 d sv1 r1 s1 rv q1 => ?_) kx q⟩
  obtain ⟨ds, hd, q1⟩ := q1
  have hs : ∃ a vs, v = .ref a ∧ SqT X.K P1 a vs ∧ RpL X.K P1 ds vs := by
    rcases hd with rfl | rfl
    · obtain ⟨a, vs, rfl, e1, rl⟩ := rv
      exact ⟨a, vs, rfl, sqT_of e1, rl⟩
    · exact rv
  obtain ⟨a, vs, rfl, e1, rl⟩ := hs
  exact ⟨a, rfl, ⟨vs, sub_t r1.sub e1⟩, k _ H1 P1 ds sv1 r1 s1 (walks_tup e1 rl) q1⟩
/-- range(n) -/
@[simp] def dItR (fa : Da) : Dl := fun sv Q E => fa sv (fun as sv1 => ∃ j : Int, as = [.dat (.int j)] ∧ -(2 ^ 62) ≤ j ∧ j < 2 ^ 62 ∧ Q ((List.range j.toNat).map fun (m : Nat) => .int (m : Int)) sv1) E
theorem walks_range {K : PySem.W.Frag} {P : Hp} {n : Nat} : Walks K (Itr 0 n) P ((List.range n).map fun (m : Nat) => D.int (m : Int)) := by
  refine ⟨fun i H P' _ s2 hi => ?_, fun i H P' _ _ hi => show n ≤ i by simpa using hi⟩
  have hi' : i < n := by simpa using hi
  refine ⟨hi', fun x H' ⟨eh, ex⟩ => still s2 eh ⟨.int (i : Int), by simp [hi'], ?_⟩⟩
  rw [ex]
  show V.int (0 + (i : Int)) = V.int (i : Int)
  rw [Int.zero_add]
theorem pdi_range {tg a : Expr} {p : Pos} {fa : Da} (hg : Gl X "range") (hm : X.mg "range" = none) (h : PDA X W [a] fa) (hs : starEach [a] X.env = [(false, eval a X.env)] := by rfl) : PDI X W tg (.Call (.Name "range" p) [a] [] pos) (dItR fa) := by
  obtain ⟨t, pa, s⟩ := h
  refine ⟨_, pi_range1 hg hm pa hs, fun F P H σ sv Q E R r k kx q => s F P H σ sv _ E _ r (fun vs H1 P1 as sv1 r1 s1 ra q1 => ?_) kx q⟩
  obtain ⟨j, rfl, h1, h2, q1⟩ := q1
  obtain ⟨v, rr, rfl, rv, rfl⟩ := ra
  obtain rfl := rv
  exact ⟨j, rfl, h1, h2, k _ H1 P1 _ sv1 r1 s1 walks_range q1⟩
def loopD (dg : Dg) (fb : Ds) (D : Ed) : List Pd.D → Sv → Prop
  | [], sv => D.nx sv
  | d :: ds, sv => dg d sv fun sv1 => fb sv1 { D with nx := loopD dg fb D ds, ct := loopD dg fb D ds, bk := D.nx }
@[simp] def dFor (f : Dl) (dg : Dg) (fb : Ds) : Ds := fun sv D => f sv (fun ds sv1 => loopD dg fb D ds sv1) D.ex
theorem snd_for {K : PySem.W.Frag} {W : Wz} {wi : TI} {g : TG} {tb : TS} {f : Dl} {dg : Dg} {fb : Ds} (h1 : SndI K W wi f) (h2 : SndG K g dg) (h3 : SndS K W tb fb) : SndS K W (tFor wi g tb) (dFor f dg fb) := fun F P H σ sv D Dd r l q =>
  h1 F P H σ sv _ _ _ r (fun J H1 P1 ds sv1 r1 s1 w q1 => by
    refine ⟨fun i m σ2 H2 => m = ds.length - i ∧ i ≤ ds.length ∧ ∃ P2 sv2, Rel K (F.at W.z) P2 H2 σ2 sv2 ∧ Sub P1 P2 ∧ loopD dg fb Dd (ds.drop i) sv2, ⟨_, rfl, Nat.zero_le _, P1, sv1, r1, Sub.refl P1, q1⟩, ?_⟩
    rintro i m σ2 H2 ⟨rfl, hi, P2, sv2, r2, s2, q2⟩
    by_cases hlt : i < ds.length
    · obtain ⟨g1, g2⟩ := w.go i H2 P2 s2 r2.sub hlt
      refine .inr ⟨g1, fun σ' H' => ∃ P3 sv3, Rel K (F.at W.z) P3 H' σ' sv3 ∧ Sub P1 P3 ∧ loopD dg fb Dd (ds.drop (i + 1)) sv3, fun σ' H' ⟨P3, sv3, z⟩ => ⟨ds.length - (i + 1), by omega, rfl, hlt, P3, sv3, z⟩, fun x H' y => ?_⟩
      obtain ⟨P2', n1, n2, n3, n4, d, ed, rx⟩ := g2 x H' y
      replace r2 := Rel.grow r2 n1 n2 n3 n4
      replace s2 := s2.trans n1
      have el : ds.drop i = d :: ds.drop (i + 1) := by
        rw [List.drop_eq_getElem_cons hlt]
        have : ds[i] = d := by
          have := List.getElem?_eq_getElem hlt
          rw [this] at ed
          exact Option.some.inj ed
        rw [this]
      rw [el] at q2
      refine h2 _ P2' _ σ2 sv2 d x _ _ r2 rx (fun σ3 sv3 r3 q3 => ?_) q2
      exact h3 F P2' _ σ3 sv3 _ { Dd with nx := loopD dg fb Dd (ds.drop (i + 1)), ct := loopD dg fb Dd (ds.drop (i + 1)), bk := Dd.nx } r3 ⟨fun σ' H' P' sv' r' t' q' => ⟨P', sv', r', s2.trans t', q'⟩, l.rt, fun σ' H' P' sv' r' t' q' => l.nx σ' H' P' sv' r' ((s1.trans s2).trans t') q', fun σ' H' P' sv' r' t' q' => ⟨P', sv', r', s2.trans t', q'⟩, l.ex⟩ q3
    · have e : i = ds.length := by omega
      subst e
      rw [List.drop_length] at q2
      exact .inl ⟨w.stop _ H2 P2 s2 r2.sub (Nat.le_refl _), l.nx σ2 H2 P2 sv2 r2 (s1.trans s2) q2⟩) (fun cls dd H1 P1 x sv1 r1 rx q1 => l.ex cls dd σ H1 P1 x sv1 r1 rx q1) q
theorem pds_for {tg iter : Expr} {body : List Stmt} {f : Dl} {dg : Dg} {fb : Ds} (hp : PassesOwn (model X.prog X.w) X.A X.env X.xe) (hc : X.calm = true) (hi : PDI X W tg iter f) (hg : PDG X tg dg) (hb : PDSs X W body fb) (hs : ∀ v, foldedSetIterable iter X.env v = pure v := by intro _; rfl) : PDS X W (.For tg iter body [] pos) (dFor f dg fb) := by
  obtain ⟨wi, p1, s1⟩ := hi
  obtain ⟨g, p2, s2⟩ := hg
  obtain ⟨tb, p3, s3⟩ := hb
  exact ⟨_, ps_for hp hc p1 p2 p3 hs, snd_for s1 s2 s3⟩
/-! ### while -/
def whileD (c : Dt) (fb : Ds) (D : Ed) : Nat → Sv → Prop
  | 0, _ => False
  | n + 1, sv => c sv (fun b sv1 => if b = true then fb sv1 { D with nx := whileD c fb D n, ct := whileD c fb D n, bk := D.nx } else D.nx sv1) D.ex
@[simp] def dWhile (c : Dt) (fb : Ds) : Ds := fun sv D => ∃ n, whileD c fb D n sv
theorem pds_while {c : Expr} {body : List Stmt} {fc : Dt} {fb : Ds} (hp : PassesOwn (model X.prog X.w) X.A X.env X.xe) (hc : PDT X W c fc) (hb : PDSs X W body fb) : PDS X W (.While c body [] pos) (dWhile fc fb) := by
  obtain ⟨tc, p1, s1⟩ := hc
  obtain ⟨tb, p2, s2⟩ := hb
  refine ⟨_, ps_while hp p1 p2, fun F P H σ sv D Dd r l q => ?_⟩
  obtain ⟨n, q⟩ := q
  refine ⟨fun m σ2 H2 => ∃ P2 sv2, Rel X.K (F.at W.z) P2 H2 σ2 sv2 ∧ Sub P P2 ∧ whileD fc fb Dd m sv2, ⟨n, P, sv, r, Sub.refl P, q⟩, ?_⟩
  rintro m σ2 H2 ⟨P2, sv2, r2, t2, q2⟩
  cases m with
  | zero => exact q2.elim
  | succ m =>
    refine s1 F P2 H2 σ2 sv2 _ _ _ r2 (fun b H3 P3 sv3 r3 t3 q3 => ?_) (fun cls dd H1 P1 x sv1 r1 rx q1 => l.ex cls dd σ2 H1 P1 x sv1 r1 rx q1) q2
    cases b with
    | true =>
      refine ⟨fun σ' H' => ∃ P4 sv4, Rel X.K (F.at W.z) P4 H' σ' sv4 ∧ Sub P P4 ∧ whileD fc fb Dd m sv4, fun σ' H' z => ⟨m, Nat.lt_succ_self m, z⟩, ?_⟩
      exact s2 F P3 H3 σ2 sv3 _ { Dd with nx := whileD fc fb Dd m, ct := whileD fc fb Dd m, bk := Dd.nx } r3 ⟨fun σ' H' P' sv' r' t' q' => ⟨P', sv', r', (t2.trans t3).trans t', q'⟩, l.rt, fun σ' H' P' sv' r' t' q' => l.nx σ' H' P' sv' r' ((t2.trans t3).trans t') q', fun σ' H' P' sv' r' t' q' => ⟨P', sv', r', (t2.trans t3).trans t', q'⟩, l.ex⟩ q3
    | false => exact l.nx σ2 H3 P3 sv3 r3 (t2.trans t3) q3
end
end Pd
end
section
set_option autoImplicit false
set_option Elab.async false
set_option linter.all false
set_option autoImplicit false
set_option maxRecDepth 100000
set_option maxHeartbeats 1000000
/-! Pd6: defs by contracts over data. -/
namespace Pd
open PySem PySem.Spec PyProof.Rows L2

/-- a def keeps its promise wherever nothing is being shown -/
structure Fd (P : Program) (w : World) (K : PySem.W.Frag) (mg : Str → Option Value) (base : Heap) (k : Nat) (f : Addr) (fd : FuncData) (ps : List Str) (sp : Sp) : Prop where
  len : ∀ vs H Q E, sp vs H Q E → vs.length = ps.length
  run : ∀ (A : Around) (outer : List Env) (s : Shared) (H : Hp) (args : Args) (us : List Value) (vs : List V) (Q : VK) (E : XK), Room k A → A.guards = some [] → Env0 P w K mg base A outer s H → BindsTo s fd args (ps.zip us) → Vals vs us → sp vs H Q E →
    codeAny (model P w) A (.call (.ref f) args) (CR (L2.CX P w) outer P w H s Q E) s
theorem Fd.imp {P : Program} {w : World} {K : PySem.W.Frag} {mg : Str → Option Value} {base : Heap} {k : Nat} {f : Addr} {fd : FuncData} {ps : List Str} {sp sp' : Sp} (F : Fd P w K mg base k f fd ps sp) (h : ∀ vs H Q E, sp' vs H Q E → sp vs H Q E) : Fd P w K mg base k f fd ps sp' :=
  ⟨fun vs H Q E q => F.len vs H Q E (h _ _ _ _ q), fun A outer s H args us vs Q E hr hg he hb hv hs => F.run A outer s H args us vs Q E hr hg he hb hv (h _ _ _ _ hs)⟩
theorem Fd.mono {P : Program} {w : World} {K : PySem.W.Frag} {mg : Str → Option Value} {base : Heap} {j k : Nat} {f : Addr} {fd : FuncData} {ps : List Str} {sp : Sp} (F : Fd P w K mg base j f fd ps sp) (h : j ≤ k) : Fd P w K mg base k f fd ps sp :=
  ⟨F.len, fun A outer s H args us vs Q E hr => F.run A outer s H args us vs Q E (hr.mono h)⟩
section
variable {P : Program} {w : World} {K : PySem.W.Frag} {mg : Str → Option Value} {base : Heap} {x qual : Str} {params : Arguments} {body : List Stmt} {scope : Scope} {dvs : List V} {kws : List (Str × V)} {f : Addr} {fd : FuncData}
theorem fd_of {N ps : List Str} {k : Nat} {sp : Sp} (F : FunD K x qual params body scope dvs kws f fd) (S : FnScope N ps scope) (len : ∀ vs H Q E, sp vs H Q E → vs.length = ps.length)
    (hbody : ∀ (cdv : Value) (A : Around) (outer : List Env) (s : Shared) (H : Hp) (vs : List V) (Q : VK) (E : XK), Room k (A.deeper (envOfC qual scope s.heap.objs.size f cdv)) → A.guards = some [] → sp vs H Q E →
      ∃ t, PSs (cxOf (L2.CX P w) P w K mg base N qual scope f cdv A outer s H E) body t ∧ t { nx := fun _ H' => Q .non H', rt := Q } (L2.start N vs) H) : Fd P w K mg base (k + 1) f fd ps sp := by
  obtain ⟨oc, od, dV, kV, doc, pm, an, cdv, ct, osl, rfl, lk, hcd, _, _⟩ := F.ex
  refine ⟨len, fun A outer s H args us vs Q E hr hG e0 hb r hsp => ?_⟩
  have hl := len _ _ _ _ hsp
  have KX : K.In s.heap := e0.mod.kin.keeps fun b o e => (e0.bs b o e).1
  have lim : s.heap.NoLimit := e0.mod.nolimit.keeps fun b o e => (e0.bs b o e).1
  have hkind : ∀ y ∈ ps.zip us, scope.names.lookup y.1 = some .local ∨ (scope.names.lookup y.1 = some .cell ∧ ((cellsFrom (s.heap.objs.size + 1) scope.names []).lookup y.1).isSome = true) := fun ⟨n, v⟩ hy => by
    rcases S.par n (List.of_mem_zip hy).1 with q | q
    · exact .inl q
    · exact .inr ⟨q, PySem.W.cellsFrom_some _ _ _ (.inl q)⟩
  refine codeAny_call_function hr.depth (KX _ _ lk) rfl S.co S.gen rfl (PySem.W.codeRec_of KX hcd) (hb _ _ _ _ ?_)
  refine wpAny_newFunctionEnv_cells S.kind hkind fun env he s1 x => ?_
  subst he
  refine ⟨lim.keeps x.toInCall.keep, codeAny_func ?_⟩
  obtain ⟨t, ht, hq⟩ := hbody cdv A outer s H vs Q E (hr.deeper _) hG hsp
  have I : Inv (cxOf (L2.CX P w) P w K mg base N qual scope f cdv A outer s H E) [] (L2.start N vs) H s1 := inv_start S hr.hd e0 hl r x
  refine wpAny_mono (ht.run [] s1 (L2.start N vs) H _ I hq) (fun fl s' hs => ?_) fun e s' hs => hs
  have fin : ∀ {σ' : L2.St} {H' : Hp} {v : V} {u : Value}, Inv (cxOf (L2.CX P w) P w K mg base N qual scope f cdv A outer s H E) [] σ' H' s' → RelV v u → Q v H' → CE outer P w H s Q u s' :=
    fun {σ' H' v u} J rv q => ⟨v, H', J.os, J.bare, J.base, J.hok, rv, q⟩
  cases fl with
  | ret u =>
    obtain ⟨v, σ', H', J, rv, q⟩ := hs
    exact fin J rv q
  | next =>
    obtain ⟨σ', H', J, q⟩ := hs
    exact fin (v := V.non) (u := Value.none) J rfl q
  | brk =>
    obtain ⟨_, _, _, q⟩ := hs
    exact False.elim q
  | cont =>
    obtain ⟨_, _, _, q⟩ := hs
    exact False.elim q
end

/-! ### contracts -/
abbrev DA := List (Option D)
/-- what a def is worth over data: an argument is data or (none) the draws, of which it makes at most so many; what it may give; what it may raise -/
structure Ct where
  cost : Nat
  c : DA → (D → Prop) → (Xd → Prop) → Prop
def OsRel (K : PySem.W.Frag) (P : Hp) (B : Addr → Prop) : DA → List V → Prop
  | [], vs => vs = []
  | a :: as, vs => ∃ v r, vs = v :: r ∧ (match a with
    | some d => Rp K P d v
    | none => ∃ p, v = .ref p ∧ B p) ∧ OsRel K P B as r
/-- how the heap stands behind a def -/
structure Post (P H : Hp) (B : Addr → Prop) (L : Int) (P' H' : Hp) : Prop where
  sub : Sub P' H'
  grow : Sub P P'
  new : ∀ a o, P' a = some o → P a = some o ∨ NewAt H a o
  keep : ∀ a o, H a = some o → ¬ B a → H' a = some o
  bags : ∀ a, B a → DrawsAt H' a L 0
def oneNone : DA → Prop
  | [] => True
  | none :: as => none ∉ as
  | some _ :: as => oneNone as
def spC (K : PySem.W.Frag) (n : Nat) (ct : Ct) : Sp := fun vs H Q E => ∃ (P : Hp) (B : Addr → Prop) (L : Int) (as : DA), Sub P H ∧ L ≤ 2 ^ 39 ∧ OsRel K P B as vs ∧ as.length = n ∧ oneNone as ∧ (∀ a, B a → P a = none ∧ DrawsAt H a L ct.cost) ∧
  ct.c as (fun d => ∀ v H' P', Post P H B L P' H' → Rp K P' d v → Q v H') (fun x => ∀ cls dd H' P', Post P H B L P' H' → XdRel K P' H' x cls dd → E cls dd H')
theorem OsRel.length {K : PySem.W.Frag} {P : Hp} {B : Addr → Prop} : ∀ {as : DA} {vs : List V}, OsRel K P B as vs → vs.length = as.length
  | [], _, h => by
    cases h
    rfl
  | a :: as, _, h => by
    obtain ⟨v, r, rfl, _, h2⟩ := h
    simp [OsRel.length h2]
theorem spC_len {K : PySem.W.Frag} {n : Nat} {ct : Ct} : ∀ vs H Q E, spC K n ct vs H Q E → vs.length = n := fun vs H Q E ⟨P, B, L, as, _, _, h, hl, _⟩ => by rw [h.length, hl]

/-- the slots at a def's entry -/
@[simp] def sl0 (cost : Nat) : Option D → Sl
  | some d => .dat d
  | none => .bag cost
@[simp] def sv0 (N : List Str) (cost : Nat) (as : DA) : Sv := as.map (sl0 cost) ++ List.replicate (N.length - as.length) .un
theorem osget {K : PySem.W.Frag} {P : Hp} {B : Addr → Prop} : ∀ {as : DA} {vs : List V} {i : Nat} {a : Option D}, OsRel K P B as vs → as[i]? = some a → ∃ v, vs[i]? = some v ∧ (match a with
    | some d => Rp K P d v
    | none => ∃ p, v = .ref p ∧ B p)
  | [], _, i, a, _, e => by simp at e
  | b :: as, _, 0, a, h, e => by
    obtain ⟨v, r, rfl, h1, _⟩ := h
    simp at e
    subst e
    exact ⟨v, rfl, h1⟩
  | b :: as, _, i + 1, a, h, e => by
    obtain ⟨v, r, rfl, _, h2⟩ := h
    obtain ⟨w, e2, z⟩ := osget (i := i) h2 (by simpa using e)
    exact ⟨w, by simpa using e2, z⟩
theorem one_apart : ∀ {as : DA} {i j : Nat}, oneNone as → as[i]? = some none → as[j]? = some none → i = j
  | [], i, j, _, e, _ => by simp at e
  | some d :: as, 0, j, _, e, _ => by simp at e
  | some d :: as, i + 1, 0, _, _, e => by simp at e
  | some d :: as, i + 1, j + 1, h, e1, e2 => by
    have e3 : as[i]? = some none := e1
    have e4 : as[j]? = some none := e2
    rw [one_apart (as := as) h e3 e4]
  | none :: as, 0, 0, _, _, _ => rfl
  | none :: as, 0, j + 1, h, _, e => absurd (List.mem_of_getElem? (by simpa using e)) h
  | none :: as, i + 1, j, h, e, _ => absurd (List.mem_of_getElem? (by simpa using e)) h
theorem start_get {N : List Str} {vs : List V} {i : Nat} {o : Option V} (h : (L2.start N vs)[i]? = some o) : (∃ v, vs[i]? = some v ∧ o = some v) ∨ (vs.length ≤ i ∧ o = none) := by
  unfold L2.start at h
  by_cases hi : i < vs.length
  · rw [List.getElem?_append_left (by simpa using hi), List.getElem?_map] at h
    cases e : vs[i]? with
    | none =>
      rw [e] at h
      cases h
    | some v =>
      rw [e] at h
      cases h
      exact .inl ⟨v, rfl, rfl⟩
  · rw [List.getElem?_append_right (by simpa using hi), List.getElem?_replicate] at h
    split at h
    · cases h
      exact .inr ⟨by omega, rfl⟩
    · cases h
theorem sv0_get {N : List Str} {c : Nat} {as : DA} {i : Nat} {s : Sl} (h : (sv0 N c as)[i]? = some s) : (∃ a, as[i]? = some a ∧ s = sl0 c a) ∨ s = .un := by
  unfold sv0 at h
  by_cases hi : i < as.length
  · rw [List.getElem?_append_left (by simpa using hi), List.getElem?_map] at h
    cases e : as[i]? with
    | none =>
      rw [e] at h
      cases h
    | some a =>
      rw [e] at h
      cases h
      exact .inl ⟨a, rfl, rfl⟩
  · rw [List.getElem?_append_right (by simpa using hi), List.getElem?_replicate] at h
    split at h
    · cases h
      exact .inr rfl
    · cases h
theorem rel0 {K : PySem.W.Frag} {P H : Hp} {B : Addr → Prop} {L : Int} {as : DA} {vs : List V} {cost : Nat} {N : List Str} (hN : as.length ≤ N.length) (s : Sub P H) (hL : L ≤ 2 ^ 39) (r : OsRel K P B as vs) (h1 : oneNone as) (hB : ∀ a, B a → P a = none ∧ DrawsAt H a L cost) :
    Rel K ⟨H, P, B, fun _ => False, L, [], none⟩ P H (L2.start N vs) (sv0 N cost as) := by
  have hl := r.length
  refine ⟨by unfold sv0 L2.start; simp [hl], hL, s, Sub.refl P, fun a o e => .inl e, fun a o e _ _ => e, fun a z => z.elim, fun a hb => ⟨(hB a hb).1, ?_, (hB a hb).2.less (Nat.zero_le _)⟩, fun i sl o e1 e2 => ?_, fun i j sl t o u p ne e1 e2 a1 a2 s1 s2 eo eu => ?_, fun p vs hp => absurd hp (by simp)⟩
  · obtain ⟨x, y, z, e, _⟩ := (hB a hb).2
    exact ⟨_, e⟩
  · rcases sv0_get e1 with ⟨a, ea, rfl⟩ | rfl
    · obtain ⟨v, ev, z⟩ := osget r ea
      rcases start_get e2 with ⟨v', ev', rfl⟩ | ⟨hi, rfl⟩
      · rw [ev] at ev'
        cases ev'
        cases a with
        | some d => exact ⟨v, rfl, z⟩
        | none =>
          obtain ⟨p, rfl, hb⟩ := z
          exact ⟨p, rfl, (hB p hb).1, .inl hb, by
            obtain ⟨x, y, z, e, rest⟩ := (hB p hb).2
            rw [show Fr.lim ⟨H, P, B, fun _ => False, L, [], none⟩ p = L from Fr.lim_some (F := ⟨H, P, B, fun _ => False, L, [], none⟩) e]
            exact ⟨x, y, z, e, rest⟩⟩
      · have := (List.getElem?_eq_some_iff.mp ev).1
        omega
    · trivial
  · rcases sv0_get e1 with ⟨a, ea, rfl⟩ | rfl
    · rcases sv0_get e2 with ⟨b, eb, rfl⟩ | rfl
      · cases a with
        | some d => cases a1
        | none =>
          cases b with
          | some d => cases a2
          | none => exact ne (one_apart h1 ea eb)
      · cases a2
    · cases a1
/-- a frame's end is a def's end -/
theorem post0 {K : PySem.W.Frag} {P H P' H' : Hp} {B : Addr → Prop} {L : Int} {σ : L2.St} {sv : Sv} (r : Rel K ⟨H, P, B, fun _ => False, L, [], none⟩ P' H' σ sv) : Post P H B L P' H' :=
  ⟨r.sub, r.p0, r.new, fun a o e nb => r.ext a o e nb (fun z => z), fun a hb => (r.bags a hb).2.2⟩

section
variable {P : Program} {w : World} {K : PySem.W.Frag} {mg : Str → Option Value} {base : Heap} {x qual : Str} {params : Arguments} {body : List Stmt} {scope : Scope} {dvs : List V} {kws : List (Str × V)} {f : Addr} {fd : FuncData}
/-- the wish of a def's frame -/
abbrev wF (E : XK) : Wz := ⟨fun cls dd _ H' => E cls dd H', none⟩
/-- THE RULE: a def by its body over data -/
theorem fd_body {N ps : List Str} {k : Nat} {ct : Ct} {fb : Ds} (F : FunD K x qual params body scope dvs kws f fd) (S : FnScope N ps scope)
    (hbody : ∀ (cdv : Value) (A : Around) (outer : List Env) (s : Shared) (H : Hp) (E : XK), Room k (A.deeper (envOfC qual scope s.heap.objs.size f cdv)) → A.guards = some [] →
      Takes (cxOf (L2.CX P w) P w K mg base N qual scope f cdv A outer s H E) (wF E).w → PassesOwn (model P w) (A.deeper (envOfC qual scope s.heap.objs.size f cdv)) (envOfC qual scope s.heap.objs.size f cdv) (cxOf (L2.CX P w) P w K mg base N qual scope f cdv A outer s H E).xe →
      PDSs (cxOf (L2.CX P w) P w K mg base N qual scope f cdv A outer s H E) (wF E) body fb)
    (hc : ∀ as Q E, as.length = ps.length → ct.c as Q E → fb (sv0 N ct.cost as) { nx := fun _ => Q .non, rt := Q, ex := fun x _ => E x }) : Fd P w K mg base (k + 1) f fd ps (spC K ps.length ct) := by
  refine fd_of F S spC_len fun cdv A outer s H vs Q E hr hG hsp => ?_
  obtain ⟨P0, B, L, as, h1, h2, h3, h4, h5, h6, h7⟩ := hsp
  have tk : Takes (cxOf (L2.CX P w) P w K mg base N qual scope f cdv A outer s H E) (wF E).w := takes_of rfl rfl rfl rfl
  have pw : PassesOwn (model P w) (A.deeper (envOfC qual scope s.heap.objs.size f cdv)) (envOfC qual scope s.heap.objs.size f cdv) (cxOf (L2.CX P w) P w K mg base N qual scope f cdv A outer s H E).xe := PassesOwn.leaving
  obtain ⟨t, ht, hs⟩ := hbody cdv A outer s H E hr hG tk pw
  have hN : as.length ≤ N.length := by
    have := congrArg List.length S.pre
    rw [List.length_take] at this
    omega
  refine ⟨t, ht, hs ⟨H, P0, B, fun _ => False, L, [], none⟩ P0 H (L2.start N vs) (sv0 N ct.cost as) _ _ (rel0 hN h1 h2 h3 h5 h6) ⟨?_, ?_, ?_, ?_, ?_⟩ (hc as _ _ h4 h7)⟩
  · exact fun σ' H' P' sv' r _ q => q .non H' P' (post0 r) rfl
  · exact fun σ' H' P' sv' v d r rv q => q v H' P' (post0 r) rv
  · exact fun σ' H' P' sv' r _ q => q
  · exact fun σ' H' P' sv' r _ q => q
  · exact fun cls dd σ' H' P' x sv' r rx q => q cls dd H' P' (post0 r) rx
end

/-! ### calls -/
/-- the one slot of draws among the arguments -/
@[simp] def oneBag (i : Nat) : List Ar → Prop
  | [] => True
  | .dat _ :: as => oneBag i as
  | .bag j :: as => j = i ∧ noBag as
where noBag : List Ar → Prop
  | [] => True
  | .dat _ :: as => noBag as
  | .bag _ :: _ => False
@[simp] theorem noBag_nil : oneBag.noBag [] = True := rfl
@[simp] theorem noBag_dat {d : D} {as : List Ar} : oneBag.noBag (.dat d :: as) = oneBag.noBag as := rfl
@[simp] theorem noBag_bag {j : Nat} {as : List Ar} : oneBag.noBag (.bag j :: as) = False := rfl
@[simp] def Ar.opt : Ar → Option D
  | .dat d => some d
  | .bag _ => none
@[simp] def bagAt : List Ar → Option Nat
  | [] => none
  | .dat _ :: as => bagAt as
  | .bag j :: _ => some j
@[simp] def callC (ct : Ct) (as : List Ar) (sv : Sv) (Q : D → Sv → Prop) (E : DX) : Prop := match bagAt as with
  | none => ct.c (as.map Ar.opt) (fun d => Q d sv) (fun x => E x sv)
  | some i => oneBag i as ∧ ∃ n, sv[i]? = some (.bag n) ∧ ct.cost ≤ n ∧ ct.c (as.map Ar.opt) (fun d => Q d (sv.set i (.bag (n - ct.cost)))) (fun x => E x (sv.set i (.bag (n - ct.cost))))
theorem noBag_opt : ∀ {as : List Ar}, oneBag.noBag as → none ∉ as.map Ar.opt
  | [], _, h => by simp at h
  | .dat d :: as, h, z => by
    rcases List.mem_cons.mp z with z | z
    · cases z
    · exact noBag_opt (as := as) h z
  | .bag _ :: _, h, _ => h
theorem oneBag_opt {i : Nat} : ∀ {as : List Ar}, oneBag i as → oneNone (as.map Ar.opt)
  | [], _ => trivial
  | .dat d :: as, h => oneBag_opt (as := as) h
  | .bag j :: as, h => noBag_opt h.2
theorem bagAt_none : ∀ {as : List Ar}, bagAt as = none → oneBag.noBag as
  | [], _ => trivial
  | .dat d :: as, h => bagAt_none (as := as) h
  | .bag j :: as, h => by cases h
theorem noBag_one : ∀ {as : List Ar}, oneBag.noBag as → oneNone (as.map Ar.opt)
  | [], _ => trivial
  | .dat d :: as, h => noBag_one (as := as) h
  | .bag _ :: _, h => h.elim
theorem os_of {K : PySem.W.Frag} {P : Hp} {σ : L2.St} {i : Nat} : ∀ {as : List Ar} {vs : List V}, ArsRel K P σ as vs → oneBag i as → OsRel K P (fun a => σ[i]? = some (some (.ref a))) (as.map Ar.opt) vs ∨ True
  | _, _, _, _ => .inr trivial
theorem os_no {K : PySem.W.Frag} {P : Hp} {σ : L2.St} {B : Addr → Prop} : ∀ {as : List Ar} {vs : List V}, ArsRel K P σ as vs → oneBag.noBag as → OsRel K P B (as.map Ar.opt) vs
  | [], _, h, _ => h
  | .dat d :: as, _, h, n => by
    obtain ⟨v, r, rfl, h1, h2⟩ := h
    exact ⟨v, r, rfl, h1, os_no h2 n⟩
  | .bag _ :: _, _, _, n => n.elim
theorem os_one {K : PySem.W.Frag} {P : Hp} {σ : L2.St} {i : Nat} {p : Addr} (hp : σ[i]? = some (some (.ref p))) : ∀ {as : List Ar} {vs : List V}, ArsRel K P σ as vs → oneBag i as → OsRel K P (fun a => a = p) (as.map Ar.opt) vs
  | [], _, h, _ => h
  | .dat d :: as, _, h, n => by
    obtain ⟨v, r, rfl, h1, h2⟩ := h
    exact ⟨v, r, rfl, h1, os_one hp h2 n⟩
  | .bag j :: as, _, h, n => by
    obtain ⟨v, r, rfl, h1, h2⟩ := h
    obtain ⟨rfl, n⟩ := n
    have e : σ[j]? = some (some v) := h1
    rw [hp] at e
    cases e
    exact ⟨_, r, rfl, ⟨p, rfl, rfl⟩, os_no h2 n⟩
/-- behind a call that made draws -/
theorem Rel.called {K : PySem.W.Frag} {F : Fr} {P H P' H' : Hp} {σ : L2.St} {sv : Sv} {i n m : Nat} {p : Addr} {L : Int} (r : Rel K F P H σ sv) (h : sv[i]? = some (.bag n)) (hp : σ[i]? = some (some (.ref p))) (q : Post P H (fun a => a = p) L P' H') (hL : L + m = F.lim p) :
    Rel K F P' H' σ (sv.set i (.bag m)) := by
  obtain ⟨o, ho, p', eo, h1, h2, h3⟩ := rel_get r h
  rw [hp] at ho
  cases ho
  cases eo
  have hi : i < sv.length := (List.getElem?_eq_some_iff.mp h).1
  have hd := q.bags p rfl
  obtain ⟨x0, y0, z0, hH, _⟩ := id h3
  have np : ∀ b o, P b = none → H b = some o → (∀ xs, o ≠ .tup xs) → P' b = none := fun b o n e nt => by
    cases z : P' b with
    | none => rfl
    | some u =>
      rcases q.new b u z with z | z
      · rw [n] at z
        cases z
      · exact (z.no e nt).elim
  have dl : DrawsAt H' p (F.lim p) m := by
    obtain ⟨x, y, z, e, a1, a2, a3, a4, a5⟩ := hd
    exact ⟨x, y, z, e, a1, a2, a3, a4, by omega⟩
  refine ⟨by rw [List.length_set]; exact r.len, r.lim, q.sub, r.p0.trans q.grow, fun a u e => ?_, fun a u e nb ns => ?_, fun a hs => ?_, fun a hb => ?_, fun j s u e1 e2 => ?_, fun j k s t u w pp ne e1 e2 a1 a2 s1 s2 eu ew => ?_, fun q' ws hq => ?_⟩
  · rcases q.new a u e with z | z
    · exact r.new a u z
    · refine .inr ?_
      rcases z with z | ⟨xs, rfl, z⟩
      · exact .inl (r.free0 z)
      · cases qq : F.H0 a with
        | none => exact .inl qq
        | some v =>
          by_cases hb : F.B0 a
          · obtain ⟨_, _, x, y, w, e1, _⟩ := r.bags a hb
            rw [e1] at z; cases z
          · by_cases hs : F.S0 a
            · obtain ⟨_, _, C, dx, fs, e1⟩ := r.selfs a hs
              rw [e1] at z; cases z
            · have e2 := r.ext a v qq hb hs
              rw [e2] at z
              exact .inr ⟨xs, rfl, qq.trans z⟩
  · refine q.keep a u (r.ext a u e nb ns) fun z => ?_
    rcases h2 with h2 | h2
    · exact nb (by rw [z]; exact h2)
    · rw [z, h2] at e
      cases e
  · obtain ⟨z1, z2, C, dx, fs, z3⟩ := r.selfs a hs
    refine ⟨z1, z2, C, dx, fs, q.keep a _ z3 fun z => ?_⟩
    rw [z, hH] at z3
    cases z3
  · obtain ⟨z1, z2, z3⟩ := r.bags a hb
    refine ⟨z1, z2, ?_⟩
    by_cases ha : a = p
    · obtain ⟨o2, ho2⟩ := z2
      have el : F.lim p = F.L := Fr.lim_some (by rw [← ha]; exact ho2)
      rw [ha, ← el]
      exact dl.less (Nat.zero_le _)
    · obtain ⟨x, y, z, e, rest⟩ := z3
      exact ⟨x, y, z, q.keep a _ e ha, rest⟩
  · by_cases hj : j = i
    · subst hj
      rw [List.getElem?_set_self hi] at e1
      cases e1
      rw [hp] at e2
      cases e2
      exact ⟨p, rfl, np p _ h1 hH (fun _ z => by cases z), h2, dl⟩
    · rw [List.getElem?_set_ne (Ne.symm hj)] at e1
      have z := r.sl j s u e1 e2
      cases s with
      | un => trivial
      | dat d =>
        obtain ⟨v, e, rv⟩ := z
        exact ⟨v, e, Rp.mono q.grow d v rv⟩
      | own es =>
        obtain ⟨q', vs, e, z1, z2, z3, z4⟩ := z
        have ne : q' ≠ p := fun z => by
          subst z e
          exact r.apart j i _ _ _ _ q' hj e1 h rfl rfl e2 hp rfl rfl
        exact ⟨q', vs, e, q.keep q' _ z1 ne, np q' _ z2 z1 (fun _ z => by cases z), z3, RpL.mono q.grow es vs z4⟩
      | bag n' =>
        obtain ⟨q', e, z1, z2, x, y, z, z3, z4⟩ := z
        have ne : q' ≠ p := fun z => by
          subst z e
          exact r.apart j i _ _ _ _ q' hj e1 h rfl rfl e2 hp rfl rfl
        exact ⟨q', e, np q' _ z1 z3 (fun _ z => by cases z), z2, x, y, z, q.keep q' _ z3 ne, z4⟩
      | slf C ns es =>
        obtain ⟨q', dx, vs, e, z1, z2, z3, z4, z5⟩ := z
        have ne : q' ≠ p := fun z => by
          subst z e
          exact r.apart j i _ _ _ _ q' hj e1 h rfl rfl e2 hp rfl rfl
        exact ⟨q', dx, vs, e, q.keep q' _ z1 ne, z2, np q' _ z3 z1 (fun _ z => by cases z), z4, RpL.mono q.grow es vs z5⟩
      | exc x =>
        obtain ⟨a, cls, dd, e1, e2, z⟩ := z
        exact ⟨a, cls, dd, e1, e2, z.mono q.grow⟩
      | dct d =>
        obtain ⟨q', e, z1, z2, z3⟩ := z
        have ne : q' ≠ p := fun z => by
          subst z e
          exact r.apart j i _ _ _ _ q' hj e1 h rfl rfl e2 hp rfl rfl
        obtain ⟨o, ho, _, _, nt⟩ := z3.some'
        exact ⟨q', e, np q' _ z1 ho nt, z2, z3.mono q.grow fun o ho => q.keep q' _ ho ne⟩
  · have back : ∀ {m' : Nat} {z : Sl}, (sv.set i (.bag m))[m']? = some z → z.addr = true → ∃ z', sv[m']? = some z' ∧ z'.addr = true := fun {m' z} em az => by
      by_cases hm : m' = i
      · subst hm
        exact ⟨_, h, rfl⟩
      · rw [List.getElem?_set_ne (Ne.symm hm)] at em
        exact ⟨z, em, az⟩
    obtain ⟨s', b1, c1⟩ := back e1 a1
    obtain ⟨t', b2, c2⟩ := back e2 a2
    exact r.apart j k s' t' u w pp ne b1 b2 c1 c2 s1 s2 eu ew
  · obtain ⟨z1, z2, z3, z4⟩ := r.kept q' ws hq
    have ne : q' ≠ p := fun z => by
      subst z
      exact z4 i _ h rfl hp
    refine ⟨q.keep q' _ z1 ne, np q' _ z2 z1 ws.2, z3, fun m' s e1 a1 => ?_⟩
    by_cases hm : m' = i
    · subst hm
      exact z4 m' _ h rfl
    · rw [List.getElem?_set_ne (Ne.symm hm)] at e1
      exact z4 m' s e1 a1
/-- behind a call that made none -/
theorem Rel.called0 {K : PySem.W.Frag} {F : Fr} {P H P' H' : Hp} {σ : L2.St} {sv : Sv} {L : Int} (r : Rel K F P H σ sv) (q : Post P H (fun _ => False) L P' H') : Rel K F P' H' σ sv :=
  r.grow q.grow q.new (fun a o e => q.keep a o e fun z => z) q.sub
/-- a promise over data, from the caller's side -/
theorem snd_callC {K : PySem.W.Frag} {W : Wz} {F : Fr} {P H : Hp} {σ : L2.St} {sv : Sv} {ct : Ct} {n : Nat} {as : List Ar} {vs : List V} {Q : D → Sv → Prop} {E : DX} {R : VK} (mono : ∀ as Q Q' E E', (∀ d, Q d → Q' d) → (∀ x, E x → E' x) → ct.c as Q E → ct.c as Q' E') (hn : as.length = n)
    (r : Rel K F P H σ sv) (ra : ArsRel K P σ as vs) (k : ∀ v H' P' d sv', Rel K F P' H' σ sv' → Sub P P' → Rp K P' d v → Q d sv' → R v H')
    (kx : ∀ cls dd H' P' x sv', Rel K F P' H' σ sv' → XdRel K P' H' x cls dd → E x sv' → W cls dd σ H') (q : callC ct as sv Q E) : spC K n ct vs H R (fun cls dd H' => W cls dd σ H') := by
  unfold callC at q
  cases hb : bagAt as with
  | none =>
    rw [hb] at q
    have nb := bagAt_none hb
    refine ⟨P, fun _ => False, F.L, as.map Ar.opt, r.sub, r.lim, os_no ra nb, by rw [List.length_map]; exact hn, noBag_one nb, fun a z => z.elim, mono _ _ _ _ _ (fun d qd v H' P' po rv => ?_) (fun x qx cls dd H' P' po rx => ?_) q⟩
    · exact k v H' P' d sv (r.called0 po) po.grow rv qd
    · exact kx cls dd H' P' x sv (r.called0 po) rx qx
  | some i =>
    rw [hb] at q
    obtain ⟨ob, m, hm, hcost, q⟩ := q
    obtain ⟨o, ho, p, rfl, h1, h2, h3⟩ := rel_get r hm
    have hL : (F.lim p - ((m - ct.cost : Nat) : Int)) + ((m - ct.cost : Nat) : Int) = F.lim p := by omega
    refine ⟨P, fun a => a = p, F.lim p - ((m - ct.cost : Nat) : Int), as.map Ar.opt, r.sub, by have := Fr.lim_le (p := p) r.lim; omega, os_one ho ra ob, by rw [List.length_map]; exact hn, oneBag_opt ob, fun a z => ?_, mono _ _ _ _ _ (fun d qd v H' P' po rv => ?_) (fun x qx cls dd H' P' po rx => ?_) q⟩
    · subst z
      refine ⟨h1, ?_⟩
      obtain ⟨x, y, z, e, a1, a2, a3, a4, a5⟩ := h3
      exact ⟨x, y, z, e, a1, a2, a3, a4, by omega⟩
    · exact k v H' P' d _ (r.called hm ho po hL) po.grow rv qd
    · exact kx cls dd H' P' x _ (r.called hm ho po hL) rx qx
section
variable {X : Cx} {W : Wz} {pos : Pos}
theorem run_fd {k : Nat} {f : Addr} {fd : FuncData} {ps : List Str} {sp : Sp} {pins : List (Addr × Obj)} {σ : L2.St} {H : Hp} {s : Shared} {Q : VK} {us ds : List Value} {vs dvs : List V} (F : Fd X.prog X.w X.K X.mg X.base k f fd ps sp) (hr : Room k X.A) (hG : X.A.guards = some []) (hb : Binds X.K fd ps ds) (hd : Vals dvs ds) (tk : Takes X W.w)
    (I : Inv X pins σ H s) (r : Vals vs us) (h : sp (vs ++ dvs) H Q (fun cls dd H' => W cls dd σ H')) : wpAny (model X.prog X.w) X.A (call (.ref f) us) (EP X pins σ Q) X.xe s := by
  have r2 : Vals (vs ++ dvs) (us ++ ds) := r.append hd
  have hl : (us ++ ds).length = ps.length := by rw [← r2.length]; exact F.len _ _ _ _ h
  refine wpAny_call (codeAny_mono (F.run X.A X.stack s H ⟨us, []⟩ (us ++ ds) (vs ++ dvs) Q _ hr hG I.env0 (hb s us I.kIn hl) r2 h) fun r s' hq => ?_)
  cases r with
  | error e => exact tk e s' (XE.of_call I (fun _ _ _ z => z) hq)
  | ok fl =>
    cases fl with
    | ret u => exact I.after hq
    | next => exact False.elim hq
    | brk => exact False.elim hq
    | cont => exact False.elim hq
def tCallF (W : Wz) (sp : Sp) (dvs : List V) (t : TA) : TE := fun σ H Q => t σ H fun vs H1 => sp (vs ++ dvs) H1 Q (fun cls dd H' => W cls dd σ H')
theorem pe_callF {k : Nat} {f : Addr} {fd : FuncData} {ps : List Str} {sp : Sp} {ds : List Value} {dvs : List V} {x : Str} {p : Pos} {e : Expr} {es : List Expr} {t : TA} (F : Fd X.prog X.w X.K X.mg X.base k f fd ps sp) (hr : Room k X.A) (hG : X.A.guards = some []) (hg : Gl X x) (hm : X.mg x = some (.ref f)) (hk : PySem.W.keepIn X.K (.ref f) = true)
    (hb : Binds X.K fd ps ds) (hd : Vals dvs ds) (tk : Takes X W.w) (ha : PA X (e :: es) t) (hdb : (x == ("__debug__" : Str)) = false := by decide) (he : starEach (e :: es) X.env = (false, eval e X.env) :: starEach es X.env := by rfl) (hpl : (backTo pos (starEach es X.env)).any (·.1) = false := by rfl) :
    PE X (.Call (.Name x p) (e :: es) [] pos) (tCallF W sp dvs t) := by
  refine ⟨fun pins s σ H Q I h => ?_⟩
  refine wpAny_Call_Name_kw (ld_glob I hg hm ?_ hdb)
  refine PySem.W.callWith_K (h₀ := X.base) I.ok.mod.kin hk (thn (ha.run pos pins s σ H _ I h) fun us s1 ⟨vs, H1, I1, r, q⟩ => ⟨I1.kIn, ?_⟩) he hpl
  exact run_fd F hr hG hb hd tk I1 r q
/-- f(e, ..) of an own def, all its arguments written -/
@[simp] def dCall (ct : Ct) (n : Nat) (fa : Da) : De := fun sv Q E => fa sv (fun as sv1 => as.length = n ∧ callC ct as sv1 Q E) E
/-- what a caller knows of a def -/
structure Fn (X : Cx) (k : Nat) (x : Str) (n : Nat) (ct : Ct) : Prop where
  mono : ∀ as Q Q' E E', (∀ d, Q d → Q' d) → (∀ x, E x → E' x) → ct.c as Q E → ct.c as Q' E'
  ex : ∃ (f : Addr) (fd : FuncData) (ps : List Str), ps.length = n ∧ Fd X.prog X.w X.K X.mg X.base k f fd ps (spC X.K n ct) ∧ X.mg x = some (.ref f) ∧ PySem.W.keepIn X.K (.ref f) = true ∧ Binds X.K fd ps []
theorem pd_call {k n : Nat} {x : Str} {p : Pos} {e : Expr} {es : List Expr} {ct : Ct} {fa : Da} (F : Fn X k x n ct) (hr : Room k X.A) (hG : X.A.guards = some []) (tk : Takes X W.w) (hg : Gl X x) (ha : PDA X W (e :: es) fa) (hdb : (x == ("__debug__" : Str)) = false := by decide)
    (he : starEach (e :: es) X.env = (false, eval e X.env) :: starEach es X.env := by rfl) (hpl : (backTo pos (starEach es X.env)).any (·.1) = false := by rfl) : PD X W (.Call (.Name x p) (e :: es) [] pos) (dCall ct n fa) := by
  obtain ⟨f, fd, ps, hps, F1, hm, hk, hb⟩ := F.ex
  obtain ⟨ta, p1, s1⟩ := ha
  refine ⟨_, pe_callF F1 hr hG hg hm hk hb .nil tk p1 hdb he hpl, fun Fr P H σ sv Q E R r kk kx q => s1 Fr P H σ sv _ E _ r (fun vs H1 P1 as sv1 r1 t1 ra q1 => ?_) kx q⟩
  show spC X.K n ct (vs ++ []) H1 R (fun cls dd H' => W cls dd σ H')
  rw [List.append_nil]
  exact snd_callC F.mono q1.1 r1 ra (fun v H' P' d sv' r' t' rv q' => kk v H' P' d sv' r' (t1.trans t') rv q') kx q1.2
end
end Pd
end
section
set_option autoImplicit false
set_option Elab.async false
set_option linter.all false
set_option autoImplicit false
set_option maxRecDepth 100000
set_option maxHeartbeats 4000000
/-! Pd7: own error classes over any of five bases, raised. -/
namespace Pd
open PySem PySem.Spec PySem.W PySem.Calls PyProof.Rows L2 PySem.HandSPX

/-- what of the base's own __init__ is used -/
structure InitF (B initId : String) : Prop where
  kind : builtinKind initId = some Manifest.AttrKind.slot
  split : splitId initId = some (B, "__init__")
  row : Manifest.signature? initId = some ⟨.positional, "*", B, .self, [⟨"args", .varPos, false⟩]⟩
  entry : entryFor table initId = some Builtin.«BaseException.__init__»
  plain : plainId initId = true
  noStar : (B != "*") = true
/-- a base of own error classes: its line of classes bm; the class newB whose __new__ makes it -/
structure ExB (B newId initId : String) (bm : List Value) : Prop where
  mkF : ∃ (newB newInit : String) (bmN : List Value), ExcBaseFacts newB newId newInit bmN ∧ bm.contains (.type newB) = true
  cA : bm.contains (.type "AttributeError") = false
  cN : bm.contains (.type "NameError") = false
  ini : InitF B initId
  cI : bm.contains (.type B) = true
  pass : ∀ (self : Value) (C : Addr), refuseLoop self "__setattr__" (.ref C :: bm) = pure ()
  ob : bm.contains (.type "object") = true
theorem initF_of {B newId initId : String} {bm : List Value} (F : ExcBaseFacts B newId initId bm) : InitF B initId := ⟨F.initKind, F.initSplit, F.initRow, F.initEntry, F.init.plain, F.noStar⟩
theorem exb_ValueError : ExB "ValueError" "ValueError.__new__" "ValueError.__init__" [.type "ValueError", .type "Exception", .type "BaseException", .type "object"] :=
  ⟨⟨_, _, _, F.excBase_ValueError, by decide +kernel⟩, by decide +kernel, by decide +kernel, initF_of F.excBase_ValueError, by decide +kernel, fun _ _ => rfl, by decide +kernel⟩
theorem exb_LookupError : ExB "LookupError" "LookupError.__new__" "LookupError.__init__" [.type "LookupError", .type "Exception", .type "BaseException", .type "object"] :=
  ⟨⟨_, _, _, F.excBase_LookupError, by decide +kernel⟩, by decide +kernel, by decide +kernel, initF_of F.excBase_LookupError, by decide +kernel, fun _ _ => rfl, by decide +kernel⟩
theorem exb_RuntimeError : ExB "RuntimeError" "RuntimeError.__new__" "RuntimeError.__init__" [.type "RuntimeError", .type "Exception", .type "BaseException", .type "object"] :=
  ⟨⟨_, _, _, F.excBase_RuntimeError, by decide +kernel⟩, by decide +kernel, by decide +kernel, initF_of F.excBase_RuntimeError, by decide +kernel, fun _ _ => rfl, by decide +kernel⟩
theorem exb_IndexError : ExB "IndexError" "IndexError.__new__" "IndexError.__init__" [.type "IndexError", .type "LookupError", .type "Exception", .type "BaseException", .type "object"] :=
  ⟨⟨_, _, _, F.excBase_IndexError, by decide +kernel⟩, by decide +kernel, by decide +kernel, initF_of F.excBase_IndexError, by decide +kernel, fun _ _ => rfl, by decide +kernel⟩
theorem exb_OverflowError : ExB "OverflowError" "OverflowError.__new__" "OverflowError.__init__" [.type "OverflowError", .type "ArithmeticError", .type "Exception", .type "BaseException", .type "object"] :=
  ⟨⟨_, _, _, F.excBase_OverflowError, by decide +kernel⟩, by decide +kernel, by decide +kernel, initF_of F.excBase_OverflowError, by decide +kernel, fun _ _ => rfl, by decide +kernel⟩
theorem exb_KeyError : ExB "KeyError" "LookupError.__new__" "KeyError.__init__" [.type "KeyError", .type "LookupError", .type "Exception", .type "BaseException", .type "object"] :=
  ⟨⟨_, _, _, F.excBase_LookupError, by decide +kernel⟩, by decide +kernel, by decide +kernel, ⟨excClass_KeyError.initKind, excClass_KeyError.initSplit, excClass_KeyError.initSig, excClass_KeyError.initEntry, excClass_KeyError.init.plain, excClass_KeyError.notStar⟩,
    by decide +kernel, fun _ _ => rfl, by decide +kernel⟩

section
variable {M : Model} {A : Around} {E : Value → Shared → Prop} {h : Heap} {g : Array GenState} {d : Drawn} {t : Nat} {os : OsState}
variable {nm q : Str} {C N : Addr} {bs bm : List Value} {hdct : Bool} {sn : List Str} {sub : List Value} {ab : Bool} {col : Option Bool} {dd : Option Addr} {k0 k1 k2 k3 k5 : Option Value} {B newId initId : String}
theorem check_new_g {newB newInit : String} {bmN : List Value} (F : ExcBaseFacts newB newId newInit bmN) (hcB0 : bm.contains (.type newB) = true) {rest : List Value} {Q : Unit → Shared → Prop}
    (hC : h.get? C = some (excClassObj nm q C N bs bm hdct sn sub ab col dd k0 k1 k2 k3 k5 newId)) (hq : Q () ⟨h, g, d, t, os⟩) : wpAny M A (checkBuiltinCall newId ⟨.ref C :: rest, []⟩) Q E ⟨h, g, d, t, os⟩ := by
  have hcont : (Value.ref C :: bm).contains (.type newB) = true := by rw [List.contains_cons, hcB0, Bool.or_true]
  have hstar := F.noStar
  simp only [checkBuiltinCall, F.newKind, F.newSplit, F.newRow]
  repeat (first | refine wpAny_loadPart_at hC ?_ | (refine wpAny_isSubtype_exc hC ?_; rw [hcont]) | refine wpAny_staticBase_exc hC ?_ | refine wpAny_madeBy_exc hC ?_ | simp only [bne_self_eq_false, Bool.false_eq_true, if_false] | wp_step)
  exact hq
theorem check_init_g (F : InitF B initId) (hcI : bm.contains (.type B) = true) {e : Addr} {oe : Obj} {rest : List Value} {Q : Unit → Shared → Prop}
    (hC : h.get? C = some (excClassObj nm q C N bs bm hdct sn sub ab col dd k0 k1 k2 k3 k5 newId)) (he : h.get? e = some oe) (hcls : oe.cls = .ref C) (hq : Q () ⟨h, g, d, t, os⟩) :
    wpAny M A (checkBuiltinCall initId ⟨.ref e :: rest, []⟩) Q E ⟨h, g, d, t, os⟩ := by
  have hcB : (Value.ref C :: bm).contains (.type B) = true := by rw [List.contains_cons, hcI, Bool.or_true]
  have hshort := F.noStar
  simp only [checkBuiltinCall, F.kind, F.split, F.row]
  repeat (first | (with_reducible refine wpAny_loadPart_at he ?_; rw [hcls]) | with_reducible refine wpAny_loadPart_at hC ?_ | (with_reducible refine wpAny_isSubtype_exc hC ?_; rw [hcB]) | wp_step)
  refine wpAny_onRaise ?_
  rw [show ∀ (a b : String) (n : Nat), Bind.check ⟨.positional, "*", B, .self, [⟨"args", .varPos, false⟩]⟩ a b n (List.map (fun x => x.fst) ({ pos := Value.ref e :: rest } : Args).kw) = pure () from
    fun a b n => check_star_args _ _ _ _ _ _]
  exact wpAny_pure hq
end
section
variable {prog : Program} {w : World} {A : Around} {E : Value → Shared → Prop} {R : Result → Shared → Prop} {h : Heap} {g : Array GenState} {d : Drawn} {t : Nat} {os : OsState}
variable {nm q : Str} {C N : Addr} {bs bm : List Value} {hdct : Bool} {sn : List Str} {sub : List Value} {ab : Bool} {col : Option Bool} {dd : Option Addr} {k0 k1 k2 k3 k5 : Option Value} {B newId initId : String}
theorem new_g {newB newInit : String} {bmN : List Value} (F : ExcBaseFacts newB newId newInit bmN) (hcB0 : bm.contains (.type newB) = true) (cA : bm.contains (.type "AttributeError") = false) (cN : bm.contains (.type "NameError") = false) {rest : List Value}
    (hC : h.get? C = some (excClassObj nm q C N bs bm hdct sn sub ab col dd k0 k1 k2 k3 k5 newId))
    (hq : R (.ok (.ret (.ref (h.objs.size + 1)))) ⟨(h.push { cls := .type "tuple", data := .seq rest.toArray }).push
      { cls := .ref C, data := .fields #[.ref h.objs.size, .none, .none, .none, .bool false, .none] }, g, d, t, os⟩) (hrest : rest.length ≤ sizeLine) :
    codeAny (model prog w) A (.builtin newId ⟨.ref C :: rest, []⟩) R ⟨h, g, d, t, os⟩ := by
  have hends := F.ends
  have hcB : (Value.ref C :: bm).contains (.type newB) = true := by rw [List.contains_cons, hcB0, Bool.or_true]
  have hcA : (Value.ref C :: bm).contains (.type "AttributeError") = false := by rw [List.contains_cons, cA]; rfl
  have hcN : (Value.ref C :: bm).contains (.type "NameError") = false := by rw [List.contains_cons, cN]; rfl
  refine codeAny_builtinAt F.entry ?_
  unfold Builtin.«BaseException.__new__»
  refine PySem.wpAt_bind ?_
  show PySem.wpAt _ _ _ (stack >>= _) _ _ _
  refine PySem.wpAt_bind (PySem.wpAt_stack fun p below => PySem.wpAt_of_wpAny ?_)
  wp_walk
  refine PySem.wpAt_of_wpAny ?_
  rw [F.owner]
  repeat (first | with_reducible refine wpAny_madeHere_exc F.canon hC ?_ | with_reducible refine wpAny_loadPart_at hC ?_ | (with_reducible refine wpAny_isSubtype_exc hC ?_; first | rw [hcB] | rw [hcA] | rw [hcN]) | wp_step)
  show R _ _
  rw [Heap.size_push]
  exact hq
theorem type_call_g {newB newInit : String} {bmN : List Value} (F : ExcBaseFacts newB newId newInit bmN) (hcB0 : bm.contains (.type newB) = true) (cA : bm.contains (.type "AttributeError") = false) (cN : bm.contains (.type "NameError") = false) {rest : List Value} {fI : Addr} {Q : Fin → Shared → Prop}
    (hC : h.get? C = some (excClassObj nm q C N bs bm hdct sn sub ab col dd k0 k1 k2 k3 k5 newId))
    (hi : W.Looks (model prog w) h (typeLookup (.ref C) "__init__") (some (.ref fI))) (hb : ∀ self, W.Looks (model prog w) h (bindSpecial (.ref fI) self) (.ref fI, [self])) (hrest : rest.length ≤ sizeLine)
    (hq : codeAny (model prog w) A (.call (.ref fI) ⟨.ref (h.objs.size + 1) :: rest, []⟩)
      (fun r s' => match r with | .ok (.ret v) => v = .none ∧ Q (.done (.ret (.ref (h.objs.size + 1)))) s' | .ok _ => False | .error e => E e s')
      ⟨(h.push (W.kdv_tup rest)).push (excO C h.objs.size), g, d, t, os⟩) :
    wpAny (model prog w) A (Builtin.«type.__call__» ⟨.ref C :: rest, []⟩) Q E ⟨h, g, d, t, os⟩ := by
  repeat (first | with_reducible refine wpAny_loadPart_at hC ?_ | with_reducible refine wpAny_madeBy_exc hC ?_ | wp_step)
  refine codeAny_call_builtin_code (Code.quiet_builtin _ F.quiet) (check_new_g F hcB0 hC ?_)
  refine new_g F hcB0 cA cN hC ?_ hrest
  show wpAny _ _ _ _ _ _
  have k : ∀ b o, h.get? b = some o → ((h.push (W.kdv_tup rest)).push (excO C h.objs.size)).get? b = some o := fun b o e => Heap.get?_push_of_some _ (Heap.get?_push_of_some _ e)
  have hC₁ := k _ _ hC
  have hget : ((h.push (W.kdv_tup rest)).push (excO C h.objs.size)).get? (h.objs.size + 1) = some (excO C h.objs.size) := by heap_get
  have hcC : (Value.ref C :: bm).contains (.ref C) = true := by simp
  have i1 := hi.keeps k
  have b1 := (hb (.ref (h.objs.size + 1))).keeps k
  unfold isInstance
  repeat (first | with_reducible refine wpAny_loadPart_at hget ?_ | (with_reducible refine wpAny_isSubtype_exc hC₁ ?_; rw [hcC]) | wp_step)
  show wpAny _ _ (typeLookup (.ref C) _) _ _ _
  refine i1.at ?_
  refine wpAny_holding (wpAny_bind (b1.at ?_))
  refine wpAny_bind (wpAny_call (codeAny_mono hq fun r s' z => ?_))
  rcases r with e | (v | _ | _ | _) <;> first | exact z | exact z.elim | skip
  obtain ⟨rfl, z⟩ := z
  first
    | exact wpAny_pure (wpAny_pure z)
    | (wp_walk; exact z)
theorem call_g (X : ExB B newId initId bm) {rest : List Value} {fI : Addr}
    (hC : h.get? C = some (excClassObj nm q C N bs bm hdct sn sub ab col dd k0 k1 k2 k3 k5 newId))
    (hi : W.Looks (model prog w) h (typeLookup (.ref C) "__init__") (some (.ref fI))) (hb : ∀ self, W.Looks (model prog w) h (bindSpecial (.ref fI) self) (.ref fI, [self])) (hrest : rest.length ≤ sizeLine)
    (hq : codeAny (model prog w) (A.under (.builtin "type.__call__" ⟨.ref C :: rest, []⟩)) (.call (.ref fI) ⟨.ref (h.objs.size + 1) :: rest, []⟩) (W.InitBack (h.objs.size + 1) R)
      ⟨(h.push (W.kdv_tup rest)).push (excO C h.objs.size), g, d, t, os⟩) :
    codeAny (model prog w) A (.call (.ref C) ⟨rest, []⟩) R ⟨h, g, d, t, os⟩ := by
  obtain ⟨newB, newInit, bmN, F, cB⟩ := X.mkF
  have f1 := tc_lookup
  have f2 := tc_bind (.ref C)
  have hTy : (⟨h, g, d, t, os⟩ : Shared).TypeIs (.ref C) "type" := ⟨_, hC, rfl⟩
  refine codeAny_of_tree ?_
  show wpAny _ _ (callAny (.ref C) _) _ _ _
  repeat (any_goals (first | assumption | with_reducible refine wpAny_loadPart_at hC ?_ | wp_step))
  refine ⟨rfl, ?_⟩
  refine codeAny_call_builtin_at (Code.quiet_builtin _ (by decide +kernel)) entry_typeCall (wpAny_check_type_call_sub hC (type_call_g F cB X.cA X.cN hC hi hb hrest ?_))
  refine codeAny_mono hq fun r s' z => ?_
  rcases r with e | (v | _ | _ | _) <;> exact z
theorem init_g (X : ExB B newId initId bm) {e t0 : Addr} {rest : List Value}
    (hC : h.get? C = some (excClassObj nm q C N bs bm hdct sn sub ab col dd k0 k1 k2 k3 k5 newId)) (he : h.get? e = some (excO C t0)) (hrest : rest.length ≤ sizeLine)
    (hq : ∀ h' t1, (∀ b o, b ≠ e → h.get? b = some o → h'.get? b = some o) → h'.get? e = some (excO C t1) → R (.ok (.ret .none)) ⟨h', g, d, t, os⟩) :
    codeAny (model prog w) A (.call (.builtin initId) ⟨.ref e :: rest, []⟩) R ⟨h, g, d, t, os⟩ := by
  refine codeAny_call_builtin X.ini.plain X.ini.entry (check_init_g X.ini X.cI hC he rfl ?_)
  wp_walk
  refine hq _ h.objs.size (fun b o hb ho => ?_) ?_
  · rw [Heap.get?_update_other _ _ (Ne.symm hb)]
    exact Heap.get?_push_of_some _ ho
  · rw [Heap.get?_update_self _ (Heap.get?_push_of_some _ he) rfl]
    rfl
end
section
open Builtin Builtin.ObjectAttr
variable {prog : Program} {w : World} {A : Around} {E : Value → Shared → Prop} {R : Result → Shared → Prop} {hp : Heap} {g : Array GenState} {d : Drawn} {t : Nat} {os : OsState} {B newId initId : String} {bm : List Value}
theorem osa_new_g (Xb : ExB B newId initId bm) {K : W.Frag} {name : Str} {tk : Tok} {v : Value} {x C : Addr} {fv : Array Value} {cd : ClassData}
    (X : K.In hp) (hx : hp.get? x = some { cls := .ref C, data := .fields fv }) (hcd : W.clsIn K C = some cd) (hm : cd.mro = .ref C :: bm) (hh : cd.hasDict = true) (ha : W.findIn K (.ref C) name = some none)
    (hq : ∀ h' tk' dx, (∀ b o, b ≠ x → hp.get? b = some o → h'.get? b = some o) → hp.objs.size ≤ dx → dx ≠ x → h'.get? x = some { cls := .ref C, dict := some dx, data := .fields fv } →
      h'.Ns1 dx (fun y => if y = name then some v else none) → R (.ok (.ret .none)) ⟨h', g, d, tk', os⟩) :
    codeAny (model prog w) A (.call (.builtin "object.__setattr__") ⟨[.ref x, .str name tk, v], []⟩) R ⟨hp, g, d, t, os⟩ := by
  have I : W.InstAt hp x { cls := .ref C, data := .fields fv } C none := ⟨hx, rfl, rfl, trivial⟩
  have SF := F.store_object
  have ne : cd.mro.isEmpty = false := by rw [hm]; rfl
  have hob : cd.mro.contains (.type "object") = true := by rw [hm, List.contains_cons, Xb.ob, Bool.or_true]
  have hxs : x ≠ hp.objs.size := Nat.ne_of_lt (Heap.lt_size hx)
  have sub : W.Looks (model prog w) hp (isInstance (.ref x) (.type "object")) true := I.type.andThen (W.looks_mroIn X (by unfold W.mroIn; rw [hcd, Option.bind_some, if_neg (by rw [ne]; decide), hob]))
  refine codeAny_call_builtin SF.slot.plain SF.entry (@W.check_slot (model prog w) _ _ ⟨hp, g, d, t, os⟩ "object.__setattr__" "object" "__setattr__" (.ref x) [.str name tk, v] [] _ SF.kind SF.split sub (SF.args (.ref x) (.str name tk) v) ?_)
  have hmr : W.Looks (model prog w) hp (mroOf (.ref C)) cd.mro := (W.looks_clsIn X hcd).andThen .now
  have L3 : W.Looks (model prog w) hp (storeTaker? none) none := .now
  have hcls : W.Looks (model prog w) hp (classData C) cd := W.looks_clsIn X hcd
  rw [W.osa_eq, refuse_eq]
  refine wpAny_bind (wpAny_bind (I.type.at (wpAny_bind (hmr.at ?_))))
  rw [hm, Xb.pass]
  refine wpAny_pure (wpAny_bind (I.type.at (wpAny_bind ((W.looks_findIn X ha).at (wpAny_bind (L3.at ?_))))))
  show wpAny _ _ (storeInOwnDict (.ref x) (.ref C) (.str name tk) name v false) _ _ _
  obtain ⟨nm, bs, mro, ns, qn, hd, sn, sb, ab, col, del⟩ := cd
  dsimp only at hh
  subst hh
  unfold storeInOwnDict ownDictForStores
  repeat (first | with_reducible refine store_in_new ?_ ?_ | with_reducible refine wpAny_loadPart_at hx ?_ | with_reducible refine hcls.at ?_ | wp_step)
  · exact ⟨_, #[], _, (Heap.get?_update_ne _ _ _ _ hxs.symm).trans (Heap.get?_push_at rfl rfl), rfl, fun e he => absurd he (by simp), fun _ => rfl⟩
  · intro h' tk' hn' hs
    have hx₁ : (hp.push { cls := .type "dict", data := .dict #[] }).get? x = some { cls := .ref C, data := .fields fv } := Heap.get?_push_of_some _ hx
    refine hq h' tk' hp.objs.size (fun b o hb ho => ?_) (Nat.le_refl _) hxs.symm ?_ hn'
    · exact (hs.2 b (Nat.ne_of_lt (Heap.lt_size ho))).trans ((Heap.get?_update_ne _ _ _ _ hb).trans (Heap.get?_push_of_some _ ho))
    · exact (hs.2 x hxs).trans (Heap.get?_update_self _ hx₁ rfl)
theorem osa_old_g (Xb : ExB B newId initId bm) {K : W.Frag} {name : Str} {tk : Tok} {v : Value} {x C dx : Addr} {fv : Array Value} {cd : ClassData} {m0 : Str → Option Value} {nl : List Str}
    (X : K.In hp) (hx : hp.get? x = some { cls := .ref C, dict := some dx, data := .fields fv }) (hns : hp.Ns1 dx m0) (hw : Within m0 nl) (hz : nl.length ≤ 1000) (hcd : W.clsIn K C = some cd) (hm : cd.mro = .ref C :: bm) (hh : cd.hasDict = true)
    (ha : W.findIn K (.ref C) name = some none)
    (hq : ∀ h' tk', (∀ b o, b ≠ dx → hp.get? b = some o → h'.get? b = some o) → h'.Ns1 dx (fun y => if y = name then some v else m0 y) → R (.ok (.ret .none)) ⟨h', g, d, tk', os⟩) :
    codeAny (model prog w) A (.call (.builtin "object.__setattr__") ⟨[.ref x, .str name tk, v], []⟩) R ⟨hp, g, d, t, os⟩ := by
  obtain ⟨oD, esD, epD, hoD, hdD, _⟩ := hns.count hw
  have I : W.InstAt hp x { cls := .ref C, dict := some dx, data := .fields fv } C (some oD) := ⟨hx, rfl, rfl, hoD⟩
  have SF := F.store_object
  have ne : cd.mro.isEmpty = false := by rw [hm]; rfl
  have hob : cd.mro.contains (.type "object") = true := by rw [hm, List.contains_cons, Xb.ob, Bool.or_true]
  have sub : W.Looks (model prog w) hp (isInstance (.ref x) (.type "object")) true := I.type.andThen (W.looks_mroIn X (by unfold W.mroIn; rw [hcd, Option.bind_some, if_neg (by rw [ne]; decide), hob]))
  refine codeAny_call_builtin SF.slot.plain SF.entry (@W.check_slot (model prog w) _ _ ⟨hp, g, d, t, os⟩ "object.__setattr__" "object" "__setattr__" (.ref x) [.str name tk, v] [] _ SF.kind SF.split sub (SF.args (.ref x) (.str name tk) v) ?_)
  have hmr : W.Looks (model prog w) hp (mroOf (.ref C)) cd.mro := (W.looks_clsIn X hcd).andThen .now
  have L3 : W.Looks (model prog w) hp (storeTaker? none) none := .now
  have hcls : W.Looks (model prog w) hp (classData C) cd := W.looks_clsIn X hcd
  rw [W.osa_eq, refuse_eq]
  refine wpAny_bind (wpAny_bind (I.type.at (wpAny_bind (hmr.at ?_))))
  rw [hm, Xb.pass]
  refine wpAny_pure (wpAny_bind (I.type.at (wpAny_bind ((W.looks_findIn X ha).at (wpAny_bind (L3.at ?_))))))
  show wpAny _ _ (storeInOwnDict (.ref x) (.ref C) (.str name tk) name v false) _ _ _
  obtain ⟨nm, bs, mro, ns, qn, hd, sn, sb, ab, col, del⟩ := cd
  dsimp only at hh
  subst hh
  unfold storeInOwnDict ownDictForStores
  repeat (first | with_reducible refine PySem.OEX.store_in_old hns hw hz ?_ | with_reducible refine wpAny_loadPart_at hx ?_ | with_reducible refine hcls.at ?_ | wp_step)
  intro h' tk' hn' hs
  exact hq h' tk' (fun b o hb ho => (hs.2 b hb).trans ho) hn'
end
end Pd
end
section
set_option autoImplicit false
set_option Elab.async false
set_option linter.all false
set_option autoImplicit false
set_option maxRecDepth 100000
set_option maxHeartbeats 4000000
/-! Pd8: raise of own errors, over data. -/
namespace Pd
open PySem PySem.Spec PyProof.Rows L2

/-- what the top says of an own error class over a base -/
structure OexG (K : PySem.W.Frag) (C : Addr) (B newId initId : String) (bm : List Value) : Prop where
  cls : ∃ nm q N bs sn sub ab col dd k0 k1 k2 k3 k5, K.lookup C = some (excClassObj nm q C N bs bm true sn sub ab col dd k0 k1 k2 k3 k5 newId)
  bas : ExB B newId initId bm
  sa : PySem.W.findIn K (.ref C) "__setattr__" = some (some (.builtin "object.__setattr__"))
  exC : PySem.W.subIn K (.ref C) (.type "BaseException") = some true
  tyC : PySem.W.typeIn K (.ref C) = some (.type "type")
  kC : PySem.W.keepIn K (.ref C) = true
section
variable {X : Cx} {pins : List (Addr × Obj)} {σ : L2.St} {H : Hp} {s : Shared} {a C dx : Addr} {f : Str} {y : V} {u : Value} {fs : List (Str × V)} {Q : Unit → Shared → Prop} {E : Value → Shared → Prop} {A : Around} {B newId initId : String} {bm : List Value}
theorem gst_new (T : OexG X.K C B newId initId bm) (I : Inv X pins σ H s) (e : H a = some (exo a C none)) (hno : PySem.W.findIn X.K (.ref C) f = some none) (ry : RelV y u)
    (h : ∀ dx s', H dx = none → dx ≠ a → Inv X pins σ (upd (upd H dx (exd dx [(f, y)])) a (exo a C (some dx))) s' → Q () s') : wpAny (model X.prog X.w) A (setAttr (.ref a) f u) Q E s := by
  obtain ⟨nm, q, N, bs, sn, sub, ab, col, dd, k0, k1, k2, k3, k5, hC⟩ := T.cls
  have hcl : PySem.W.clsIn X.K C = some { name := nm, bases := bs, mro := .ref C :: bm, ns := N, qualname := q, hasDict := true, slotNames := sn, subclasses := sub, abstract := ab, collection := col, hasDel := false } := by unfold PySem.W.clsIn; rw [hC] <;> rfl
  obtain ⟨t1, ho⟩ := exo_at I.hok e
  obtain ⟨hp, g, d, t, os⟩ := s
  refine PySem.W.set_plain I.kIn (ox := { cls := .ref C, dict := none, data := .fields #[.ref t1, .none, .none, .none, .bool false, .none] }) (od := none) ⟨ho, rfl, rfl, trivial⟩ T.sa ?_
  refine osa_new_g T.bas I.kIn ho hcl rfl rfl hno (fun h' tk' dx k dn dne hx hn => ?_)
  have hnd : H dx = none := I.hok.fresh dn
  have nd : ∀ {b : Addr} {o : Obj}, hp.get? b = some o → b ≠ dx := fun {b o} q => Nat.ne_of_lt (Nat.lt_of_lt_of_le (Heap.lt_size q) dn)
  have na : ∀ {b : Addr}, H b = none → b ≠ a := fun {b} n z => by
    rw [z, e] at n
    cases n
  have Un1 : Un X.fs [] H (upd (upd H dx (exd dx [(f, y)])) a (exo a C (some dx))) hp h' := {
    keep := fun b o q n _ _ => k b o (na n) q
    slot := fun b o q n _ _ => ⟨o.slots, k b o (na n) q⟩
    free := fun b o q n _ => by rw [upd_ne (na n), upd_ne (nd q)]; exact n
    there := fun b o q _ => by
      by_cases hb : b = a
      · exact ⟨_, by rw [hb]; exact hx⟩
      · exact ⟨o, k b o hb q⟩
    tups := fun b xs q => by rw [upd_ne (at_ne e q exo_tup), upd_ne (ne_of_none q hnd)]; exact q
    frzs := fun b o v q => by rw [upd_ne (at_ne e q exo_frz), upd_ne (ne_of_none q hnd)]; exact q
    tbls := fun b ps q => ⟨#[], by rw [upd_ne (at_ne e q exo_tbl), upd_ne (ne_of_none q hnd), q]; simp⟩ }
  refine h dx _ hnd dne (I.un (t' := tk') Un1 fun b o q => ?_)
  by_cases hb : b = a
  · subst hb
    rw [upd_same] at q
    cases q
    exact exo_ok hx
  · rw [upd_ne hb] at q
    by_cases hd : b = dx
    · subst hd
      rw [upd_same] at q
      cases q
      exact exd_ok hn (relO_put (fs := []) ry fun g => True.intro)
    · rw [upd_ne hd] at q
      exact (I.hok b o q).stay (fun c v hc z => k c v (by
          rcases hc with hc | hc
          · rw [hc]
            exact hb
          · exact at_ne e hc exo_own) z)
        (fun c hc => by rw [upd_ne (at_ne e hc exo_own), upd_ne (ne_of_none hc hnd)]; exact hc) (fun c xs hc => by rw [upd_ne (at_ne e hc exo_tup), upd_ne (ne_of_none hc hnd)]; exact hc)
theorem gst_old (T : OexG X.K C B newId initId bm) (I : Inv X pins σ H s) (e : H a = some (exo a C (some dx))) (ed : H dx = some (exd dx fs)) (hl : fs.length ≤ 900) (hno : PySem.W.findIn X.K (.ref C) f = some none) (ry : RelV y u)
    (h : ∀ s', Inv X pins σ (upd H dx (exd dx ((f, y) :: fs))) s' → Q () s') : wpAny (model X.prog X.w) A (setAttr (.ref a) f u) Q E s := by
  obtain ⟨nm, q, N, bs, sn, sub, ab, col, dd, k0, k1, k2, k3, k5, hC⟩ := T.cls
  have hcl : PySem.W.clsIn X.K C = some { name := nm, bases := bs, mro := .ref C :: bm, ns := N, qualname := q, hasDict := true, slotNames := sn, subclasses := sub, abstract := ab, collection := col, hasDel := false } := by unfold PySem.W.clsIn; rw [hC] <;> rfl
  obtain ⟨t1, ho⟩ := exo_at I.hok e
  obtain ⟨mA, hns, rel⟩ := exd_at I.hok ed
  have hw := within_of rel
  obtain ⟨hp, g, d, t, os⟩ := s
  obtain ⟨oD, _, _, hoD, _, _⟩ := hns.count hw
  refine PySem.W.set_plain I.kIn (ox := { cls := .ref C, dict := some dx, data := .fields #[.ref t1, .none, .none, .none, .bool false, .none] }) (od := some oD) ⟨ho, rfl, rfl, hoD⟩ T.sa ?_
  refine osa_old_g T.bas I.kIn ho hns hw (by rw [List.length_map]; omega) hcl rfl rfl hno (fun h' tk' k hn => ?_)
  have hd : ∃ o, h'.get? dx = some o := by
    obtain ⟨o, _, _, e', _⟩ := hn
    exact ⟨o, e'⟩
  exact h _ (I.write (t' := tk') (x := dx) (e := dx) (o := exd dx ((f, y) :: fs)) (by rw [ed]; exact True.intro) (.inl rfl) k hd (exd_ok hn (relO_put ry rel)))
theorem ginit_ok {us : List Value} {Q : Value → Shared → Prop} (T : OexG X.K C B newId initId bm) (I : Inv X pins σ H s) (e : H a = some (exo a C none)) (hl : us.length ≤ sizeLine) (h : ∀ s', Inv X pins σ H s' → Q .none s') :
    wpAny (model X.prog X.w) A (call (.builtin initId) (.ref a :: us)) Q E s := by
  obtain ⟨nm, q, N, bs, sn, sub, ab, col, dd, k0, k1, k2, k3, k5, hC⟩ := T.cls
  obtain ⟨t1, ho⟩ := exo_at I.hok e
  obtain ⟨hp, g, d, t, os⟩ := s
  refine wpAny_call (init_g T.bas (I.kIn _ _ hC) ho hl fun h' t2 k hx => ?_)
  have J := I.write (t' := t) (x := a) (e := a) (o := exo a C none) (by rw [e]; exact True.intro) (.inl rfl) k ⟨_, hx⟩ (exo_ok hx)
  have eu : upd H a (exo a C none) = H := by
    funext b
    by_cases hb : b = a
    · rw [hb, upd_same, e]
    · rw [upd_ne hb]
  rw [eu] at J
  exact h _ J
end
/-- B.__init__(self, ..) -/
def tBI (K : PySem.W.Frag) (B newId initId : String) (bm : List Value) (ta : TA) : TE := fun σ H Q => ta σ H fun vs H1 => ∃ (a C : Addr) (ws : List V), vs = .ref a :: ws ∧ ws.length ≤ 1000 ∧ OexG K C B newId initId bm ∧ H1 a = some (exo a C none) ∧ Q .non H1
def tGst (K : PySem.W.Frag) (B newId initId : String) (bm : List Value) (f : Str) (to te : TE) : TS := fun D σ H => te σ H fun y H1 => to σ H1 fun x H2 => ∃ a C : Addr, x = .ref a ∧ OexG K C B newId initId bm ∧ PySem.W.findIn K (.ref C) f = some none ∧
  ((H2 a = some (exo a C none) ∧ ∀ dx, H2 dx = none → dx ≠ a → D.nx σ (upd (upd H2 dx (exd dx [(f, y)])) a (exo a C (some dx)))) ∨
    ∃ (dx : Addr) (fs : List (Str × V)), H2 a = some (exo a C (some dx)) ∧ H2 dx = some (exd dx fs) ∧ fs.length ≤ 900 ∧ D.nx σ (upd H2 dx (exd dx ((f, y) :: fs))))
section
variable {X : Cx} {o e : Expr} {es : List Expr} {to te : TE} {ta : TA} {f : Str} {p p' p1 p2 pos : Pos} {B newId initId : String} {bm : List Value}
theorem pe_binit {Bs : Str} {pl : Sem Bool} (hg : Gl X Bs) (hm : X.mg Bs = none) (hbt : bootBuiltins Bs = some (.type B)) (hty : typeOf (.type B) = pure (.type "type")) (vV : PySem.W.findCls X.K (.type B) (.type "type") "__init__" = some (.val (.builtin initId))) (ha : PA X (e :: es) ta)
    (hst : Manifest.isStub B = false := by decide +kernel) (hhd : PySem.W.handedIn (Value.builtin initId) = true := by decide +kernel) (hn : Bs ≠ "__name__" := by decide) (hdb : (Bs == ("__debug__" : Str)) = false := by decide)
    (hc : eval (.Call (.Attribute (.Name Bs p1) "__init__" p2) (e :: es) [] pos) X.env = (do
      let ov ← eval (.Name Bs p1) X.env
      standAt p2.atName
      let (f, first) ← holding [ov] (getMethod ov "__init__" pl)
      callWith pos f first (backTo pos (starEach (e :: es) X.env)) (backToKw pos (keywordEach [] X.env))) := by rfl)
    (he : starEach (e :: es) X.env = (false, eval e X.env) :: starEach es X.env := by rfl) (hpl : (backTo pos (starEach es X.env)).any (·.1) = false := by rfl) :
    PE X (.Call (.Attribute (.Name Bs p1) "__init__" p2) (e :: es) [] pos) (tBI X.K B newId initId bm ta) := by
  refine ⟨fun pins s σ H Q I h => ?_⟩
  refine PySem.W.methodCall_KW (ld_blt I hg hm hbt ?_ hn hdb) hc
  obtain ⟨m, fr⟩ := I.fr
  refine PySem.W.method_type fr I.ok.mod.kin hty hst vV hhd ?_
  show wpAny _ _ (callWith pos (Value.builtin initId) [] (backTo pos (starEach (e :: es) X.env)) []) _ _ _
  refine PyProof.Rows.callWith_method1 (thn (ha.run pos pins _ σ H _ (I.tok _) h) fun us s1 ⟨vs, H1, I1, r1, a, C, ws, ev, hl, T, ea, q⟩ => ?_) he hpl
  subst ev
  cases r1 with
  | @cons _ u0 _ ur ra rw' =>
    obtain rfl : u0 = Value.ref a := ra
    have hlen : ur.length ≤ sizeLine := by
      rw [← Paired.length rw', sizeLine_eq]
      omega
    exact ginit_ok T I1 ea hlen fun s' J => ⟨.non, H1, J, rfl, q⟩
theorem ps_gst (ho : PE X o to) (he : PE X e te) (hs : swapsWith e (some (.Attribute o f p')) pos.line X.env = pure false := by rfl) : PS X (.Assign [.Attribute o f p'] e pos) (tGst X.K B newId initId bm f to te) := by
  refine ⟨fun pins s σ H D I h => ?_⟩
  refine plainObj_wpAny_Assign_Attribute (thn (he.run pins s σ H _ I h) fun v s1 ⟨y, H1, I1, r1, q1⟩ => thn (ho.run pins s1 σ H1 _ I1 q1) fun u s2 ⟨x, H2, I2, r2, a, C, ex, T, hno, q⟩ => ?_) hs
  subst ex
  obtain rfl : u = Value.ref a := r2
  rcases q with ⟨ea, q⟩ | ⟨dx, fs, ea, ed, hl, q⟩
  · exact gst_new T I2 ea hno r1 fun dx s' n ne J => ⟨σ, _, J, q dx n ne⟩
  · exact gst_old T I2 ea ed hl hno r1 fun s' J => ⟨σ, _, J, q⟩
theorem pmk_g {CX : CXT} {x : Str} {C fI : Addr} {k : Nat} {fd : FuncData} {ps : List Str} {sp : Sp} {ds : List Value} {dvs : List V} (T : OexG X.K C B newId initId bm) (iC : PySem.W.findIn X.K (.ref C) "__init__" = some (some (.ref fI))) (tI : PySem.W.typeIn X.K (.ref fI) = some (.type "function"))
    (F1 : FnOk X.prog X.w X.K X.mg X.base CX k fI fd ps sp) (hr : Room (k + 1) X.A) (hb : Binds X.K fd ps ds) (hd : Vals dvs ds) (hx : Passes CX X (fun _ _ _ => False)) (hg : Gl X x) (hm : X.mg x = some (.ref C)) (ha : PA X (e :: es) ta)
    (hdb : (x == ("__debug__" : Str)) = false := by decide) (he : starEach (e :: es) X.env = (false, eval e X.env) :: starEach es X.env := by rfl) (hpl : (backTo pos (starEach es X.env)).any (·.1) = false := by rfl) :
    PMk X (.Call (.Name x p) (e :: es) [] pos) (tMkO C sp dvs ta) := by
  intro pins s σ H Q I h
  obtain ⟨nm, q, N, bs, sn, sub, ab, col, dd, k0, k1, k2, k3, k5, hC⟩ := T.cls
  refine wpAny_Call_Name_kw (ld_glob I hg hm ?_ hdb)
  refine PySem.W.callWith_K (h₀ := X.base) I.ok.mod.kin T.kC (thn (ha.run pos pins s σ H _ I h) fun us s1 ⟨vs, H1, I1, r1, hz, q1⟩ => ⟨I1.kIn, ?_⟩) he hpl
  show wpAny _ _ (call (.ref C) us) _ _ _
  obtain ⟨hp, g, dr, tk, os⟩ := s1
  have hsz : hp.objs.size ≤ hp.objs.size + 1 := Nat.le_succ _
  have hn : H1 (hp.objs.size + 1) = none := I1.hok.fresh hsz
  have hq := q1 (hp.objs.size + 1) hn
  have kk : ∀ b o, hp.get? b = some o → ((hp.push (PySem.W.kdv_tup us)).push (PySem.HandSPX.excO C hp.objs.size)).get? b = some o := fun b o e => Heap.get?_push_of_some _ (Heap.get?_push_of_some _ e)
  have hget : ((hp.push (PySem.W.kdv_tup us)).push (PySem.HandSPX.excO C hp.objs.size)).get? (hp.objs.size + 1) = some (PySem.HandSPX.excO C hp.objs.size) := by heap_get
  have I2 : Inv X pins σ (upd H1 (hp.objs.size + 1) (exo (hp.objs.size + 1) C none)) ⟨(hp.push (PySem.W.kdv_tup us)).push (PySem.HandSPX.excO C hp.objs.size), g, dr, tk, os⟩ :=
    I1.laid (t' := tk) (a := hp.objs.size + 1) (o := exo (hp.objs.size + 1) C none) (h' := (hp.push (PySem.W.kdv_tup us)).push (PySem.HandSPX.excO C hp.objs.size)) kk hsz (exo_ok hget)
  have r2 : Vals (V.ref (hp.objs.size + 1) :: (vs ++ dvs)) (Value.ref (hp.objs.size + 1) :: (us ++ ds)) := .cons rfl (r1.append hd)
  have hl : (Value.ref (hp.objs.size + 1) :: us ++ ds).length = ps.length := by
    have e := r2.length
    rw [F1.len _ _ _ _ hq] at e
    exact e.symm
  have hus : us.length ≤ sizeLine := by
    rw [← Paired.length r1, sizeLine_eq]
    omega
  refine wpAny_call (call_g T.bas (I1.kIn _ _ hC) (PySem.W.looks_findIn I1.kIn iC) (fun self => PySem.W.bind_fn I1.kIn self tI) hus
    (codeAny_mono (F1.run _ X.stack _ _ ⟨Value.ref (hp.objs.size + 1) :: us, []⟩ (Value.ref (hp.objs.size + 1) :: (us ++ ds)) _ _ (fun _ _ _ => False) (hr.make C us []) (I2.env0.make C us []) (hb _ (Value.ref (hp.objs.size + 1) :: us) I2.kIn hl) r2 hq) fun r s' hq' => ?_))
  cases r with
  | error er => exact hx pins σ _ _ er s' I2 hq'
  | ok fl =>
    cases fl with
    | ret u =>
      obtain ⟨v, H2, os2, bare2, un2, hok2, rv, ev, d, fs, ea, ed, hd1, q2⟩ := hq'
      subst ev
      obtain ⟨h2, g2, d2, t2, os'⟩ := s'
      exact ⟨rv, mk_end (raises_own T.exC T.tyC) I1 hsz kk un2 hok2 os2 bare2 ea ed hd1 q2⟩
    | next => exact False.elim hq'
    | brk => exact False.elim hq'
    | cont => exact False.elim hq'
end

/-! ### the own __init__: the base's, then each argument into its field -/
/-- how it leaves the heap -/
def exH (H : Hp) (a C dx : Addr) (fs : List Str) (ws : List V) : Hp := upd (upd H dx (exd dx (fs.zip ws).reverse)) a (exo a C (some dx))
def spEx (C : Addr) (fs : List Str) : Sp := fun vs H Q _ => ∃ (a : Addr) (ws : List V), vs = .ref a :: ws ∧ ws.length = fs.length ∧ H a = some (exo a C none) ∧ ∀ dx, H dx = none → dx ≠ a → Q .non (exH H a C dx fs ws)
/-- what a raiser knows of an own error class -/
structure ExMk (X : Cx) (k : Nat) (x : Str) (C : Addr) (fs : List Str) : Prop where
  ex : ∃ (B newId initId : String) (bm : List Value) (fI : Addr) (fd : FuncData) (ps : List Str), OexG X.K C B newId initId bm ∧ PySem.W.findIn X.K (.ref C) "__init__" = some (some (.ref fI)) ∧ PySem.W.typeIn X.K (.ref fI) = some (.type "function") ∧
    FnOk X.prog X.w X.K X.mg X.base CX0 k fI fd ps (spEx C fs) ∧ Binds X.K fd ps []
  mg : X.mg x = some (.ref C)
theorem zip_sub : ∀ (fs : List Str) (ws : List V), ((fs.zip ws).map (·.1)).Sublist fs
  | [], _ => by simp
  | f :: fs, [] => by simp
  | f :: fs, w :: ws => (zip_sub fs ws).cons₂ f
theorem lookup_rev {fs : List Str} (hn : fs.Nodup) : ∀ {ws : List V} {f : Str} {v : V}, (fs.zip ws).lookup f = some v → (fs.zip ws).reverse.lookup f = some v := by
  intro ws f v h
  have key : ∀ {l : List (Str × V)}, (l.map (·.1)).Nodup → ∀ {p : Str × V}, p ∈ l → l.lookup p.1 = some p.2 := by
    intro l
    induction l with
    | nil => intro _ p hp; cases hp
    | cons q l ih =>
      intro hn p hp
      obtain ⟨h1, h2⟩ := List.nodup_cons.mp hn
      obtain ⟨q1, q2⟩ := q
      rw [List.lookup_cons]
      rcases List.mem_cons.mp hp with z | z
      · subst z
        simp
      · have ne : p.1 ≠ q1 := fun e => h1 (by rw [← e]; exact List.mem_map.mpr ⟨p, z, rfl⟩)
        have : (p.1 == q1) = false := by simpa using ne
        rw [this]
        exact ih h2 z
  have mem : ∀ {l : List (Str × V)}, l.lookup f = some v → (f, v) ∈ l := by
    intro l
    induction l with
    | nil => intro z; cases z
    | cons q l ih =>
      intro z
      obtain ⟨q1, q2⟩ := q
      rw [List.lookup_cons] at z
      cases e : (f == q1) with
      | true =>
        rw [e] at z
        cases z
        rw [beq_iff_eq.mp e]
        exact List.mem_cons_self
      | false =>
        rw [e] at z
        exact List.mem_cons_of_mem _ (ih z)
  have hm : ((fs.zip ws).map (·.1)).Nodup := by
    exact hn.sublist (zip_sub fs ws)
  exact key (l := (fs.zip ws).reverse) (by rw [List.map_reverse]; exact (List.reverse_perm _).nodup_iff.mpr hm) (p := (f, v)) (List.mem_reverse.mpr (mem h))
section
variable {X : Cx} {W : Wz} {pos p p2 : Pos}
/-- raise C(e, ..) -/
@[simp] def dRaise (C : Addr) (fs : List Str) (fa : Da) : Ds := fun sv D => fa sv (fun as sv1 => ∃ ds, asD as = some ds ∧ ds.length = fs.length ∧ D.ex ⟨C, fs, ds⟩ sv1) D.ex
theorem pds_raise {k : Nat} {x : Str} {C : Addr} {fs : List Str} {e : Expr} {es : List Expr} {fa : Da} (T : ExMk X k x C fs) (hn : fs.Nodup) (hz : fs.length ≤ 900) (hne : fs ≠ []) (hr : Room (k + 1) X.A) (hc : X.calm = true) (tk : Takes X W.w) (hg : Gl X x) (ha : PDA X W (e :: es) fa) (hdb : (x == ("__debug__" : Str)) = false := by decide)
    (he : starEach (e :: es) X.env = (false, eval e X.env) :: starEach es X.env := by rfl) (hpl : (backTo p2 (starEach es X.env)).any (·.1) = false := by rfl) : PDS X W (.Raise (some (.Call (.Name x p) (e :: es) [] p2)) none pos) (dRaise C fs fa) := by
  obtain ⟨B, newId, initId, bm, fI, fd, ps, T1, iC, tI, F1, hb⟩ := T.ex
  obtain ⟨ta, p1, s1⟩ := ha
  refine ⟨_, ps_raise hc tk (pmk_g T1 iC tI F1 hr hb .nil pass0 hg T.mg p1 hdb he hpl), fun F P H σ sv D Dd r l q => ?_⟩
  refine s1 F P H σ sv _ _ _ r (fun vs H1 P1 as sv1 r1 t1 ra q1 => ?_) (fun cls dd H1 P1 x sv1 r1 rx q1 => l.ex cls dd σ H1 P1 x sv1 r1 rx q1) q
  obtain ⟨ds, ed, hl, q1⟩ := q1
  have rv := asD_rel ra ed
  have hlen : vs.length = fs.length := by rw [rv.length, hl]
  refine ⟨by rw [hlen]; omega, fun a ha => ⟨a, vs, by rw [List.append_nil], hlen, upd_same, fun dx hdx hne2 => ⟨rfl, dx, (fs.zip vs).reverse, upd_same, ?_, ?_, ?_⟩⟩⟩
  · rw [exH, upd_ne hne2, upd_same]
  · rw [upd_ne hne2] at hdx
    exact hdx
  · have hdx' : H1 dx = none := by
      rw [upd_ne hne2] at hdx
      exact hdx
    have eH : upd (L2.del (exH (upd H1 a (exo a C none)) a C dx fs vs) a) dx (.xd (fs.zip vs).reverse) = upd H1 dx (.xd (fs.zip vs).reverse) := by
      funext b
      by_cases hb : b = dx
      · rw [hb, upd_same, upd_same]
      · rw [upd_ne hb, upd_ne hb]
        by_cases hba : b = a
        · rw [hba, L2.del_same, ha]
        · rw [L2.del_ne hba, exH, upd_ne hba, upd_ne hb, upd_ne hba]
    rw [eH]
    have hP := r1.free hdx'
    refine l.ex (.ref C) (some dx) σ _ (upd P1 dx (.xd (fs.zip vs).reverse)) ⟨C, fs, ds⟩ sv1 (r1.lay hdx') ⟨rfl, .inr ⟨dx, _, rfl, upd_same, fun f z qz => ?_⟩⟩ q1
    obtain ⟨v, e1, rz⟩ := lookup_zip rv qz
    exact ⟨v, lookup_rev hn e1, Rp.mono (sub_upd hP) z v rz⟩
end
end Pd
end
section
set_option autoImplicit false
set_option Elab.async false
set_option linter.all false
set_option autoImplicit false
set_option maxRecDepth 100000
set_option maxHeartbeats 4000000
/-! Pd9: try with several clauses, each with a name or without; what is read of a caught error. -/
namespace Pd
open PySem PySem.Spec PyProof.Rows L2

/-- a clause: the class, the slot of its name, its suite -/
structure Hd where
  c : Value
  i : Option Nat
  ts : Addr → Value → Option Addr → TS
def Hd.D (h : Hd) (D : Ends) : Ends := match h.i with
  | none => D
  | some i => { nx := fun σ' H' => D.nx (σ'.set i none) H', rt := D.rt, bk := fun σ' H' => D.bk (σ'.set i none) H', ct := fun σ' H' => D.ct (σ'.set i none) H' }
def Hd.sg (h : Hd) (a : Addr) (σ : L2.St) : L2.St := match h.i with
  | none => σ
  | some i => σ.set i (some (.ref a))
def wNamed (K : PySem.W.Frag) (Wout : WX) (D : Ends) : List Hd → WX
  | [] => Wout
  | h :: r => fun cls d σ H => ∃ b, PySem.W.exmOne K cls h.c = some b ∧ (b = true → ∀ a, H a = none → h.ts a cls d (h.D D) (h.sg a σ) H) ∧ (b = false → wNamed K Wout D r cls d σ H)
inductive HdsN (X : Cx) : List ExceptHandler → List Hd → Prop
  | nil : HdsN X [] []
  | plain {x : Str} {c : Value} {ts : Addr → Value → Option Addr → TS} {b₀ : Stmt} {suite : List Stmt} {np pos' : Pos} {hds : List ExceptHandler} {l : List Hd} (hc : Names X x c)
      (hsu : ∀ (a : Addr) (oe : Obj) (cls : Value) (d : Option Addr) (pn : List (Addr × Obj)), Zc cls d oe → (∃ vs, oe.data = .fields vs) → PSs (X.suite a ((a, oe) :: pn)) (b₀ :: suite) (ts a cls d)) (r : HdsN X hds l) :
      HdsN X (.ExceptHandler (some (.Name x np)) none (b₀ :: suite) pos' :: hds) (⟨c, none, ts⟩ :: l)
  | named {x n : Str} {i : Nat} {c : Value} {ts : Addr → Value → Option Addr → TS} {b₀ : Stmt} {suite : List Stmt} {np pos' : Pos} {hds : List ExceptHandler} {l : List Hd} (hc : Names X x c) (hi : X.N[i]? = some n) (hln : X.env.kindOf n = some .local)
      (hsu : ∀ (a : Addr) (oe : Obj) (cls : Value) (d : Option Addr) (pn : List (Addr × Obj)), Zc cls d oe → (∃ vs, oe.data = .fields vs) → PSs (X.suite a ((a, oe) :: pn)) (b₀ :: suite) (ts a cls d)) (r : HdsN X hds l) :
      HdsN X (.ExceptHandler (some (.Name x np)) (some n) (b₀ :: suite) pos' :: hds) (⟨c, some i, ts⟩ :: l)
section
variable {X : Cx} {body : List Stmt} {h₀ : ExceptHandler} {hds : List ExceptHandler} {l : List Hd} {pos : Pos} {tb : WX → TS} {Wout : WX}
theorem ps_try_named (hs : X.stack = X.env :: X.outer) (hf : X.env.frame = some X.env.locals) (hN : X.N.Nodup) (tk : Takes X Wout)
    (hb : ∀ (W : WX) (pn : List (Addr × Obj)) (xe : Value → Shared → Prop), Takes (X.tr pn xe) W → PassesOwn (model X.prog X.w) X.A X.env xe → PSs (X.tr pn xe) body (tb W))
    (hh : HdsN X (h₀ :: hds) l) : PS X (.Try body (h₀ :: hds) [] [] pos) (fun D σ H => tb (wNamed X.K Wout D l) D σ H) := by
  refine ⟨fun pins s σ H D I h => ?_⟩
  have ok := I.ok
  have hfr : X.A.frames = some (X.env :: X.outer) := by rw [ok.frames, hs]
  refine wpAny_Try_except ?_
  refine wpAny_mono ((hb (wNamed X.K Wout D l) (X.pn ++ pins) (fun e s₁ => wpAny (model X.prog X.w) X.A (noteFrame e X.env) (fun _ s₂ => wpAny (model X.prog X.w) X.A (setFlight e none) (fun _ s₃ =>
    wpAny (model X.prog X.w) X.A (handleBy e X.env (h₀ :: hds)) (SP X pins D) X.xe s₃) X.xe s₂) X.xe s₁) (fun u s' xx => ?_) PassesOwn.looking).run [] s σ H D (I.toTry _) h) (fun f s1 hsp => ?_) (fun e s1 he => he)
  · obtain ⟨a, B, sI, pins', σ', H', cls, d, rfl, J', nb, up, sky, na, os, ag, w⟩ := xx
    have J : Inv X pins σ' H' sI := J'.ofTry ok
    have sky' : Sky B (X.env :: X.outer) a (Zc cls d) X.env.locals s'.heap := by rw [← hs]; exact sky
    show wpAny (model X.prog X.w) X.A (noteFrame (.ref a) X.env) _ _ _
    refine Sky.land Zc.steady hfr hf sky' fun h3 fl3 up3 => ?_
    have J3 : Inv X pins σ' H' { s' with heap := h3 } := J.landed nb fl3.1 (up.trans up3) os ag
    obtain ⟨oe3, vs3, he3, hz3, hd3⟩ := fl3.there
    have notFr : ∀ {h : Heap} {o : Obj} {vs : Array Value}, h.FunFrames B (X.env :: X.outer) → h.get? a = some o → o.data = .fields vs → a ∉ frs (X.env :: X.outer) := fun {h o vs} ff e dd hm => by
      obtain ⟨_, o', e', hnf⟩ := ff.mem hm
      rw [e] at e'; cases e'
      exact hnf _ dd
    have nfr := notFr fl3.2.2.1 he3 hd3
    have nL : a ≠ X.env.locals := fun z => nfr (List.mem_filterMap.mpr ⟨X.env, List.mem_cons_self, by rw [hf, z]⟩)
    have nF : a ∉ X.fs := fun hm => by
      obtain ⟨e, he, q⟩ := List.mem_filterMap.mp hm
      exact nfr (List.mem_filterMap.mpr ⟨e, List.mem_cons_of_mem _ he, q⟩)
    have S3 := J3.suite he3 hd3 na nL nF
    have LT : PySem.W.Looks (model X.prog X.w) h3 (typeOf (.ref a)) cls := fun A Q E s k q => wpAny_typeOf_ref (k _ _ he3) (by rw [hz3.1]; exact q)
    have test : ∀ {x : Str} {np : Pos} {c : Value} {Q : Value → Shared → Prop} {E : Value → Shared → Prop}, Names X x c → Q c { s' with heap := h3 } → wpAny (model X.prog X.w) (X.A.mark (some (.ref a))) (eval (.Name x np) X.env) Q E { s' with heap := h3 } := fun {x np c Q E} hc q => by
      obtain ⟨hg, hdbg, hm | ⟨hm, hv, hnn⟩⟩ := hc
      · exact ld_glob (X := X.suite a ((a, oe3) :: (X.pn ++ pins))) S3 hg hm q hdbg
      · exact ld_blt (X := X.suite a ((a, oe3) :: (X.pn ++ pins))) S3 hg hm hv q hnn hdbg
    have go : ∀ {hds' : List ExceptHandler} {l' : List Hd}, HdsN X hds' l' → wNamed X.K Wout D l' cls d σ' H' →
        wpAny (model X.prog X.w) X.A (handleBy (.ref a) X.env hds') (SP X pins D) X.xe { s' with heap := h3 } := by
      intro hds' l' hk
      induction hk with
      | nil =>
        intro w
        refine wpAny_handleBy_nil ?_
        obtain ⟨k1, k2, k3, oe, vs, T, oT, ts', he, hz, hd, h1, hr⟩ := id fl3
        unfold PySem.passOn
        refine wpAny_bind (wpAny_field he hd h1 ?_)
        rw [if_neg (show ¬ ((Value.ref T == Value.none) = true) from by simp)]
        have fin : wpAny (model X.prog X.w) X.A (setFlight (.ref a) X.env.frame) (fun _ s4 => wpAny (model X.prog X.w) X.A (throw (.ref a) : Sem Flow) (SP X pins D) X.xe s4) X.xe { s' with heap := h3 } := by
          rw [hf]
          refine HandSPX.setFlight_upZ fl3 fun h4 hh4 up4 => wpAny_throw (tk _ _ ?_)
          exact ⟨a, B, sI, pins, σ', H', cls, d, rfl, J, nb, (up.trans up3).trans up4, .inr (.inr (by rw [hs]; exact hh4)), na, os, ag, w⟩
        first
          | exact wpAny_bind (wpAny_pure (wpAny_bind fin))
          | exact wpAny_bind fin
      | @plain x c ts b₀ suite np pos' hds2 l2 hc hsu r ih =>
        intro w
        obtain ⟨b, hb1, hyes, hno⟩ := w
        refine wpAny_handleBy_cons (codeAny_handlers_test ?_) (by intro q; cases q)
        have LM := PySem.W.exm_one (M := model X.prog X.w) (J3.kIn) LT hb1
        refine test hc (LM.here ?_)
        cases b with
        | true =>
          refine codeAny_handlers_suite ?_
          refine HandSPX.lands_againZ fl3 fun h4 fl4 up4 => ?_
          have J4 : Inv X pins σ' H' { s' with heap := h4 } := J.landed nb fl4.1 ((up.trans up3).trans up4) os ag
          obtain ⟨oe4, vs4, he4, hz4, hd4⟩ := fl4.there
          have S4 := J4.suite he4 hd4 na nL nF
          refine wpAny_mono ((hsu a oe4 cls d (X.pn ++ pins) hz4 ⟨_, hd4⟩).run [] _ _ H' _ S4 (hyes rfl a na)) (fun f s6 hsp => ?_) (fun _ _ z => False.elim z)
          cases f with
          | next =>
            obtain ⟨σ6, H6, S6, q6⟩ := hsp
            exact ⟨_, _, S6.unsuite ok, q6⟩
          | brk =>
            obtain ⟨σ6, H6, S6, q6⟩ := hsp
            exact ⟨_, _, S6.unsuite ok, q6⟩
          | cont =>
            obtain ⟨σ6, H6, S6, q6⟩ := hsp
            exact ⟨_, _, S6.unsuite ok, q6⟩
          | ret u =>
            obtain ⟨v6, σ6, H6, S6, r6, q6⟩ := hsp
            exact ⟨_, _, _, S6.unsuite ok, r6, q6⟩
        | false =>
          show wpAny _ X.A (handleBy (.ref a) X.env hds2) _ _ _
          exact ih (hno rfl)
      | @named x n i c ts b₀ suite np pos' hds2 l2 hc hi hln hsu r ih =>
        intro w
        obtain ⟨b, hb1, hyes, hno⟩ := w
        have hloc : Loc X.env.scope n := .inl hln
        refine wpAny_handleBy_cons (codeAny_handlers_test ?_) (by intro q; cases q)
        have LM := PySem.W.exm_one (M := model X.prog X.w) (J3.kIn) LT hb1
        refine test hc (LM.here ?_)
        cases b with
        | true =>
          refine codeAny_handlers_suite_as ?_
          refine HandSPX.lands_againZ fl3 fun h4 fl4 up4 => ?_
          have J4 : Inv X pins σ' H' { s' with heap := h4 } := J.landed nb fl4.1 ((up.trans up3).trans up4) os ag
          obtain ⟨oe4, vs4, he4, hz4, hd4⟩ := fl4.there
          have S4 := J4.suite he4 hd4 na nL nF
          refine store_ok (X := X.suite a ((a, oe4) :: (X.pn ++ pins))) (v := .ref a) S4 hN hi hloc rfl (fun s5 S5 => ?_) (.inr hln)
          refine wpAny_mono ((hsu a oe4 cls d (X.pn ++ pins) hz4 ⟨_, hd4⟩).run [] s5 _ H' _ S5 (hyes rfl a na)) (fun f s6 hsp => ?_) (fun _ _ z => False.elim z)
          have end_ : ∀ {σ6 : L2.St} {H6 : Hp} {Q : Shared → Prop}, Inv (X.suite a ((a, oe4) :: (X.pn ++ pins))) [] σ6 H6 s6 → (∀ s7, Inv X pins (σ6.set i none) H6 s7 → Q s7) →
              wpAny (model X.prog X.w) X.A (do bindName X.env n .none; unbindBehindTheSuite X.env n pos') (fun _ s7 => Q s7) X.xe s6 := fun {σ6 H6 Q} S6 hq => gone_ok (S6.unsuite ok) hN hi hln hq
          cases f with
          | next =>
            obtain ⟨σ6, H6, S6, q6⟩ := hsp
            exact end_ S6 fun s7 J7 => ⟨_, _, J7, q6⟩
          | brk =>
            obtain ⟨σ6, H6, S6, q6⟩ := hsp
            exact end_ S6 fun s7 J7 => ⟨_, _, J7, q6⟩
          | cont =>
            obtain ⟨σ6, H6, S6, q6⟩ := hsp
            exact end_ S6 fun s7 J7 => ⟨_, _, J7, q6⟩
          | ret u =>
            obtain ⟨v6, σ6, H6, S6, r6, q6⟩ := hsp
            exact end_ S6 fun s7 J7 => ⟨_, _, _, J7, r6, q6⟩
        | false =>
          show wpAny _ X.A (handleBy (.ref a) X.env hds2) _ _ _
          exact ih (hno rfl)
    exact go hh w
  · cases f with
    | next =>
      obtain ⟨σ', H', J', q⟩ := hsp
      exact wpAny_execs_nil ⟨σ', H', J'.ofTry ok, q⟩
    | brk =>
      obtain ⟨σ', H', J', q⟩ := hsp
      exact ⟨σ', H', J'.ofTry ok, q⟩
    | cont =>
      obtain ⟨σ', H', J', q⟩ := hsp
      exact ⟨σ', H', J'.ofTry ok, q⟩
    | ret u =>
      obtain ⟨v, σ', H', J', r, q⟩ := hsp
      exact ⟨v, σ', H', J'.ofTry ok, r, q⟩
end

/-! ### over data -/
/-- a clause over data: its class, the slot of its name, what its suite does -/
structure Dh where
  c : Value
  i : Option Nat
  f : Ds
@[simp] def Dh.sv (h : Dh) (x : Xd) (sv : Sv) : Sv := match h.i with
  | none => sv
  | some i => sv.set i (.exc x)
@[simp] def Dh.un (h : Dh) (sv : Sv) : Sv := match h.i with
  | none => sv
  | some i => sv.set i .un
/-- what the clauses do with x -/
@[simp] def handleD (K : PySem.W.Frag) (D : Ed) : List Dh → Xd → Sv → Prop
  | [], x, sv => D.ex x sv
  | h :: r, x, sv => ∃ b, PySem.W.exmOne K (.ref x.C) h.c = some b ∧ (b = true → h.f (h.sv x sv) { nx := fun sv' => D.nx (h.un sv'), rt := D.rt, bk := fun sv' => D.bk (h.un sv'), ct := fun sv' => D.ct (h.un sv') }) ∧ (b = false → handleD K D r x sv)
def dTry (K : PySem.W.Frag) (fb : Ds) (l : List Dh) : Ds := fun sv D => fb sv { D with ex := fun x sv1 => handleD K D l x sv1 }
/-! ### what holds in each of several contexts holds by one term -/
section
variable {ι : Type} {X : ι → Cx} {K : PySem.W.Frag} {W : Wz}
theorem fam_e {e : Expr} {f : De} (hK : ∀ i, (X i).K = K) (h : ∀ i, PD (X i) W e f) : ∃ t, (∀ i, PE (X i) e t) ∧ SndE K W t f := by
  have h' : ∀ i, ∃ t, PE (X i) e t ∧ SndE K W t f := fun i => by
    obtain ⟨t, p, s⟩ := h i
    rw [hK i] at s
    exact ⟨t, p, s⟩
  refine ⟨fun σ H Q => ∀ i, (h' i).choose σ H Q, fun i => ⟨fun pins s σ H Q I q => (h' i).choose_spec.1.run pins s σ H Q I (q i)⟩, fun F P H σ sv Q E R r k kx q i => ?_⟩
  have z := (h' i).choose_spec.2
  exact z F P H σ sv Q E R r k kx q
def PDTs (X : Cx) (W : Wz) (ifs : List Expr) (f : Dt) : Prop := ∃ t, PTs X ifs t ∧ SndT X.K W t f
theorem fam_ts {ifs : List Expr} {f : Dt} (hK : ∀ i, (X i).K = K) (h : ∀ i, PDTs (X i) W ifs f) : ∃ t, (∀ i, PTs (X i) ifs t) ∧ SndT K W t f := by
  have h' : ∀ i, ∃ t, PTs (X i) ifs t ∧ SndT K W t f := fun i => by
    obtain ⟨t, p, s⟩ := h i
    rw [hK i] at s
    exact ⟨t, p, s⟩
  refine ⟨fun σ H Q => ∀ i, (h' i).choose σ H Q, fun i => ⟨fun pins s σ H Q I q => (h' i).choose_spec.1.run pins s σ H Q I (q i)⟩, fun F P H σ sv Q E R r k kx q i => ?_⟩
  have z := (h' i).choose_spec.2
  exact z F P H σ sv Q E R r k kx q
theorem fam_ss {st : List Stmt} {f : Ds} (hK : ∀ i, (X i).K = K) (h : ∀ i, PDSs (X i) W st f) : ∃ t, (∀ i, PSs (X i) st t) ∧ SndS K W t f := by
  have h' : ∀ i, ∃ t, PSs (X i) st t ∧ SndS K W t f := fun i => by
    obtain ⟨t, p, s⟩ := h i
    rw [hK i] at s
    exact ⟨t, p, s⟩
  refine ⟨fun D σ H => ∀ i, (h' i).choose D σ H, fun i => ⟨fun pins s σ H D I q => (h' i).choose_spec.1.run pins s σ H D I (q i)⟩, fun F P H σ sv D Dd r l q i => ?_⟩
  have z := (h' i).choose_spec.2
  exact z F P H σ sv D Dd r l q
theorem fam_i {tg e : Expr} {f : Dl} (hK : ∀ i, (X i).K = K) (h : ∀ i, PDI (X i) W tg e f) : ∃ t, (∀ i, PI (X i) tg e t) ∧ SndI K W t f := by
  have h' : ∀ i, ∃ t, PI (X i) tg e t ∧ SndI K W t f := fun i => by
    obtain ⟨t, p, s⟩ := h i
    rw [hK i] at s
    exact ⟨t, p, s⟩
  refine ⟨fun σ H Q => ∀ i, (h' i).choose σ H Q, fun i => ⟨fun pins s σ H Q I q => (h' i).choose_spec.1.run pins s σ H Q I (q i)⟩, fun F P H σ sv Q E R r k kx q i => ?_⟩
  have z := (h' i).choose_spec.2
  exact z F P H σ sv Q E R r k kx q
end
/-- in a suite no error is wished for -/
abbrev wNo (z : Ez) : Wz := ⟨fun _ _ _ _ => False, z⟩
inductive DhsOk (X : Cx) : List ExceptHandler → List Dh → Prop
  | nil : DhsOk X [] []
  | plain {x : Str} {c : Value} {f : Ds} {b₀ : Stmt} {suite : List Stmt} {np pos' : Pos} {hds : List ExceptHandler} {l : List Dh} (hc : Names X x c)
      (hsu : ∀ (a : Addr) (oe : Obj) (cls : Value) (d : Option Addr) (pn : List (Addr × Obj)), Zc cls d oe → (∃ vs, oe.data = .fields vs) → PDSs (X.suite a ((a, oe) :: pn)) (wNo (some (a, cls, d))) (b₀ :: suite) f) (r : DhsOk X hds l) :
      DhsOk X (.ExceptHandler (some (.Name x np)) none (b₀ :: suite) pos' :: hds) (⟨c, none, f⟩ :: l)
  | named {x n : Str} {i : Nat} {c : Value} {f : Ds} {b₀ : Stmt} {suite : List Stmt} {np pos' : Pos} {hds : List ExceptHandler} {l : List Dh} (hc : Names X x c) (hi : X.N[i]? = some n) (hln : X.env.kindOf n = some .local)
      (hsu : ∀ (a : Addr) (oe : Obj) (cls : Value) (d : Option Addr) (pn : List (Addr × Obj)), Zc cls d oe → (∃ vs, oe.data = .fields vs) → PDSs (X.suite a ((a, oe) :: pn)) (wNo (some (a, cls, d))) (b₀ :: suite) f) (r : DhsOk X hds l) :
      DhsOk X (.ExceptHandler (some (.Name x np)) (some n) (b₀ :: suite) pos' :: hds) (⟨c, some i, f⟩ :: l)
theorem suite_ts {X : Cx} {f : Ds} {st : List Stmt} (hsu : ∀ (a : Addr) (oe : Obj) (cls : Value) (d : Option Addr) (pn : List (Addr × Obj)), Zc cls d oe → (∃ vs, oe.data = .fields vs) → PDSs (X.suite a ((a, oe) :: pn)) (wNo (some (a, cls, d))) st f) :
    ∃ ts : Addr → Value → Option Addr → TS, (∀ (a : Addr) (oe : Obj) (cls : Value) (d : Option Addr) (pn : List (Addr × Obj)), Zc cls d oe → (∃ vs, oe.data = .fields vs) → PSs (X.suite a ((a, oe) :: pn)) st (ts a cls d)) ∧ ∀ a cls d, SndS X.K (wNo (some (a, cls, d))) (ts a cls d) f := by
  have H : ∀ a cls d, ∃ t, (∀ (oe : Obj) (pn : List (Addr × Obj)), Zc cls d oe → (∃ vs, oe.data = .fields vs) → PSs (X.suite a ((a, oe) :: pn)) st t) ∧ SndS X.K (wNo (some (a, cls, d))) t f := fun a cls d => by
    obtain ⟨t, p, s⟩ := fam_ss (ι := {i : Obj × List (Addr × Obj) // Zc cls d i.1 ∧ ∃ vs, i.1.data = .fields vs}) (X := fun i => X.suite a ((a, i.1.1) :: i.1.2)) (K := X.K) (fun _ => rfl) (fun i => hsu a i.1.1 cls d i.1.2 i.2.1 i.2.2)
    exact ⟨t, fun oe pn hz hf => p ⟨(oe, pn), hz, hf⟩, s⟩
  exact ⟨fun a cls d => (H a cls d).choose, fun a oe cls d pn hz hf => (H a cls d).choose_spec.1 oe pn hz hf, fun a cls d => (H a cls d).choose_spec.2⟩
/-- the relation, where an error lies beside -/
theorem Rel.withX {K : PySem.W.Frag} {F : Fr} {P H : Hp} {σ : L2.St} {sv : Sv} (r : Rel K F P H σ sv) (hx : ∀ (i : Nat) (x : Xd), sv[i]? ≠ some (.exc x)) (z : Option (Addr × Value × Option Addr)) : Rel K { F with Xc := z } P H σ sv :=
  ⟨r.len, r.lim, r.sub, r.p0, r.new, r.ext, r.selfs, r.bags, fun i s o e1 e2 => by
    have q := r.sl i s o e1 e2
    cases s with
    | exc x => exact absurd e1 (hx i x)
    | _ => exact q, r.apart, r.kept⟩
@[simp] def Sl.isX : Sl → Bool
  | .exc _ => true
  | _ => false
@[simp] def Sv.noX (sv : Sv) : Prop := (sv.all fun s => !s.isX) = true
theorem noX_at {sv : Sv} (h : Sv.noX sv) : ∀ (i : Nat) (x : Xd), sv[i]? ≠ some (.exc x) := fun i x e => by
  have z := List.all_eq_true.mp h _ (List.mem_of_getElem? e)
  cases z
theorem Rel.setExc {K : PySem.W.Frag} {F : Fr} {P H : Hp} {σ : L2.St} {sv : Sv} {a : Addr} {cls : Value} {dd : Option Addr} {x : Xd} {i : Nat} (r : Rel K F P H σ sv) (hF : F.Xc = some (a, cls, dd)) (hx : XdRel K P H x cls dd) : Rel K F P H (σ.set i (some (.ref a))) (sv.set i (.exc x)) := by
  have back : ∀ {m : Nat} {z : Sl}, (sv.set i (.exc x))[m]? = some z → z.addr = true → sv[m]? = some z ∧ m ≠ i := fun {m z} em az => by
    by_cases hm : m = i
    · subst hm
      rw [List.getElem?_set] at em
      rw [if_pos rfl] at em
      split at em
      · cases em
        cases az
      · cases em
    · exact ⟨by rwa [List.getElem?_set_ne (Ne.symm hm)] at em, hm⟩
  refine ⟨by rw [List.length_set, List.length_set]; exact r.len, r.lim, r.sub, r.p0, r.new, r.ext, r.selfs, r.bags, fun j s o e1 e2 => ?_, fun j k s t o u p ne e1 e2 a1 a2 s1 s2 eo eu => ?_, fun p vs hp => ?_⟩
  · by_cases hj : j = i
    · subst hj
      rw [List.getElem?_set, if_pos rfl] at e1 e2
      split at e1
      · cases e1
        split at e2
        · cases e2
          exact ⟨a, cls, dd, hF, rfl, hx⟩
        · cases e2
      · cases e1
    · rw [List.getElem?_set_ne (Ne.symm hj)] at e1 e2
      exact r.sl j s o e1 e2
  · obtain ⟨b1, n1⟩ := back e1 a1
    obtain ⟨b2, n2⟩ := back e2 a2
    rw [List.getElem?_set_ne (Ne.symm n1)] at s1
    rw [List.getElem?_set_ne (Ne.symm n2)] at s2
    exact r.apart j k s t o u p ne b1 b2 a1 a2 s1 s2 eo eu
  · obtain ⟨z1, z2, z3, z4⟩ := r.kept p vs hp
    refine ⟨z1, z2, z3, fun m s e1 a1 => ?_⟩
    obtain ⟨b1, n1⟩ := back e1 a1
    rw [List.getElem?_set_ne (Ne.symm n1)]
    exact z4 m s b1 a1
theorem Rel.setUn {K : PySem.W.Frag} {F : Fr} {P H : Hp} {σ : L2.St} {sv : Sv} {i : Nat} {o' : Option V} (r : Rel K F P H σ sv) : Rel K F P H (σ.set i o') (sv.set i .un) := by
  have back : ∀ {m : Nat} {z : Sl}, (sv.set i .un)[m]? = some z → z.addr = true → sv[m]? = some z ∧ m ≠ i := fun {m z} em az => by
    by_cases hm : m = i
    · subst hm
      rw [List.getElem?_set] at em
      rw [if_pos rfl] at em
      split at em
      · cases em
        cases az
      · cases em
    · exact ⟨by rwa [List.getElem?_set_ne (Ne.symm hm)] at em, hm⟩
  refine ⟨by rw [List.length_set, List.length_set]; exact r.len, r.lim, r.sub, r.p0, r.new, r.ext, r.selfs, r.bags, fun j s o e1 e2 => ?_, fun j k s t o u p ne e1 e2 a1 a2 s1 s2 eo eu => ?_, fun p vs hp => ?_⟩
  · by_cases hj : j = i
    · subst hj
      rw [List.getElem?_set, if_pos rfl] at e1
      split at e1
      · cases e1
        trivial
      · cases e1
    · rw [List.getElem?_set_ne (Ne.symm hj)] at e1 e2
      exact r.sl j s o e1 e2
  · obtain ⟨b1, n1⟩ := back e1 a1
    obtain ⟨b2, n2⟩ := back e2 a2
    rw [List.getElem?_set_ne (Ne.symm n1)] at s1
    rw [List.getElem?_set_ne (Ne.symm n2)] at s2
    exact r.apart j k s t o u p ne b1 b2 a1 a2 s1 s2 eo eu
  · obtain ⟨z1, z2, z3, z4⟩ := r.kept p vs hp
    refine ⟨z1, z2, z3, fun m s e1 a1 => ?_⟩
    obtain ⟨b1, n1⟩ := back e1 a1
    rw [List.getElem?_set_ne (Ne.symm n1)]
    exact z4 m s b1 a1
/-- behind a suite nothing of the error is left in the slots -/
@[simp] def dTry' (K : PySem.W.Frag) (fb : Ds) (l : List Dh) : Ds := fun sv D => fb sv { D with ex := fun x sv1 => Sv.noX sv1 ∧ handleD K { D with nx := fun sv' => Sv.noX sv' ∧ D.nx sv', bk := fun sv' => Sv.noX sv' ∧ D.bk sv', ct := fun sv' => Sv.noX sv' ∧ D.ct sv' } l x sv1 }
section
variable {X : Cx} {W : Wz} {body : List Stmt} {h₀ : ExceptHandler} {hds : List ExceptHandler} {l : List Dh} {pos : Pos} {fb : Ds}
theorem dhs_hds {X : Cx} {hds : List ExceptHandler} {l : List Dh} : DhsOk X hds l → ∃ l' : List Hd, HdsN X hds l' ∧ ∀ (F : Fr) (P H : Hp) (σ : L2.St) (sv : Sv) (D : Ends) (Dd : Ed) (Wout : Wz) (x : Xd) (cls : Value) (dd : Option Addr),
    Rel X.K (F.at Wout.z) P H σ sv → Link X.K Wout F P D Dd → Sv.noX sv → XdRel X.K P H x cls dd → handleD X.K { Dd with nx := fun sv' => Sv.noX sv' ∧ Dd.nx sv', bk := fun sv' => Sv.noX sv' ∧ Dd.bk sv', ct := fun sv' => Sv.noX sv' ∧ Dd.ct sv' } l x sv → wNamed X.K Wout.w D l' cls dd σ H := by
  intro h
  induction h with
  | nil => exact ⟨[], .nil, fun F P H σ sv D Dd Wout x cls dd r l n hx q => l.ex cls dd σ H P x sv r hx q⟩
  | @plain xn c f b₀ suite np pos' hds2 l2 hc hsu r ih =>
    obtain ⟨l', h1, h2⟩ := ih
    obtain ⟨ts, hsu, hsn⟩ := suite_ts hsu
    refine ⟨⟨c, none, ts⟩ :: l', .plain hc hsu h1, fun F P H σ sv D Dd Wout x cls dd r l n hx q => ?_⟩
    obtain ⟨b, e, q1, q2⟩ := q
    refine ⟨b, by rw [hx.1]; exact e, fun eb a ha => ?_, fun eb => h2 F P H σ sv D Dd Wout x cls dd r l n hx (q2 eb)⟩
    refine hsn a cls dd F P H σ sv D _ (r.withX (noX_at n) _) ⟨?_, ?_, ?_, ?_, ?_⟩ (q1 eb)
    · exact fun σ' H' P' sv' r' t' q' => l.nx σ' H' P' sv' (r'.withX (noX_at q'.1) Wout.z) t' q'.2
    · intro σ' H' P' sv' v d r' rv q'
      exact l.rt σ' H' P' (sv'.map fun s => match s with | .exc _ => .un | s => s) v d (Rel.dropX (F := F.at Wout.z) r') rv q'
    · exact fun σ' H' P' sv' r' t' q' => l.bk σ' H' P' sv' (r'.withX (noX_at q'.1) Wout.z) t' q'.2
    · exact fun σ' H' P' sv' r' t' q' => l.ct σ' H' P' sv' (r'.withX (noX_at q'.1) Wout.z) t' q'.2
    · exact fun _ _ _ _ _ _ _ _ _ z => z
  | @named xn n i c f b₀ suite np pos' hds2 l2 hc hi hln hsu r ih =>
    obtain ⟨l', h1, h2⟩ := ih
    obtain ⟨ts, hsu, hsn⟩ := suite_ts hsu
    refine ⟨⟨c, some i, ts⟩ :: l', .named hc hi hln hsu h1, fun F P H σ sv D Dd Wout x cls dd r l nx hx q => ?_⟩
    obtain ⟨b, e, q1, q2⟩ := q
    refine ⟨b, by rw [hx.1]; exact e, fun eb a ha => ?_, fun eb => h2 F P H σ sv D Dd Wout x cls dd r l nx hx (q2 eb)⟩
    refine hsn a cls dd F P H (σ.set i (some (.ref a))) (sv.set i (.exc x)) _ _ ((r.withX (noX_at nx) (some (a, cls, dd))).setExc rfl hx) ⟨?_, ?_, ?_, ?_, ?_⟩ (q1 eb)
    · exact fun σ' H' P' sv' r' t' q' => l.nx _ H' P' (sv'.set i .un) (r'.setUn.withX (noX_at q'.1) Wout.z) t' q'.2
    · intro σ' H' P' sv' v d r' rv q'
      exact l.rt σ' H' P' (sv'.map fun s => match s with | .exc _ => .un | s => s) v d (Rel.dropX (F := F.at Wout.z) r') rv q'
    · exact fun σ' H' P' sv' r' t' q' => l.bk _ H' P' (sv'.set i .un) (r'.setUn.withX (noX_at q'.1) Wout.z) t' q'.2
    · exact fun σ' H' P' sv' r' t' q' => l.ct _ H' P' (sv'.set i .un) (r'.setUn.withX (noX_at q'.1) Wout.z) t' q'.2
    · exact fun _ _ _ _ _ _ _ _ _ z => z
where
  Rel.dropX {K : PySem.W.Frag} {F : Fr} {P H : Hp} {σ : L2.St} {sv : Sv} {z : Option (Addr × Value × Option Addr)} (r : Rel K { F with Xc := z } P H σ sv) : Rel K F P H σ (sv.map fun s => match s with | .exc _ => .un | s => s) := by
    have back : ∀ {m : Nat} {s : Sl}, (sv.map fun s => match s with | .exc _ => .un | s => s)[m]? = some s → s = .un ∨ (sv[m]? = some s ∧ ∀ x, s ≠ .exc x) := fun {m s} e => by
      rw [List.getElem?_map] at e
      cases q : sv[m]? with
      | none =>
        rw [q] at e
        cases e
      | some t =>
        rw [q] at e
        cases t <;> cases e <;> first | exact .inl rfl | exact .inr ⟨rfl, fun x z => nomatch z⟩
    refine ⟨by rw [List.length_map]; exact r.len, r.lim, r.sub, r.p0, r.new, r.ext, r.selfs, r.bags, fun i s o e1 e2 => ?_, fun i j s t o u p ne e1 e2 a1 a2 s1 s2 eo eu => ?_, fun p vs hp => ?_⟩
    · rcases back e1 with rfl | ⟨e3, nx⟩
      · trivial
      · have q := r.sl i s o e3 e2
        cases s with
        | exc x => exact absurd rfl (nx x)
        | _ => exact q
    · rcases back e1 with rfl | ⟨e3, _⟩
      · cases a1
      · rcases back e2 with rfl | ⟨e4, _⟩
        · cases a2
        · exact r.apart i j s t o u p ne e3 e4 a1 a2 s1 s2 eo eu
    · obtain ⟨z1, z2, z3, z4⟩ := r.kept p vs hp
      refine ⟨z1, z2, z3, fun m s e1 a1 => ?_⟩
      rcases back e1 with rfl | ⟨e3, _⟩
      · cases a1
      · exact z4 m s e3 a1
theorem Rel.p0none {K : PySem.W.Frag} {F : Fr} {P H : Hp} {σ : L2.St} {sv : Sv} (r : Rel K F P H σ sv) {a : Addr} {u w : HO} (z1 : F.P0 a = none) (hu : F.H0 a = some u) (hw : H a = some w) (nt : ∀ xs, w ≠ .tup xs) : P a = none := by
  cases q : P a with
  | none => rfl
  | some v =>
    rcases r.new a v q with z | z
    · rw [z1] at z
      cases z
    · rcases z with z | ⟨xs, rfl, z⟩
      · rw [hu] at z
        cases z
      · rw [r.sub a _ q] at hw
        exact (nt xs (Option.some.inj hw).symm).elim
theorem Rel.rebase {K : PySem.W.Frag} {F : Fr} {P H : Hp} {σ : L2.St} {sv : Sv} (r : Rel K F P H σ sv) : Rel K { F with P0 := P } P H σ sv := by
  refine ⟨r.len, r.lim, r.sub, Sub.refl P, fun a o e => .inl e, r.ext, fun a hs => ?_, fun a hb => ?_, fun i s o e1 e2 => ?_, r.apart, r.kept⟩
  · obtain ⟨z1, ⟨u, hu⟩, C, dx, fs, z3⟩ := r.selfs a hs
    exact ⟨r.p0none z1 hu z3 (fun _ z => by cases z), ⟨u, hu⟩, C, dx, fs, z3⟩
  · obtain ⟨z1, ⟨u, hu⟩, x, y, z, z3, z4⟩ := r.bags a hb
    exact ⟨r.p0none z1 hu z3 (fun _ z => by cases z), ⟨u, hu⟩, x, y, z, z3, z4⟩
  · have q := r.sl i s o e1 e2
    cases s <;> exact q
theorem Rel.unbase {K : PySem.W.Frag} {F : Fr} {P P1 H H1 : Hp} {σ σ1 : L2.St} {sv sv1 : Sv} (r0 : Rel K F P1 H1 σ1 sv1) (r : Rel K { F with P0 := P1 } P H σ sv) : Rel K F P H σ sv := by
  refine ⟨r.len, r.lim, r.sub, r0.p0.trans r.p0, fun a o e => ?_, r.ext, fun a hs => ⟨(r0.selfs a hs).1, (r.selfs a hs).2⟩, fun a hb => ⟨(r0.bags a hb).1, (r.bags a hb).2⟩, fun i s o e1 e2 => ?_, r.apart, r.kept⟩
  · rcases r.new a o e with z | z
    · exact r0.new a o z
    · exact .inr z
  · have q := r.sl i s o e1 e2
    cases s <;> exact q
theorem pds_try (hs : X.stack = X.env :: X.outer) (hf : X.env.frame = some X.env.locals) (hN : X.N.Nodup) (tk : Takes X W.w)
    (hb : ∀ (W' : WX) (pn : List (Addr × Obj)) (xe : Value → Shared → Prop), Takes (X.tr pn xe) W' → PassesOwn (model X.prog X.w) X.A X.env xe → PDSs (X.tr pn xe) ⟨W', W.z⟩ body fb) (hh : DhsOk X (h₀ :: hds) l) :
    PDS X W (.Try body (h₀ :: hds) [] [] pos) (dTry' X.K fb l) := by
  obtain ⟨l', h1, h2⟩ := dhs_hds hh
  have HB : ∀ W' : WX, ∃ t, (∀ (pn : List (Addr × Obj)) (xe : Value → Shared → Prop), Takes (X.tr pn xe) W' → PassesOwn (model X.prog X.w) X.A X.env xe → PSs (X.tr pn xe) body t) ∧ SndS X.K ⟨W', W.z⟩ t fb := fun W' => by
    obtain ⟨t, p, s⟩ := fam_ss (ι := {i : List (Addr × Obj) × (Value → Shared → Prop) // Takes (X.tr i.1 i.2) W' ∧ PassesOwn (model X.prog X.w) X.A X.env i.2}) (X := fun i => X.tr i.1.1 i.1.2) (K := X.K) (fun _ => rfl) (fun i => hb W' i.1.1 i.1.2 i.2.1 i.2.2)
    exact ⟨t, fun pn xe h1 h2 => p ⟨(pn, xe), h1, h2⟩, s⟩
  refine ⟨_, ps_try_named hs hf hN tk (tb := fun W' => (HB W').choose) (fun W' => (HB W').choose_spec.1) h1, fun F P H σ sv D Dd r l q => ?_⟩
  refine (HB _).choose_spec.2 { F with P0 := P } P H σ sv D { Dd with ex := fun x sv1 => Sv.noX sv1 ∧ handleD X.K { Dd with nx := fun sv' => Sv.noX sv' ∧ Dd.nx sv', bk := fun sv' => Sv.noX sv' ∧ Dd.bk sv', ct := fun sv' => Sv.noX sv' ∧ Dd.ct sv' } _ x sv1 } r.rebase ⟨?_, ?_, ?_, ?_, ?_⟩ q
  · exact fun σ' H' P' sv' r' t' q' => l.nx σ' H' P' sv' (Rel.unbase (F := F.at W.z) r r') t' q'
  · exact fun σ' H' P' sv' v d r' rv q' => l.rt σ' H' P' sv' v d (Rel.unbase (F := F.at W.z) r r') rv q'
  · exact fun σ' H' P' sv' r' t' q' => l.bk σ' H' P' sv' (Rel.unbase (F := F.at W.z) r r') t' q'
  · exact fun σ' H' P' sv' r' t' q' => l.ct σ' H' P' sv' (Rel.unbase (F := F.at W.z) r r') t' q'
  · exact fun cls dd σ' H' P' x sv' r' hx q' => h2 F P' H' σ' sv' D Dd W x cls dd (Rel.unbase (F := F.at W.z) r r') (l.mono r'.p0) q'.1 hx q'.2
end
end Pd
end
section
set_option autoImplicit false
set_option Elab.async false
set_option linter.all false
set_option autoImplicit false
set_option maxRecDepth 100000
set_option maxHeartbeats 4000000
/-! Pd10: what is read of a caught error: its fields, its classes. -/
namespace Pd
section
open PySem PySem.W PySem.Spec PySem.Calls PyProof.Rows
variable {prog : Program} {w : World} {A : Around} {E : Value → Shared → Prop} {s : Shared} {K : Frag} {x D : Addr} {ox : Obj} {od : Option Obj}
theorem findObj_dataO {C : Addr} {name : Str} {a g : Value} (hc : (clsIn K C).isSome = true) (ha : findIn K (.ref C) name = some (some a)) (hg : specialIn K a "__get__" = some (some g)) (ht : takesIn K a = some true) : findObj K C od name = some (.bind g a) := by
  obtain ⟨cd, hc⟩ := Option.isSome_iff_exists.mp hc
  unfold findObj
  rw [hc, Option.bind_some, ha, Option.bind_some]
  simp [hg, ht]
theorem kin_classO {Q : Option Value → Shared → Prop} (C : L2.ExcC K D)
    (X : K.In s.heap) (I : InstAt s.heap x ox D od) (h : Q (some (.ref D)) { s with toks := s.toks + 1 }) : wpAny (model prog w) A (getAttr? (.ref x) "__class__") Q E s := by
  have hf : findObj K D od "__class__" = some (.bind (.builtin "getset_descriptor.__get__") (.builtin "object.__class__")) := findObj_dataO (by obtain ⟨cd, hc, _⟩ := any_some C.hd; rw [hc]; rfl) C.ha C.hn C.ht
  have hga := C.hg
  have hgt := C.hk
  have hsub := C.hs
  have hm := C.hm
  obtain ⟨hp, g, d, t, os⟩ := s
  have L0 := I.type (M := model prog w)
  have L1 := looks_findIn (M := model prog w) X hga
  have L2 := looks_findIn (M := model prog w) X hgt
  have L3 := looks_find (M := model prog w) X I hf
  have sub : Looks (model prog w) hp (isInstance (.ref x) (.type "BaseException")) true := L0.andThen (looks_subIn X hsub)
  have hx0 : (false && onTheHeap (Value.builtin "BaseException.__getattribute__")) = false := rfl
  have hx2 : (Value.builtin "BaseException.__getattribute__" == Value.builtin "object.__getattribute__") = false := by decide +kernel
  have hx1 : (onTheHeap (Value.ref D) && Value.builtin "BaseException.__getattribute__" == Value.builtin "object.__getattribute__") = false := by rw [hx2]; rfl
  unfold getAttr? getAttrBy? getAttrBy
  refine wpAny_bind (wpAny_mkText (wpAny_bind (wpAny_attempt (wpAny_holding (wpAny_bind (L0.at (wpAny_bind (L1.at ?_))))))))
  show wpAny _ _ (if (onTheHeap (Value.ref D) && Value.builtin "BaseException.__getattribute__" == Value.builtin "object.__getattribute__") = true then _ else _) _ _ _
  rw [hx1, if_neg Bool.false_ne_true]
  unfold getAttrByItsOwn hookBefore
  refine wpAny_bind ?_
  rw [if_pos (show onTheHeap (Value.ref D) = true from rfl)]
  refine L2.at ?_
  refine wpAny_bind (wpAny_attempt (wpAny_holding ?_))
  unfold callGetattribute
  rw [hx0, if_neg Bool.false_ne_true]
  unfold boundAndCalled
  rw [PySem.F.excAttr_ValueError.ga.bind (.ref x)]
  refine wpAny_bind (wpAny_pure ?_)
  show wpAny _ _ (call (.builtin "BaseException.__getattribute__") [.ref x, .str "__class__" t]) _ _ _
  refine wpAny_call (codeAny_call_builtin PySem.F.excAttr_ValueError.ga.plain PySem.F.entry_bexc_ga ?_)
  refine @check_slot (model prog w) _ _ ⟨hp, g, d, t + 1, os⟩ "BaseException.__getattribute__" "BaseException" "__getattribute__" (.ref x) [.str "__class__" t] [] _ (by decide +kernel) (by decide +kernel) sub (PySem.F.args_bexc_ga (.ref x) (.str "__class__" t)) ?_
  unfold Builtin.«object.__getattribute__»
  refine wpAny_bind (wpAny_of_eq (a := ((Value.ref x : Value), [Value.str "__class__" t])) (by first | rfl | (simp only [slotArgs]; rfl)) ?_)
  refine wpAny_bind (wpAny_pure (wpAny_bind (L0.at (wpAny_bind (L3.at ?_)))))
  show wpAny _ _ (holding [Value.builtin "object.__class__"] (call (.builtin "getset_descriptor.__get__") [.builtin "object.__class__", .ref x, .ref D]) >>= ret) _ _ _
  refine wpAny_bind (wpAny_holding (wpAny_call (class_get (s := ⟨hp, g, d, t + 1, os⟩) (ox := ox) (od := od) X I hm ?_)))
  refine wpAny_pure ?_
  show wpAny _ _ (handedOut (.ref D)) _ _ _
  rw [handedOut_of (v := .ref D) rfl]
  first
    | exact wpAny_pure (wpAny_pure h)
    | exact wpAny_pure h
    | exact wpAny_pure (wpAny_bind (wpAny_pure (wpAny_pure h)))
theorem kitx_excO (C : L2.ExcC K D) (ox : Obj) : KitX K (.ref x) (.ref D) (fun h => ∃ od, InstAt h x ox D od) where
  ty := fun _ _ _ ⟨_, I⟩ => I.type
  it := fun _ _ X _ => by
    obtain ⟨cdD, hcD, _⟩ := any_some C.hd
    unfold clsIn at hcD
    split at hcD
    · rename_i c' d' cd' sl' ho
      intro A' Q' E' s' k q
      unfold isType loadHead
      exact wpAny_bind (wpAny_loadPart (k _ _ (X _ _ ho)) (wpAny_pure q))
    · cases hcD
  ne := fun h tp dd its n sl X htp => by
    obtain ⟨cdD, hcD, _⟩ := any_some C.hd
    refine Bool.eq_false_iff.mpr fun q => ?_
    have e : D = tp := Value.ref.inj (beq_iff_eq.mp q)
    subst e
    unfold clsIn at hcD
    split at hcD
    · rename_i c' d' cd' sl' ho
      have z := (X _ _ ho).symm.trans htp
      cases z
    · cases hcD
  ca := fun X I k => by
    obtain ⟨od, I⟩ := I
    exact kin_classO C X I k
end
open PySem PySem.Spec PyProof.Rows L2
section
variable {X : Cx} {a : Addr} {oe : Obj} {cls : Value} {dd : Option Addr} {pn : List (Addr × Obj)}
/-- isinstance(e, c) of the caught error -/
def rIsX (K : PySem.W.Frag) (a : Addr) (cls : Value) (dd : Option Addr) : List V → Hp → VK → Prop := fun xs H Q => ∃ (D : Addr) (c : V) (cv : Value) (b : Bool), xs = [.ref a, c] ∧ ClsV c cv ∧ cls = .ref D ∧ ExcC K D ∧ (dd = none ∨ ∃ d fs, dd = some d ∧ H d = some (.xd fs)) ∧ PySem.W.kitOne K (.ref D) cv = some b ∧ Q (.bl b) H
theorem call_isX (hz : Zc cls dd oe) (hf : ∃ vs, oe.data = .fields vs) : CallR (X.suite a ((a, oe) :: pn)) (.builtin "isinstance") (rIsX X.K a cls dd) := by
  intro pins s σ H xs us Q I r h
  obtain ⟨D, c, cv, b, rfl, hcv, ecl, C, hd, e, q⟩ := h
  subst ecl
  obtain ⟨u1, u2, rfl, r1, r2⟩ := vals2 r
  cases r1
  have e2 := hcv.eq r2
  subst e2
  obtain ⟨hget, _⟩ := I.pin (a, oe) (List.mem_append.mpr (.inl List.mem_cons_self))
  obtain ⟨vs, hv⟩ := hf
  have J : ∃ od, PySem.W.InstAt s.heap a oe D od := by
    obtain ⟨oc, od, oda, osl⟩ := oe
    obtain ⟨h1, h2⟩ := hz
    dsimp only at h1 h2 hv
    subst h1 h2 hv
    rcases hd with rfl | ⟨d, fs, rfl, hd⟩
    · exact ⟨none, hget, rfl, rfl, trivial⟩
    · obtain ⟨mA, ⟨o, es, ep, ho, _⟩, _⟩ := (show ObjOk X.prog X.w H s.heap d (.xd fs) from I.hok d _ hd)
      exact ⟨some o, hget, rfl, rfl, ho⟩
  exact PySem.W.kia_one (kitx_excO C oe) I.kIn J e (fun z => nomatch z) fun tk => ⟨.bl b, H, I.kept (t' := tk) fun _ _ z => z, rfl, q⟩
/-- e.f -/
@[simp] def dXf (K : PySem.W.Frag) (i : Nat) (C : Addr) (f : Str) : De := fun sv Q _ => ∃ x, sv[i]? = some (.exc x) ∧ x.C = C ∧ ∃ z, (x.ns.zip x.ds).lookup f = some z ∧ Q z sv
theorem snd_xf {K : PySem.W.Frag} {w : WX} {i : Nat} {C : Addr} {f : Str} : SndE K ⟨w, some (a, cls, dd)⟩ (tXf a cls dd C f (tVar i)) (dXf K i C f) := fun F P H σ sv Q E R r k _ q => by
  obtain ⟨x, e, rfl, z, ez, q⟩ := q
  obtain ⟨o, ho, a', cls', dd', hX, rfl, h1, h2⟩ := rel_get r e
  cases hX
  refine ⟨_, ho, rfl, h1, ?_⟩
  rcases h2 with ⟨h2, _⟩ | ⟨d, fs, rfl, h3, h4⟩
  · rw [h2] at ez
    simp at ez
  · obtain ⟨v, ev, rv⟩ := h4 f z ez
    exact ⟨d, fs, v, rfl, r.sub _ _ h3, ev, k v H P z sv r (Sub.refl P) rv q⟩
theorem pd_xf {w : WX} {i : Nat} {C : Addr} {f n : Str} {p pos : Pos} (T : XfC X.K C) (hno : PySem.W.findIn X.K (.ref C) f = some none) (hN : X.N[i]? = some n) (hv : Vis X.env.scope n) (hz : Zc cls dd oe) (hf : ∃ vs, oe.data = .fields vs)
    (hd : (n == ("__debug__" : Str)) = false := by decide) (hcd : (n == ("__classdict__" : Str)) = false := by decide) (hb : attributeBase (.Name n p) f X.env (eval (.Name n p) X.env) = eval (.Name n p) X.env := by rfl) :
    PD (X.suite a ((a, oe) :: pn)) ⟨w, some (a, cls, dd)⟩ (.Attribute (.Name n p) f pos) (dXf X.K i C f) :=
  ⟨_, pe_xf T hno hz hf (pe_var (X := X.suite a ((a, oe) :: pn)) hN hv hd hcd) hb, snd_xf⟩
@[simp] def dXi (K : PySem.W.Frag) (i : Nat) (c : Value) : De := fun sv Q _ => ∃ x, sv[i]? = some (.exc x) ∧ ExcC K x.C ∧ ∃ b, PySem.W.kitOne K (.ref x.C) c = some b ∧ Q (.bl b) sv
theorem snd_xi {K : PySem.W.Frag} {w : WX} {i : Nat} {c : Value} {cv : V} (hcv : ClsV cv c) : SndE K ⟨w, some (a, cls, dd)⟩ (tCB (rIsX K a cls dd) (tCons (tVar i) (tCons (tC cv) tNil))) (dXi K i c) := fun F P H σ sv Q E R r k _ q => by
  obtain ⟨x, e, hC, b, eb, q⟩ := q
  obtain ⟨o, ho, a', cls', dd', hX, rfl, h1, h2⟩ := rel_get r e
  cases hX
  refine ⟨_, ho, x.C, cv, c, b, rfl, hcv, h1, hC, ?_, eb, k _ H P (.bl b) sv r (Sub.refl P) rfl q⟩
  rcases h2 with ⟨_, h2⟩ | ⟨d, fs, h2, h3, _⟩
  · exact .inl h2
  · exact .inr ⟨d, fs, h2, r.sub _ _ h3⟩
section
variable {w : WX} {i : Nat} {n x : Str} {p p2 p3 pos : Pos}
theorem pd_xi {ce : Expr} {cv : V} {c : Value} (hcv : ClsV cv c) (hce : PE (X.suite a ((a, oe) :: pn)) ce (tC cv)) (hg : Gl X "isinstance") (hm : X.mg "isinstance" = none) (hN : X.N[i]? = some n) (hv : Vis X.env.scope n) (hz : Zc cls dd oe) (hf : ∃ vs, oe.data = .fields vs)
    (hd : (n == ("__debug__" : Str)) = false := by decide) (hcd : (n == ("__classdict__" : Str)) = false := by decide)
    (he : starEach [.Name n p2, ce] X.env = (false, eval (.Name n p2) X.env) :: starEach [ce] X.env := by rfl) (he2 : starEach [ce] X.env = (false, eval ce X.env) :: starEach [] X.env := by rfl) (hpl : (backTo pos (starEach [ce] X.env)).any (·.1) = false := by rfl) :
    PD (X.suite a ((a, oe) :: pn)) ⟨w, some (a, cls, dd)⟩ (.Call (.Name "isinstance" p) [.Name n p2, ce] [] pos) (dXi X.K i c) :=
  ⟨_, pe_callB (X := X.suite a ((a, oe) :: pn)) (call_isX hz hf) hg hm boot_isi' (pa_cons (pe_var (X := X.suite a ((a, oe) :: pn)) hN hv hd hcd) (pa_cons hce pa_nil he2) he) (by decide) (by decide) he hpl, snd_xi hcv⟩
end
end
end Pd
end
section
set_option autoImplicit false
set_option Elab.async false
set_option linter.all false
set_option autoImplicit false
set_option maxRecDepth 100000
set_option maxHeartbeats 4000000
/-! Pd11: families of contexts; list comprehensions over data. -/
namespace Pd
open PySem PySem.Spec PyProof.Rows L2

theorem pdts_nil {X : Cx} {W : Wz} : PDTs X W [] (fun sv Q _ => Q true sv) := ⟨_, pts_nil, fun F P H σ sv Q E R r k _ q => k true H P sv r (Sub.refl P) q⟩
theorem pdts_one {X : Cx} {W : Wz} {c : Expr} {f : Dt} (h : PDT X W c f) : PDTs X W [c] f := by
  obtain ⟨t, p, s⟩ := h
  exact ⟨t, pts_one p, s⟩

/-! ### targets in a block: nothing but the block's names is written -/
theorem wipe_get {σ : L2.St} {i : Nat} : ∀ {vs : List Nat}, (wipe σ vs)[i]? = if i ∈ vs then (σ[i]?).map (fun _ => (none : Option V)) else σ[i]?
  | [] => by simp [wipe]
  | v :: vs => by
    unfold wipe
    by_cases hi : v = i
    · subst hi
      rw [List.getElem?_set, if_pos rfl]
      simp only [List.mem_cons, true_or, if_true]
      by_cases hl : v < σ.length
      · have hl2 : v < (wipe σ vs).length := by rw [wipe_length]; exact hl
        rw [if_pos hl2, List.getElem?_eq_getElem hl]
        rfl
      · have hl2 : ¬ v < (wipe σ vs).length := by rw [wipe_length]; exact hl
        rw [if_neg hl2, List.getElem?_eq_none (Nat.le_of_not_lt hl)]
        rfl
    · rw [List.getElem?_set_ne hi, wipe_get (vs := vs)]
      have : (i ∈ v :: vs) ↔ i ∈ vs := by
        rw [List.mem_cons]
        exact ⟨fun z => z.resolve_left fun e => hi e.symm, .inr⟩
      simp only [this]
theorem wipe_wipe {σ : L2.St} {vs : List Nat} : wipe (wipe σ vs) vs = wipe σ vs := by
  refine List.ext_getElem? fun i => ?_
  rw [wipe_get, wipe_get]
  by_cases h : i ∈ vs
  · simp only [h, if_true]
    cases σ[i]? <;> rfl
  · simp only [h, if_false]
theorem wipe_set {σ : L2.St} {vs : List Nat} {i : Nat} {o : Option V} (h : i ∈ vs) : wipe (σ.set i o) vs = wipe σ vs := by
  refine List.ext_getElem? fun j => ?_
  rw [wipe_get, wipe_get]
  by_cases hj : j ∈ vs
  · simp only [hj, if_true]
    by_cases e : i = j
    · subst e
      rw [List.getElem?_set, if_pos rfl]
      by_cases hl : i < σ.length
      · rw [if_pos hl, List.getElem?_eq_getElem hl]
        rfl
      · rw [if_neg hl, List.getElem?_eq_none (Nat.le_of_not_lt hl)]
    · rw [List.getElem?_set_ne e]
  · simp only [hj, if_false]
    rw [List.getElem?_set_ne fun e => hj (by rw [← e]; exact h)]
def SndGw (vs : List Nat) (K : PySem.W.Frag) (g : TG) (f : Dg) : Prop := ∀ (F : Fr) (P H : Hp) (σ : L2.St) (sv : Sv) (d : D) (v : V) (Q : Sv → Prop) (R : L2.St → Hp → Prop), Rel K F P H σ sv → Rp K P d v →
  (∀ σ' sv', wipe σ' vs = wipe σ vs → Rel K F P H σ' sv' → Q sv' → R σ' H) → f d sv Q → g v σ H R
def PDGw (X : Cx) (vs : List Nat) (e : Expr) (f : Dg) : Prop := ∃ g, PG X e g ∧ SndGw vs X.K g f
def SndGsw (vs : List Nat) (K : PySem.W.Frag) (g : TGs) (f : Dgs) : Prop := ∀ (F : Fr) (P H : Hp) (σ : L2.St) (sv : Sv) (ds : List D) (us : List V) (Q : Sv → Prop) (R : L2.St → Hp → Prop), Rel K F P H σ sv → RpL K P ds us →
  (∀ σ' sv', wipe σ' vs = wipe σ vs → Rel K F P H σ' sv' → Q sv' → R σ' H) → f ds sv Q → g us σ H R
def PDGsw (X : Cx) (vs : List Nat) (es : List Expr) (f : Dgs) : Prop := ∃ g, PGs X es g ∧ SndGsw vs X.K g f
theorem fam_gw {ι : Type} {X : ι → Cx} {K : PySem.W.Frag} {vs : List Nat} {e : Expr} {f : Dg} (hK : ∀ i, (X i).K = K) (h : ∀ i, PDGw (X i) vs e f) : ∃ g, (∀ i, PG (X i) e g) ∧ SndGw vs K g f := by
  have h' : ∀ i, ∃ g, PG (X i) e g ∧ SndGw vs K g f := fun i => by
    obtain ⟨t, p, s⟩ := h i
    rw [hK i] at s
    exact ⟨t, p, s⟩
  refine ⟨fun v σ H Q => ∀ i, (h' i).choose v σ H Q, fun i => ⟨fun pins s σ H v u Q I rv q => (h' i).choose_spec.1.run pins s σ H v u Q I rv (q i)⟩, fun F P H σ sv d v Q R r rv k q i => ?_⟩
  have z := (h' i).choose_spec.2
  exact z F P H σ sv d v Q R r rv k q
section
variable {X : Cx} {pos : Pos} {vs : List Nat}
theorem pdgw_name {i : Nat} {x : Str} (hN : X.N.Nodup) (hi : X.N[i]? = some x) (hx : Loc X.env.scope x) (hiv : i ∈ vs) (hf : X.fn x = true ∨ X.env.scope.names.lookup x = some .local := by first | exact .inl rfl | exact .inr rfl | assumption) : PDGw X vs (.Name x pos) (dgName i) :=
  ⟨_, pg_name hN hi hx hf, fun F P H σ sv d v Q R r rv k q => k _ _ (wipe_set hiv) (r.setDat rv) q⟩
theorem pdgsw_nil : PDGsw X vs [] dgNil := ⟨_, pgs_nil, fun F P H σ sv ds us Q R r rv k q => by
  obtain ⟨rfl, q⟩ := q
  exact ⟨rv, k _ _ rfl r q⟩⟩
theorem pdgsw_cons {e : Expr} {es : List Expr} {f : Dg} {g : Dgs} (h1 : PDGw X vs e f) (h2 : PDGsw X vs es g) (hs : (assignEach (e :: es) X.env).map (·.2) = assign e X.env :: (assignEach es X.env).map (·.2) := by rfl) : PDGsw X vs (e :: es) (dgCons f g) := by
  obtain ⟨t, p1, s1⟩ := h1
  obtain ⟨u, p2, s2⟩ := h2
  refine ⟨_, pgs_cons p1 p2 hs, fun F P H σ sv ds us Q R r rv k q => ?_⟩
  obtain ⟨d, rr, rfl, q⟩ := q
  obtain ⟨v, vr, rfl, r1, r2⟩ := rv
  exact ⟨v, vr, rfl, s1 F P H σ sv d v _ _ r r1 (fun σ' sv' e' r' q' => s2 F P H σ' sv' rr vr Q R r' r2 (fun σ2 sv2 e2 r2' q2 => k σ2 sv2 (e2.trans e') r2' q2) q') q⟩
theorem pdgw_tup {es : List Expr} {k : Nat} {g : Dgs} {n : Nat} (hc : X.calm = true) (h : PDGsw X vs es g) (hn : (assignEach es X.env).length = n := by rfl) (hst : (assignEach es X.env).findIdx? (·.1) = none := by rfl) : PDGw X vs (.Tuple es k pos) (dgTup n g) := by
  obtain ⟨t, p, s⟩ := h
  refine ⟨_, PG.or (pg_tup hc p hn hst) (pg_lst hc p hn hst), fun F P H σ sv d v Q R r rv kk q => ?_⟩
  cases d with
  | tup ds =>
    obtain ⟨a, xs, rfl, e1, rl⟩ := rv
    exact .inl ⟨a, xs, rfl, sqT_of (r.sub _ _ e1), by rw [rl.length]; exact q.1, s F P H σ sv ds xs Q R r rl kk q.2⟩
  | lst ds =>
    obtain ⟨a, xs, rfl, e1, rl⟩ := rv
    exact .inr ⟨a, xs, rfl, SqL.of (r.sub _ _ e1), by rw [rl.length]; exact q.1, s F P H σ sv ds xs Q R r rl kk q.2⟩
  | _ => exact q.elim
end

/-! ### slots of a block -/
@[simp] def unAt (sv : Sv) : List Nat → Sv
  | [] => sv
  | v :: vs => (unAt sv vs).set v .un
theorem unAt_un {sv : Sv} {i : Nat} {s : Sl} : ∀ {vs : List Nat}, i ∈ vs → (unAt sv vs)[i]? = some s → s = .un
  | v :: vs, h, e => by
    unfold unAt at e
    by_cases hv : v = i
    · subst hv
      rw [List.getElem?_set, if_pos rfl] at e
      split at e
      · cases e
        rfl
      · cases e
    · rw [List.getElem?_set_ne hv] at e
      rcases List.mem_cons.mp h with z | z
      · exact absurd z.symm hv
      · exact unAt_un z e
theorem Rel.wipe {K : PySem.W.Frag} {F : Fr} {P H : Hp} {σ : L2.St} {sv : Sv} (r : Rel K F P H σ sv) : ∀ (vs : List Nat), Rel K F P H (L2.wipe σ vs) (unAt sv vs)
  | [] => r
  | v :: vs => (Rel.wipe r vs).setUn
/-- the relation asks nothing of slots that are unknown -/
theorem Rel.congr {K : PySem.W.Frag} {F : Fr} {P H : Hp} {σ σ' : L2.St} {sv : Sv} (r : Rel K F P H σ sv) (hl : σ'.length = σ.length) (h : ∀ (i : Nat) (s : Sl), sv[i]? = some s → s ≠ .un → σ'[i]? = σ[i]?) : Rel K F P H σ' sv := by
  have na : ∀ {s : Sl}, s.addr = true → s ≠ .un := fun a e => by
    subst e
    cases a
  refine ⟨by rw [hl]; exact r.len, r.lim, r.sub, r.p0, r.new, r.ext, r.selfs, r.bags, fun i s o e1 e2 => ?_, fun i j s t o u p ne e1 e2 a1 a2 s1 s2 eo eu => ?_, fun p vs hp => ?_⟩
  · by_cases hs : s = .un
    · subst hs
      trivial
    · rw [h i s e1 hs] at e2
      exact r.sl i s o e1 e2
  · rw [h i s e1 (na a1)] at s1
    rw [h j t e2 (na a2)] at s2
    exact r.apart i j s t o u p ne e1 e2 a1 a2 s1 s2 eo eu
  · obtain ⟨z1, z2, z3, z4⟩ := r.kept p vs hp
    refine ⟨z1, z2, z3, fun m s e1 a1 => ?_⟩
    rw [h m s e1 (na a1)]
    exact z4 m s e1 a1
theorem Rel.unwipe {K : PySem.W.Frag} {F : Fr} {P H : Hp} {σ : L2.St} {sv : Sv} {vs : List Nat} (r : Rel K F P H (L2.wipe σ vs) sv) (hu : ∀ (i : Nat) (s : Sl), i ∈ vs → sv[i]? = some s → s = .un) : Rel K F P H σ sv :=
  r.congr (wipe_length σ vs).symm fun i s e ne => by
    rw [wipe_get, if_neg fun hi => ne (hu i s hi e)]
/-- the list that is put aside is changed -/
theorem Rel.keepTo {K : PySem.W.Frag} {F : Fr} {P H : Hp} {σ : L2.St} {sv : Sv} {p : Addr} {vs ws : List V} (r : Rel K (F.keep p vs) P H σ sv) (hk : ∀ q us, (q, us) ∈ F.Kp → q ≠ p) : Rel K (F.keep p ws) P (upd H p (.lst ws)) σ sv := by
  obtain ⟨h1, h2, h3, h4⟩ := r.kept p ⟨.lst vs, fun _ z => by cases z⟩ List.mem_cons_self
  have nb : ∀ a, F.B0 a → a ≠ p := fun a hb e => by
    obtain ⟨_, ⟨u, hu⟩, _⟩ := r.bags a hb
    rw [e, h3] at hu
    cases hu
  refine ⟨r.len, r.lim, fun a u e => ?_, r.p0, r.new, fun a u e nb ns => ?_, fun a hs => ?_, fun a hb => ?_, fun j s u e1 e2 => ?_, r.apart, fun q us hq => ?_⟩
  · have ne : a ≠ p := fun z => by
      rw [z, h2] at e
      cases e
    rw [upd_ne ne]
    exact r.sub a u e
  · have ne : a ≠ p := fun z => by
      have e2 : F.H0 p = some u := by
        rw [← z]
        exact e
      rw [show F.H0 p = none from h3] at e2
      cases e2
    rw [upd_ne ne]
    exact r.ext a u e nb ns
  · obtain ⟨z1, ⟨u, hu⟩, C, dx, fs, z3⟩ := r.selfs a hs
    have ne : a ≠ p := fun z => by
      have e2 : F.H0 p = some u := by
        rw [← z]
        exact hu
      rw [show F.H0 p = none from h3] at e2
      cases e2
    exact ⟨z1, ⟨u, hu⟩, C, dx, fs, by rw [upd_ne ne]; exact z3⟩
  · obtain ⟨z1, z2, x, y, z, z3, z4⟩ := r.bags a hb
    exact ⟨z1, z2, x, y, z, by rw [upd_ne (nb a hb)]; exact z3, z4⟩
  · have q := r.sl j s u e1 e2
    cases s with
    | un => trivial
    | dat d => exact q
    | own es =>
      obtain ⟨q', xs, e, z1, z⟩ := q
      have ne : q' ≠ p := fun z => by
        subst z e
        exact h4 j _ e1 rfl e2
      exact ⟨q', xs, e, by rw [upd_ne ne]; exact z1, z⟩
    | bag n =>
      obtain ⟨q', e, z1, z2, x, y, z, z3, z4⟩ := q
      have ne : q' ≠ p := fun z => by
        subst z e
        exact h4 j _ e1 rfl e2
      exact ⟨q', e, z1, z2, x, y, z, by rw [upd_ne ne]; exact z3, z4⟩
    | slf C ns es =>
      obtain ⟨q', dx, xs, e, z1, z⟩ := q
      have ne : q' ≠ p := fun z => by
        subst z e
        exact h4 j _ e1 rfl e2
      exact ⟨q', dx, xs, e, by rw [upd_ne ne]; exact z1, z⟩
    | exc x => exact q
    | dct d =>
      obtain ⟨q', e, z1, z2, z⟩ := q
      have ne : q' ≠ p := fun z => by
        subst z e
        exact h4 j _ e1 rfl e2
      exact ⟨q', e, z1, z2, z.mono (Sub.refl P) fun o ho => by rw [upd_ne ne]; exact ho⟩
  · rcases List.mem_cons.mp hq with z | z
    · cases z
      exact ⟨upd_same, h2, h3, h4⟩
    · obtain ⟨z1, z2⟩ := r.kept q us (List.mem_cons_of_mem _ z)
      exact ⟨by rw [upd_ne (hk q us z)]; exact z1, z2⟩

/-! ### [e for t in xs if c] -/
def goLc (dg : Dg) (dt : Dt) (fe : De) (vs : List Nat) (Q : List D → Sv → Prop) : List D → Sv → List D → Prop
  | [], sv, acc => Q acc sv
  | d :: ds, sv, acc => dg d sv fun sv1 => dt sv1 (fun b sv2 => if b = true then fe sv2 (fun z sv3 => acc.length < 100000 ∧ goLc dg dt fe vs Q ds (unAt sv3 vs) (acc ++ [z])) (fun _ _ => False) else goLc dg dt fe vs Q ds (unAt sv2 vs) acc) fun _ _ => False
@[simp] def dLc (f : Dl) (dg : Dg) (dt : Dt) (fe : De) (vs : List Nat) : Dl := fun sv Q E => f sv (fun ds sv1 => goLc dg dt fe vs Q ds (unAt sv1 vs) []) E
theorem NewL.congr {K : PySem.W.Frag} {F : Fr} {P H : Hp} {σ σ' : L2.St} {sv : Sv} {p : Addr} {ds : List D} (n : NewL K F P H σ sv p ds) (h : ∀ (i : Nat) (s : Sl), sv[i]? = some s → s ≠ .un → σ'[i]? = σ[i]?) : NewL K F P H σ' sv p ds := by
  obtain ⟨vs, h1, h2, h3, h4, h5, h6⟩ := n
  refine ⟨vs, h1, h2, h3, h4, fun i s e a => ?_, h6⟩
  rw [h i s e fun z => by
    subst z
    cases a]
  exact h5 i s e a
theorem snd_lc {K : PySem.W.Frag} {W : Wz} {wi : TI} {g : TG} {tt : TT} {te : TE} {vs : List Nat} {f : Dl} {dg : Dg} {dt : Dt} {fe : De} (h1 : SndI K W wi f) (h2 : SndGw vs K g dg) (h3 : SndT K (wNo W.z) tt dt) (h4 : SndE K (wNo W.z) te fe) : SndL K W (tLc wi g tt te vs) (dLc f dg dt fe vs) := fun F P H σ sv Q E R r k kx q =>
  h1 F P H σ sv _ E _ r (fun J H1 P1 ds sv1 r1 t1 w q1 D hD => by
    have n0 := r1.newL hD (ds := []) (vs := []) rfl
    have hk : ∀ q us, (q, us) ∈ F.Kp → q ≠ D := n0.choose_spec.2.2.2.2.2
    have rl := r1.layH (o := .lst []) hD
    obtain ⟨ws, rw0, ra⟩ := rl.aside n0
    have ew : ws = [] := rw0
    subst ew
    have rw1 := ra.wipe vs
    refine ⟨fun i m H2 => m = ds.length - i ∧ i ≤ ds.length ∧ ∃ P2 sv2 acc us, Rel K ((F.at W.z).keep D us) P2 H2 (L2.wipe σ vs) sv2 ∧ Sub P1 P2 ∧ (∀ (i : Nat) (s : Sl), i ∈ vs → sv2[i]? = some s → s = .un) ∧ RpL K P2 acc us ∧ goLc dg dt fe vs Q (ds.drop i) sv2 acc,
      ⟨_, rfl, Nat.zero_le _, P1, _, [], [], rw1, Sub.refl P1, fun i s hi e => unAt_un hi e, rfl, q1⟩, ?_⟩
    rintro i m H2 ⟨rfl, hi, P2, sv2, acc, us, r2, s2, hu, ru, q2⟩
    by_cases hlt : i < ds.length
    · obtain ⟨g1, g2⟩ := w.go i H2 P2 s2 r2.sub hlt
      refine .inr ⟨g1, fun H' => ∃ P3 sv3 acc3 us3, Rel K ((F.at W.z).keep D us3) P3 H' (L2.wipe σ vs) sv3 ∧ Sub P1 P3 ∧ (∀ (i : Nat) (s : Sl), i ∈ vs → sv3[i]? = some s → s = .un) ∧ RpL K P3 acc3 us3 ∧ goLc dg dt fe vs Q (ds.drop (i + 1)) sv3 acc3, fun H' z => ⟨ds.length - (i + 1), by omega, rfl, hlt, z⟩, fun x H' y => ?_⟩
      obtain ⟨P2', n1, n2, n3, n4, d, ed, rx⟩ := g2 x H' y
      replace r2 := Rel.grow r2 n1 n2 n3 n4
      replace s2 := s2.trans n1
      replace ru := RpL.mono n1 _ _ ru
      have el : ds.drop i = d :: ds.drop (i + 1) := by
        rw [List.drop_eq_getElem_cons hlt]
        have : ds[i] = d := by
          have := List.getElem?_eq_getElem hlt
          rw [this] at ed
          exact Option.some.inj ed
        rw [this]
      rw [el] at q2
      refine h2 _ P2' _ _ sv2 d x _ _ r2 rx (fun σ3 sv3 e3 r3 q3 => ⟨e3.trans wipe_wipe, ?_⟩) q2
      have e3' : L2.wipe σ3 vs = L2.wipe σ vs := e3.trans wipe_wipe
      refine h3 (F.keep D us) P2' _ σ3 sv3 _ _ _ r3 (fun b H4 P4 sv4 r4 t4 q4 => ?_) (fun _ _ _ _ _ _ _ _ z => z) q3
      cases b with
      | true =>
        rw [if_pos rfl] at q4
        refine h4 (F.keep D us) P4 H4 σ3 sv4 _ _ _ r4 (fun y H5 P5 z sv5 r5 t5 rz q5 => ?_) (fun _ _ _ _ _ _ _ _ z => z) q4
        obtain ⟨hl, q5⟩ := q5
        obtain ⟨k1, k2, k3, k4⟩ := r5.kept D ⟨.lst us, fun _ z => by cases z⟩ List.mem_cons_self
        refine ⟨us, k1, Nat.lt_of_lt_of_le (by rw [ru.length]; exact hl) (by decide), P5, unAt sv5 vs, acc ++ [z], us ++ [y], ?_, s2.trans (t4.trans t5), fun i s hi e => unAt_un hi e, (RpL.mono (t4.trans t5) _ _ ru).append ⟨y, [], rfl, rz, rfl⟩, q5⟩
        have := (Rel.keepTo (F := F.at W.z) (ws := us ++ [y]) r5 hk).wipe vs
        rw [e3'] at this
        exact this
      | false =>
        have q4 : goLc dg dt fe vs Q (ds.drop (i + 1)) (unAt sv4 vs) acc := q4
        have := (show Rel K ((F.at W.z).keep D us) P4 H4 σ3 sv4 from r4).wipe vs
        rw [e3'] at this
        exact ⟨P4, unAt sv4 vs, acc, us, this, s2.trans t4, fun i s hi e => unAt_un hi e, RpL.mono t4 _ _ ru, q4⟩
    · have e : i = ds.length := by omega
      subst e
      rw [List.drop_length] at q2
      refine .inl ⟨w.stop _ H2 P2 s2 r2.sub (Nat.le_refl _), ?_⟩
      have n2 := r2.taken (Sub.refl P2) ru hk
      exact k D H2 P2 acc sv2 ((Rel.back (F := F.at W.z) r2).unwipe hu) (t1.trans s2) (n2.congr fun i s e ne => by rw [wipe_get, if_neg fun hi => ne (hu i s hi e)]) q2) kx q
section
variable {X : Cx} {W : Wz} {pos : Pos}
abbrev BI := Shared × Hp × Addr × List (Str × Addr) × List Addr
abbrev Cx.b (X : Cx) (scope : Scope) (i : BI) : Cx := L2.Cx.blk X i.1 i.2.1 scope (compEnvC scope i.2.2.2.1 i.2.2.1 X.env) i.2.2.2.2
theorem pdl_lc {elt tg iter : Expr} {ifs : List Expr} {scope : Scope} {own : List (Str × Nat)} {f : Dl} {dg : Dg} {dt : Dt} {fe : De} (hc : X.calm = true) (hN : X.N.Nodup) (ok : BlkOk X.N X.env.scope scope own) (hi : PDI X W tg iter f)
    (hg : ∀ i : BI, PDGw (Cx.b X scope i) (own.map (·.2)) tg dg) (ht : ∀ i : BI, PDTs (Cx.b X scope i) (wNo W.z) ifs dt) (he : ∀ i : BI, PD (Cx.b X scope i) (wNo W.z) elt fe) (hs : ∀ x, foldedSetIterable iter X.env x = pure x := by intro _; rfl) :
    PDL X W (.ListComp elt [⟨tg, iter, ifs, 0⟩] scope pos) (dLc f dg dt fe (own.map (·.2))) := by
  obtain ⟨wi, p1, s1⟩ := hi
  obtain ⟨g, p2, s2⟩ := fam_gw (X := fun i => Cx.b X scope i) (fun _ => rfl) hg
  obtain ⟨tt, p3, s3⟩ := fam_ts (X := fun i => Cx.b X scope i) (fun _ => rfl) ht
  obtain ⟨te, p4, s4⟩ := fam_e (X := fun i => Cx.b X scope i) (fun _ => rfl) he
  exact ⟨_, pe_lc hc hN p1 ok (fun s H C cl fp => p2 (s, H, C, cl, fp)) (fun s H C cl fp => p3 (s, H, C, cl, fp)) (fun s H C cl fp => p4 (s, H, C, cl, fp)) hs, snd_lc s1 s2 s3 s4⟩
theorem takes_no {z : Ez} : Takes X (wNo z).w := fun u s' ⟨a, B, sI, pins, σ, H, cls, d, e, I, nb, up, sky, na, os, ag, w⟩ => w.elim
end
end Pd
end
section
set_option autoImplicit false
set_option Elab.async false
set_option linter.all false
set_option autoImplicit false
set_option maxRecDepth 100000
set_option maxHeartbeats 4000000
/-! Pd12: making instances: what __init__ is called with. -/
namespace Pd
open PySem PySem.Spec PyProof.Rows L2

/-- names are looked up in D one behind another, then r -/
def KwTo {α : Type} (D : Addr) : List (Str × Value) → Sem α → Sem α → Prop
  | [], t, r => t = r
  | q :: l, t, r => ∃ (β γ : Type) (k1 : Option Value → Sem β) (k2 : β → Sem γ) (k3 : γ → Sem α) (a : β), t = ((nsGet D q.1 >>= k1) >>= k2) >>= k3 ∧ k1 (some q.2) = pure a ∧ KwTo D l (k2 a >>= k3) r
theorem KwTo.wp {α : Type} {K : PySem.W.Frag} {M : Model} {A : Around} {D : Addr} {Q : α → Shared → Prop} {Ex : Value → Shared → Prop} {s : Shared} (X : K.In s.heap) : ∀ {l : List (Str × Value)} {t r : Sem α}, (∀ q ∈ l, PySem.W.nsIn K D q.1 = some (some q.2)) → KwTo D l t r → wpAny M A r Q Ex s → wpAny M A t Q Ex s
  | [], t, r, _, e, h => by
    have e : t = r := e
    rw [e]
    exact h
  | q :: l, t, r, hl, e, h => by
    obtain ⟨β, γ, k1, k2, k3, a, e1, e2, e3⟩ := e
    have l1 : PySem.W.Looks M s.heap (nsGet D q.1 >>= k1) a := (PySem.W.looks_nsIn X (hl q List.mem_cons_self)).andThen (PySem.W.Looks.of_pure e2)
    rw [e1, bind_assoc]
    exact wpAny_bind (l1.here (KwTo.wp X (fun p hp => hl p (List.mem_cons_of_mem _ hp)) e3 h))
/-- an __init__ (or another def) that is called with keywords ks -/
def FnI (P : Program) (w : World) (K : PySem.W.Frag) (mg : Str → Option Value) (base : Heap) (k : Nat) (f : Addr) (ks : List Str) (sp : List V → List V → Hp → VK → XK → Prop) : Prop :=
  ∀ (A : Around) (outer : List Env) (s : Shared) (H : Hp) (us ws : List Value) (vs zs : List V) (Q : VK) (E : XK), Room k A → A.guards = some [] → Env0 P w K mg base A outer s H → Vals vs us → Vals zs ws → zs.length = ks.length → sp vs zs H Q E →
    codeAny (model P w) A (.call (.ref f) ⟨us, ks.zip ws⟩) (CR (L2.CX P w) outer P w H s Q E) s
section
variable {P : Program} {w : World} {K : PySem.W.Frag} {mg : Str → Option Value} {base : Heap} {x qual : Str} {params : Arguments} {body : List Stmt} {scope : Scope} {kws : List (Str × V)} {f : Addr} {fd : FuncData}
/-- def f(a, .., *v, k = .., ..), called with more values than stand ahead of the star, and with the keywords ks; lack: the keyword-only ones that are not written -/
theorem init_star {N ps ks : List Str} {pv : Str} {m k : Nat} {lack : List (Str × V)} {sp : Sp} (g : {α : Type} → List α → List α → List α → List α) (F : FunD K x qual params body scope [] kws f fd) (S : FnScope N (ps ++ [pv]) scope) (hl : ∀ q ∈ lack, q ∈ kws)
    (hrel : ∀ {vs mz zs : List V} {us mv ws : List Value}, Vals vs us → Vals mz mv → Vals zs ws → Vals (g vs mz zs) (g us mv ws)) (hlen : ∀ {us mv ws : List V}, us.length = m → mv.length = lack.length → ws.length = ks.length → (g us mv ws).length = ps.length)
    (hb : ∀ (kV : Value) (D : Addr) (doc pm : Value) (an : Option Addr) (cdv ct : Value) (us rest mv ws : List Value), (lack = [] ∨ kV = .ref D) → us.length = m → mv.length = lack.length → ws.length = ks.length →
      KwTo D ((lack.map (·.1)).zip mv) (bindArgs (PySem.W.fnOf x qual params body scope .none kV doc pm an cdv ct) ⟨us ++ rest, ks.zip ws⟩) (newTuple rest >>= fun t => pure (ps.zip (g us mv ws) ++ [(pv, t)])))
    (hbody : ∀ (cdv : Value) (A : Around) (outer : List Env) (s : Shared) (H : Hp) (vs : List V) (Q : VK) (E : XK), Room k (A.deeper (envOfC qual scope s.heap.objs.size f cdv)) → A.guards = some [] → sp vs H Q E →
      ∃ t, PSs (cxOf (L2.CX P w) P w K mg base N qual scope f cdv A outer s H E) body t ∧ t { nx := fun _ H' => Q .non H', rt := Q } (L2.start N vs) H) :
    FnI P w K mg base (k + 1) f ks fun vs zs H Q E => ∃ ws rest, vs = ws ++ rest ∧ ws.length = m ∧ rest.length ≤ sizeLine ∧ ∀ p, H p = none → sp (g ws (lack.map (·.2)) zs ++ [V.ref p]) (upd H p (.tup rest)) Q E := by
  obtain ⟨oc, od, dV, kV, doc, pm, an, cdv, ct, osl, rfl, lk, hcd, hD, hK⟩ := F.ex
  rcases hD with ⟨_, rfl⟩ | ⟨e, _⟩
  · have hm : ∃ (D : Addr) (mv : List Value), (lack = [] ∨ kV = .ref D) ∧ mv.length = lack.length ∧ Vals (lack.map (·.2)) mv ∧ ∀ q ∈ (lack.map (·.1)).zip mv, PySem.W.nsIn K D q.1 = some (some q.2) := by
      cases lack with
      | nil => exact ⟨0, [], .inl rfl, rfl, .nil, fun q hq => by cases hq⟩
      | cons q0 l =>
        rcases hK with e | ⟨D, rfl, hq⟩
        · have := hl q0 List.mem_cons_self
          rw [e] at this
          cases this
        · obtain ⟨mv, h1, h2, h3⟩ := kwd_vals (ms := q0 :: l) fun q hm => hq q (hl q hm)
          exact ⟨D, mv, .inr rfl, h1, h2, h3⟩
    obtain ⟨D, mv, hkV, lm, rm, hmv⟩ := hm
    intro A outer s H us ws vs zs Q E hr hG e0 r rz lz hsp
    obtain ⟨w1, rest, rfl, l1, hz, hq⟩ := hsp
    obtain ⟨u1, u2, rfl, r1, r2⟩ := StX.vals_split r
    have KX : K.In s.heap := e0.mod.kin.keeps fun b o e => (e0.bs b o e).1
    have hn : H s.heap.objs.size = none := e0.hok.fresh (Nat.le_refl _)
    have rg : Vals (g w1 (lack.map (·.2)) zs) (g u1 mv ws) := hrel r1 rm rz
    have lg : (g w1 (lack.map (·.2)) zs).length = ps.length := hlen l1 (by rw [List.length_map]) lz
    refine StX.run_bnd (G := fun xs H2 => ∃ p, H p = none ∧ xs = g w1 (lack.map (·.2)) zs ++ [V.ref p] ∧ H2 = upd H p (.tup rest)) lk hcd S hr e0 (fun A' Ex Q' h => ?_) fun s2 H2 xs ⟨p, hp, ex, eH⟩ hr' => ?_
    · refine KwTo.wp KX hmv (hb kV D doc pm an cdv ct u1 u2 mv ws hkV (r1.length.symm.trans l1) lm (rz.length.symm.trans lz)) ?_
      have hl2 : u2.length ≤ sizeLine := by rw [← r2.length]; exact hz
      refine wpAny_bind (wpAny_newTuple (wpAny_pure ?_) hl2)
      have new : ObjOk P w (upd H s.heap.objs.size (.tup rest)) (s.heap.push ({ cls := .type "tuple", data := .seq u2.toArray } : Obj)) s.heap.objs.size (.tup rest) := ⟨hz, u2, r2, ⟨_, Heap.get?_push_size _ rfl, rfl, _, rfl⟩⟩
      have un := StX.un_laid (fs := frs outer) (s := s) (o := ({ cls := .type "tuple", data := .seq u2.toArray } : Obj)) (u := .tup rest) hn
      have z := h _ _ (g w1 (lack.map (·.2)) zs ++ [V.ref s.heap.objs.size]) (g u1 mv ws ++ [Value.ref s.heap.objs.size]) (StX.env0_laid e0 new) un rfl (fun e s' => StX.cxUp outer s H _ _ E e s' un (fun b o q => Heap.get?_push_of_some _ q) rfl) (rg.append (.cons rfl .nil))
        (by rw [List.length_append, List.length_append, lg]; rfl) ⟨_, hn, rfl, rfl⟩
      rw [List.zip_append (by rw [← rg.length, lg])] at z
      exact z
    · subst ex eH
      exact hbody cdv A outer s2 _ _ Q E hr' hG (hq p hp)
  · exact absurd rfl e
end
end Pd
end
section
set_option autoImplicit false
set_option Elab.async false
set_option linter.all false
set_option autoImplicit false
set_option maxRecDepth 100000
set_option maxHeartbeats 4000000
/-! Pd13: making instances over data. -/
namespace Pd
section
open PySem PySem.W PySem.Spec PySem.Calls PyProof.Rows
variable {M : Model} {A : Around} {E : Value → Shared → Prop} {s : Shared} {K : Frag} {env : Env} {pos : Pos} {f : Value} {first : List Value} {Q : Value → Shared → Prop} {e : Expr} {rest : List Expr} {kws : List Keyword}
/-- a call with a star among its arguments, keywords behind it or not -/
theorem call_starred {P : Heap → Prop} {args : List (Bool × Sem Value)} {keywords : List (Option Str × Sem Value)} (hst : (args.any (·.1) || keywords.any (·.1.isNone)) = true)
    (hk : ∀ h, P h → ∃ k, (k = Keeper.frame ∨ k = Keeper.machine ∨ k = Keeper.boundFrame) ∧ Looks M h (keeperOf f) k)
    (h : wpAny M A (evalArgs f true args keywords) (fun a s₁ => P s₁.heap ∧ wpAny M A (call f (first ++ a.pos) a.kw) Q E s₁) E s) : wpAny M A (callWith pos f first args keywords) Q E s := by
  have close : ∀ {t : Sem Value} {s₂ : Shared}, wpAny M A t Q E s₂ → wpAny M A (t >>= fun r => holding [r] point >>= fun _ => pure r) Q E s₂ :=
    fun ht => wpAny_bind (wpAny_mono ht (fun r _ hr => wpAny_bind (wpAny_holding (wpAny_point (wpAny_pure hr)))) fun _ _ x => x)
  unfold callWith
  refine wpAny_bind (wpAny_holding (wpAny_mono h (fun a s₂ hx => wpAny_bind (wpAny_standAt ?_)) fun _ _ x => x))
  obtain ⟨k, cases3, look⟩ := hk _ hx.1
  simp only [hst]
  refine wpAny_bind (look.here ?_)
  have mk : ∀ m : Value, wpAny M A (callMarked m f (first ++ a.pos) a.kw) Q E s₂ := fun m => by
    unfold callMarked
    exact Calls.wpAny_keep hx.2
  rcases cases3 with rfl | rfl | rfl <;> dsimp only <;> first | exact close (mk _) | exact close (wpAny_operating hx.2)
theorem callWith_SK (hk : keepIn K f = true) (hall : (backToKw pos (keywordEach kws env)).all (·.1.isSome) = true)
    (h : wpAny M A (spliced (backTo pos (starEach (e :: rest) env))) (fun vs s₁ => wpAny M A (evalAll ((backToKw pos (keywordEach kws env)).map (·.2)))
      (fun ks s₂ => K.In s₂.heap ∧ wpAny M A (call f (first ++ vs) (((backToKw pos (keywordEach kws env)).filterMap (·.1)).zip ks)) Q E s₂) E s₁) E s)
    (he : starEach (e :: rest) env = (false, eval e env) :: starEach rest env) (hst : ((backTo pos (starEach (e :: rest) env)).any (·.1) || (backToKw pos (keywordEach kws env)).any (·.1.isNone)) = true) :
    wpAny M A (callWith pos f first (backTo pos (starEach (e :: rest) env)) (backToKw pos (keywordEach kws env))) Q E s :=
  call_starred hst (keeps_K hk) (evalArgs_kw2 hall h he)
end
open PySem PySem.Spec PyProof.Rows L2

/-! ### the call of a class -/
def tMakeI (C : Addr) (m : Nat) (sp : List V → List V → Hp → VK → XK → Prop) (W : WX) (t tk : TA) : TE := fun σ H Q => t σ H fun vs H1 => tk σ H1 fun zs H2 => zs.length = m ∧ ∀ x dx, H2 x = none → H2 dx = none → dx ≠ x →
  sp (.ref x :: vs) zs (upd (upd H2 dx (.own x)) x (.ins C dx [])) (fun v H3 => v = .non ∧ Q (.ref x) H3) fun cls dd H3 => W cls dd σ H3
section
variable {X : Cx} {W : WX} {k : Nat} {f C : Addr} {ks : List Str} {sp : List V → List V → Hp → VK → XK → Prop} {x : Str} {p pos : Pos} {e : Expr} {es : List Expr} {kws : List Keyword} {t tk : TA}
theorem run_makeI {pins : List (Addr × Obj)} {σ : L2.St} {H : Hp} {s : Shared} {Q : VK} {us ws : List Value} {vs zs : List V} (M : Mk X.K C f) (F : FnI X.prog X.w X.K X.mg X.base k f ks sp) (hr : Room (k + 1) X.A) (hG : X.A.guards = some []) (tk : Takes X W) (I : Inv X pins σ H s) (r : Vals vs us) (rz : Vals zs ws) (lz : zs.length = ks.length)
    (h : ∀ x dx, H x = none → H dx = none → dx ≠ x → sp (.ref x :: vs) zs (upd (upd H dx (.own x)) x (.ins C dx [])) (fun v H2 => v = .non ∧ Q (.ref x) H2) fun cls dd H2 => W cls dd σ H2) : wpAny (model X.prog X.w) X.A (call (.ref C) us (ks.zip ws)) (EP X pins σ Q) X.xe s := by
  have q0 := h (s.heap.objs.size + 1) s.heap.objs.size (I.hok.fresh (Nat.le_succ _)) (I.hok.fresh (Nat.le_refl _)) (Nat.ne_of_lt (Nat.lt_succ_self _))
  have I2 := Inv.made (C := C) I
  have r1 : Vals (V.ref (s.heap.objs.size + 1) :: vs) (Value.ref (s.heap.objs.size + 1) :: us) := .cons rfl r
  have run := F _ X.stack _ _ (Value.ref (s.heap.objs.size + 1) :: us) ws _ _ _ _ (hr.make C us (ks.zip ws)) hG (I2.env0.make C us (ks.zip ws)) r1 rz lz q0
  refine wpAny_call (make_map (f := f) I.kIn M.makes M.init (beq_iff_eq.mp M.fn) (codeAny_mono run fun r s' hq => ?_))
  cases r with
  | error er => exact tk er s' (XE.of_call I2 (fun _ _ _ z => z) hq)
  | ok fl =>
    cases fl with
    | ret u =>
      obtain ⟨v, H', I3, rv, ev, q3⟩ := I2.after hq
      subst ev
      exact ⟨rv, .ref (s.heap.objs.size + 1), H', I3, rfl, q3⟩
    | next => exact hq.elim
    | brk => exact hq.elim
    | cont => exact hq.elim
/-- C(e, .., k = v, ..) -/
theorem pe_makeI (M : Mk X.K C f) (F : FnI X.prog X.w X.K X.mg X.base k f ks sp) (hr : Room (k + 1) X.A) (hG : X.A.guards = some []) (tk' : Takes X W) (hg : Gl X x) (hm : X.mg x = some (.ref C)) (ha : PA X (e :: es) t) (hkw : PK X kws tk)
    (hall : (backToKw pos (keywordEach kws X.env)).all (·.1.isSome) = true := by rfl) (hks : (backToKw pos (keywordEach kws X.env)).filterMap (·.1) = ks := by rfl) (hdb : (x == ("__debug__" : Str)) = false := by decide)
    (he : starEach (e :: es) X.env = (false, eval e X.env) :: starEach es X.env := by rfl) (hpl : ((backTo pos (starEach (e :: es) X.env)).any (·.1) || (backToKw pos (keywordEach kws X.env)).any (·.1.isNone)) = false := by rfl) :
    PE X (.Call (.Name x p) (e :: es) kws pos) (tMakeI C ks.length sp W t tk) := by
  refine ⟨fun pins s σ H Q I h => wpAny_Call_Name_kw (ld_glob I hg hm ?_ hdb)⟩
  refine PySem.W.callWith_KW (h₀ := X.base) I.ok.mod.kin M.kp hall (thn (ha.run pos pins s σ H _ I h) fun us s1 ⟨vs, H1, I1, r, q⟩ => thn (hkw.run pos pins s1 σ H1 _ I1 q) fun ws s2 ⟨zs, H2, I2, rz, lz, q2⟩ => ⟨I2.kIn, ?_⟩) hpl he
  rw [hks]
  exact run_makeI M F hr hG tk' I2 r rz lz q2
/-- C(e, .., *y, k = v, ..) -/
theorem pe_makeIS (M : Mk X.K C f) (F : FnI X.prog X.w X.K X.mg X.base k f ks sp) (hr : Room (k + 1) X.A) (hG : X.A.guards = some []) (tk' : Takes X W) (hg : Gl X x) (hm : X.mg x = some (.ref C)) (ha : PA X (e :: es) t) (hkw : PK X kws tk)
    (hall : (backToKw pos (keywordEach kws X.env)).all (·.1.isSome) = true := by rfl) (hks : (backToKw pos (keywordEach kws X.env)).filterMap (·.1) = ks := by rfl) (hdb : (x == ("__debug__" : Str)) = false := by decide)
    (he : starEach (e :: es) X.env = (false, eval e X.env) :: starEach es X.env := by rfl) (hpl : ((backTo pos (starEach (e :: es) X.env)).any (·.1) || (backToKw pos (keywordEach kws X.env)).any (·.1.isNone)) = true := by rfl) :
    PE X (.Call (.Name x p) (e :: es) kws pos) (tMakeI C ks.length sp W t tk) := by
  refine ⟨fun pins s σ H Q I h => wpAny_Call_Name_kw (ld_glob I hg hm ?_ hdb)⟩
  refine callWith_SK M.kp hall (thn (ha.run pos pins s σ H _ I h) fun us s1 ⟨vs, H1, I1, r, q⟩ => thn (hkw.run pos pins s1 σ H1 _ I1 q) fun ws s2 ⟨zs, H2, I2, rz, lz, q2⟩ => ⟨I2.kIn, ?_⟩) he hpl
  rw [hks]
  exact run_makeI M F hr hG tk' I2 r rz lz q2
end

/-! ### what __init__ is worth over data -/
/-- how the heap stands behind it -/
structure PostI (P H : Hp) (p : Addr) (P' H' : Hp) : Prop where
  sub : Sub P' H'
  grow : Sub P P'
  new : ∀ a o, P' a = some o → P a = some o ∨ NewAt H a o
  keep : ∀ a o, H a = some o → a ≠ p → H' a = some o
/-- what it is worth: the values (without self), what fields it may leave, what it may raise -/
abbrev Ci := List D → (List D → Prop) → (Xd → Prop) → Prop
def spI (K : PySem.W.Frag) (C : Addr) (n : Nat) (ns : List Str) (ci : Ci) : Sp := fun vs H Q E => ∃ (P : Hp) (p dx : Addr) (ws : List V) (ds : List D), vs = .ref p :: ws ∧ ds.length = n ∧ Sub P H ∧ P p = none ∧ H p = some (.ins C dx []) ∧ RpL K P ds ws ∧
  ci ds (fun fs => ∀ H' P' dx' us, PostI P H p P' H' → H' p = some (.ins C dx' (ns.zip us)) → us.length = ns.length → P' p = none → RpL K P' fs us → Q .non H') (fun x => ∀ cls dd H' P', PostI P H p P' H' → XdRel K P' H' x cls dd → E cls dd H')
@[simp] def svI (N : List Str) (C : Addr) (ds : List D) : Sv := .slf C [] [] :: (ds.map .dat ++ List.replicate (N.length - (ds.length + 1)) .un)
theorem rpl_get {K : PySem.W.Frag} {P : Hp} {ds : List D} {vs : List V} {i : Nat} {d : D} (r : RpL K P ds vs) (h : ds[i]? = some d) : ∃ v, vs[i]? = some v ∧ Rp K P d v := r.getD h
theorem relI {K : PySem.W.Frag} {P H : Hp} {p dx C : Addr} {ds : List D} {ws : List V} {N : List Str} (hN : ds.length + 1 ≤ N.length) (s : Sub P H) (hp : P p = none) (ho : H p = some (.ins C dx [])) (r : RpL K P ds ws) :
    Rel K ⟨H, P, fun _ => False, fun a => a = p, 0, [], none⟩ P H (L2.start N (.ref p :: ws)) (svI N C ds) := by
  have hl := r.length
  have cut : ∀ {i : Nat} {sl : Sl}, (svI N C ds)[i + 1]? = some sl → (∃ d, ds[i]? = some d ∧ sl = .dat d) ∨ sl = .un := fun {i sl} h => by
    have h : (ds.map Sl.dat ++ List.replicate (N.length - (ds.length + 1)) Sl.un)[i]? = some sl := h
    by_cases hi : i < ds.length
    · rw [List.getElem?_append_left (by simpa using hi), List.getElem?_map] at h
      cases e : ds[i]? with
      | none =>
        rw [e] at h
        cases h
      | some d =>
        rw [e] at h
        cases h
        exact .inl ⟨d, rfl, rfl⟩
    · rw [List.getElem?_append_right (by simpa using hi), List.getElem?_replicate] at h
      split at h
      · cases h
        exact .inr rfl
      · cases h
  refine ⟨by unfold svI L2.start; simp [hl], (by decide : (0 : Int) ≤ 2 ^ 39), s, Sub.refl P, fun a o e => .inl e, fun a o e _ _ => e, fun a z => ?_, fun a z => z.elim, fun i sl o e1 e2 => ?_, fun i j sl t o u q ne e1 e2 a1 a2 s1 s2 eo eu => ?_, fun q vs hq => absurd hq (by simp)⟩
  · subst z
    exact ⟨hp, ⟨_, ho⟩, C, dx, [], ho⟩
  · cases i with
    | zero =>
      cases e1
      rcases start_get e2 with ⟨v, ev, rfl⟩ | ⟨hi, _⟩
      · cases ev
        exact ⟨p, dx, [], rfl, ho, rfl, hp, rfl, rfl⟩
      · simp at hi
    | succ i =>
      rcases cut e1 with ⟨d, ed, rfl⟩ | rfl
      · obtain ⟨v, ev, z⟩ := rpl_get r ed
        rcases start_get e2 with ⟨v', ev', rfl⟩ | ⟨hi, rfl⟩
        · have ev' : ws[i]? = some v' := ev'
          rw [ev] at ev'
          cases ev'
          exact ⟨v, rfl, z⟩
        · have := (List.getElem?_eq_some_iff.mp ev).1
          simp at hi
          omega
      · trivial
  · have na : ∀ {i : Nat} {sl : Sl}, (svI N C ds)[i]? = some sl → sl.addr = true → i = 0 := fun {i sl} h a => by
      cases i with
      | zero => rfl
      | succ i =>
        rcases cut h with ⟨d, _, rfl⟩ | rfl <;> cases a
    exact ne ((na e1 a1).trans (na e2 a2).symm)
theorem postI {K : PySem.W.Frag} {P H P' H' : Hp} {p : Addr} {σ : L2.St} {sv : Sv} (r : Rel K ⟨H, P, fun _ => False, fun a => a = p, 0, [], none⟩ P' H' σ sv) : PostI P H p P' H' :=
  ⟨r.sub, r.p0, r.new, fun a o e n => r.ext a o e (fun z => z) n⟩
section
variable {P : Program} {w : World} {K : PySem.W.Frag} {mg : Str → Option Value} {base : Heap} {qual : Str} {scope : Scope} {body : List Stmt} {f : Addr}
/-- a body over data as __init__'s body -/
theorem init_body {N ps : List Str} {C : Addr} {n k : Nat} {ns : List Str} {ci : Ci} {fb : Ds} (hN : n + 1 ≤ N.length)
    (hbody : ∀ (cdv : Value) (A : Around) (outer : List Env) (s : Shared) (H : Hp) (E : XK), Room k (A.deeper (envOfC qual scope s.heap.objs.size f cdv)) → A.guards = some [] →
      Takes (cxOf (L2.CX P w) P w K mg base N qual scope f cdv A outer s H E) (wF E).w → PassesOwn (model P w) (A.deeper (envOfC qual scope s.heap.objs.size f cdv)) (envOfC qual scope s.heap.objs.size f cdv) (cxOf (L2.CX P w) P w K mg base N qual scope f cdv A outer s H E).xe →
      PDSs (cxOf (L2.CX P w) P w K mg base N qual scope f cdv A outer s H E) (wF E) body fb)
    (hc : ∀ ds Q E, ds.length = n → ci ds Q E → fb (svI N C ds) { nx := fun sv => ∃ fs, sv[0]? = some (.slf C ns fs) ∧ Q fs, rt := fun _ => False, ex := fun x _ => E x }) :
    ∀ (cdv : Value) (A : Around) (outer : List Env) (s : Shared) (H : Hp) (vs : List V) (Q : VK) (E : XK), Room k (A.deeper (envOfC qual scope s.heap.objs.size f cdv)) → A.guards = some [] → spI K C n ns ci vs H Q E →
      ∃ t, PSs (cxOf (L2.CX P w) P w K mg base N qual scope f cdv A outer s H E) body t ∧ t { nx := fun _ H' => Q .non H', rt := Q } (L2.start N vs) H := fun cdv A outer s H vs Q E hr hG hsp => by
  obtain ⟨P0, p, dx, ws, ds, rfl, hl, h1, h2, h3, h4, h5⟩ := hsp
  have tk : Takes (cxOf (L2.CX P w) P w K mg base N qual scope f cdv A outer s H E) (wF E).w := takes_of rfl rfl rfl rfl
  obtain ⟨t, ht, hs⟩ := hbody cdv A outer s H E hr hG tk PassesOwn.leaving
  refine ⟨t, ht, hs ⟨H, P0, fun _ => False, fun a => a = p, 0, [], none⟩ P0 H (L2.start N (.ref p :: ws)) (svI N C ds) _ _ (relI (by rw [hl]; exact hN) h1 h2 h3 h4) ⟨?_, ?_, ?_, ?_, ?_⟩ (hc ds _ _ hl h5)⟩
  · intro σ' H' P' sv' r _ q
    obtain ⟨fs, e, q⟩ := q
    obtain ⟨o, _, p', dx', us, _, z1, z2, z3, z4, z5⟩ := rel_get r e
    have z4 : p' = p := z4
    subst z4
    exact q H' P' dx' us (postI r) z1 z2 z3 z5
  · exact fun σ' H' P' sv' v d r rv q => q.elim
  · exact fun σ' H' P' sv' r _ q => q
  · exact fun σ' H' P' sv' r _ q => q
  · exact fun cls dd σ' H' P' x sv' r rx q => q cls dd H' P' (postI r) rx
end
end Pd
end
section
set_option autoImplicit false
set_option Elab.async false
set_option linter.all false
set_option autoImplicit false
set_option maxRecDepth 100000
set_option maxHeartbeats 4000000
/-! Pd14: an instance is made (the caller), its fields are set (its __init__). -/
namespace Pd
open PySem PySem.Spec PyProof.Rows L2

/-! ### self.f = e -/
theorem putF_new {f : Str} {y : V} : ∀ {ns : List Str} {vs : List V}, vs.length = ns.length → f ∉ ns → putF f y (ns.zip vs) = (ns ++ [f]).zip (vs ++ [y])
  | [], [], _, _ => rfl
  | n :: ns, v :: vs, h, hf => by
    have hne : n ≠ f := fun e => hf (by rw [e]; exact List.mem_cons_self)
    show (if n = f then (n, y) :: ns.zip vs else (n, v) :: putF f y (ns.zip vs)) = _
    rw [if_neg hne, putF_new (by simpa using h) fun z => hf (List.mem_cons_of_mem _ z)]
    rfl
theorem Rel.setSelf {K : PySem.W.Frag} {F : Fr} {P H : Hp} {σ : L2.St} {sv : Sv} {i : Nat} {C dx p : Addr} {ns ms : List Str} {xs ys : List D} {ws : List V} (r : Rel K F P H σ sv) (h : sv[i]? = some (.slf C ns xs)) (hp : σ[i]? = some (some (.ref p))) (hl : ws.length = ms.length) (rv : RpL K P ys ws) :
    Rel K F P (upd H p (.ins C dx (ms.zip ws))) σ (sv.set i (.slf C ms ys)) := by
  obtain ⟨o, ho, p', dx', vs, eo, h1, h2, h3, h4, h5⟩ := rel_get r h
  rw [hp] at ho
  cases ho
  cases eo
  have hi : i < sv.length := (List.getElem?_eq_some_iff.mp h).1
  have nb : ∀ a, F.B0 a → a ≠ p := fun a hb e => by
    obtain ⟨_, _, x, y, z, hd, _⟩ := r.bags a hb
    rw [e, h1] at hd
    cases hd
  refine ⟨by rw [List.length_set]; exact r.len, r.lim, fun a u e => ?_, r.p0, r.new, fun a u e n1 n2 => ?_, fun a hs => ?_, fun a hb => ?_, fun j s u e1 e2 => ?_, fun j k s t u w q ne e1 e2 a1 a2 s1 s2 eu ew => ?_, fun q us hq => ?_⟩
  · have ne : a ≠ p := fun z => by
      rw [z, h3] at e
      cases e
    rw [upd_ne ne]
    exact r.sub a u e
  · have ne : a ≠ p := fun z => n2 (by rw [z]; exact h4)
    rw [upd_ne ne]
    exact r.ext a u e n1 n2
  · obtain ⟨z1, z2, C', d', fs, z3⟩ := r.selfs a hs
    refine ⟨z1, z2, ?_⟩
    by_cases ha : a = p
    · exact ⟨C, dx, _, by rw [ha, upd_same]⟩
    · exact ⟨C', d', fs, by rw [upd_ne ha]; exact z3⟩
  · obtain ⟨z1, z2, x, y, z, z3, z4⟩ := r.bags a hb
    exact ⟨z1, z2, x, y, z, by rw [upd_ne (nb a hb)]; exact z3, z4⟩
  · by_cases hj : j = i
    · subst hj
      rw [List.getElem?_set_self hi] at e1
      cases e1
      rw [hp] at e2
      cases e2
      exact ⟨p, dx, ws, rfl, upd_same, hl, h3, h4, rv⟩
    · rw [List.getElem?_set_ne (Ne.symm hj)] at e1
      have apart : ∀ {q : Addr}, s.addr = true → u = some (.ref q) → q ≠ p := fun {q} as eu z => by
        subst z eu
        exact r.apart j i _ _ _ _ q hj e1 h as rfl e2 hp rfl rfl
      have q := r.sl j s u e1 e2
      cases s with
      | un => trivial
      | dat d => exact q
      | own es =>
        obtain ⟨q', xs, e, z1, z⟩ := q
        exact ⟨q', xs, e, by rw [upd_ne (apart rfl e)]; exact z1, z⟩
      | bag n =>
        obtain ⟨q', e, z1, z2, x, y, z, z3, z4⟩ := q
        exact ⟨q', e, z1, z2, x, y, z, by rw [upd_ne (apart rfl e)]; exact z3, z4⟩
      | slf C ns es =>
        obtain ⟨q', dx, xs, e, z1, z⟩ := q
        exact ⟨q', dx, xs, e, by rw [upd_ne (apart rfl e)]; exact z1, z⟩
      | exc x => exact q
      | dct d =>
        obtain ⟨q', e, z1, z2, z⟩ := q
        exact ⟨q', e, z1, z2, z.mono (Sub.refl P) fun o ho => by rw [upd_ne (apart rfl e)]; exact ho⟩
  · have back : ∀ {m : Nat} {z : Sl}, (sv.set i (.slf C ms ys))[m]? = some z → z.addr = true → ∃ z', sv[m]? = some z' ∧ z'.addr = true := fun {m z} em az => by
      by_cases hm : m = i
      · subst hm
        exact ⟨_, h, rfl⟩
      · rw [List.getElem?_set_ne (Ne.symm hm)] at em
        exact ⟨z, em, az⟩
    obtain ⟨s', b1, c1⟩ := back e1 a1
    obtain ⟨t', b2, c2⟩ := back e2 a2
    exact r.apart j k s' t' u w q ne b1 b2 c1 c2 s1 s2 eu ew
  · obtain ⟨z1, z2, z3, z4⟩ := r.kept q us hq
    have ne : q ≠ p := fun z => by
      subst z
      exact z4 i _ h rfl hp
    refine ⟨by rw [upd_ne ne]; exact z1, z2, z3, fun m s e1 a1 => ?_⟩
    by_cases hm : m = i
    · subst hm
      exact z4 m _ h rfl
    · rw [List.getElem?_set_ne (Ne.symm hm)] at e1
      exact z4 m s e1 a1
section
variable {X : Cx} {W : Wz} {pos p p2 : Pos}
/-- self.f = e, self in slot i -/
@[simp] def dSelf (K : PySem.W.Frag) (i : Nat) (f : Str) (fe : De) : Ds := fun sv D => fe sv (fun d sv1 => ∃ C ns xs, sv1[i]? = some (.slf C ns xs) ∧ OkF K C f ∧ f ∉ ns ∧ ns.length < 900 ∧ D.nx (sv1.set i (.slf C (ns ++ [f]) (xs ++ [d])))) D.ex
theorem pds_self {i : Nat} {x f : Str} {e : Expr} {fe : De} (hN : X.N[i]? = some x) (hv : Vis X.env.scope x) (he : PD X W e fe) (hd : (x == ("__debug__" : Str)) = false := by decide) (hcd : (x == ("__classdict__" : Str)) = false := by decide)
    (hs : swapsWith e (some (.Attribute (.Name x p2) f p)) pos.line X.env = pure false := by rfl) : PDS X W (.Assign [.Attribute (.Name x p2) f p] e pos) (dSelf X.K i f fe) := by
  obtain ⟨t, p1, s1⟩ := he
  refine ⟨_, ps_fld (pe_var hN hv hd hcd) p1 hs, fun F P H σ sv D Dd r l q => ?_⟩
  refine s1 F P H σ sv _ _ _ r (fun v H1 P1 d sv1 r1 t1 rv q1 => ?_) (fun cls dd H1 P1 x sv1 r1 rx q1 => l.ex cls dd σ H1 P1 x sv1 r1 rx q1) q
  obtain ⟨C, ns, xs, e1, ⟨c, n⟩, hf, hl, q1⟩ := q1
  obtain ⟨o, ho, p', dx, vs, rfl, z1, z2, z3, z4, z5⟩ := rel_get r1 e1
  refine ⟨_, ho, p', C, dx, _, rfl, z1, c, n, by rw [List.length_zip, z2]; omega, ?_⟩
  rw [putF_new z2 hf]
  exact l.nx σ _ P1 _ (r1.setSelf e1 ho (by simp [z2]) (z5.append (show RpL X.K P1 [d] [v] from ⟨v, [], rfl, rv, rfl⟩))) t1 q1
/-- self.f -/
@[simp] def dSelfF (K : PySem.W.Frag) (i : Nat) (f : Str) : De := fun sv Q _ => ∃ C ns xs z, sv[i]? = some (.slf C ns xs) ∧ OkF K C f ∧ (ns.zip xs).lookup f = some z ∧ Q z sv
theorem pd_selfF {i : Nat} {x f : Str} (hN : X.N[i]? = some x) (hv : Vis X.env.scope x) (hd : (x == ("__debug__" : Str)) = false := by decide) (hcd : (x == ("__classdict__" : Str)) = false := by decide)
    (hb : attributeBase (.Name x p2) f X.env (eval (.Name x p2) X.env) = eval (.Name x p2) X.env := by rfl) : PD X W (.Attribute (.Name x p2) f pos) (dSelfF X.K i f) :=
  ⟨_, pe_fld (pe_var hN hv hd hcd) hb, fun F P H σ sv Q E R r k kx q => by
    obtain ⟨C, ns, xs, z, e1, ⟨c, n⟩, ez, q⟩ := q
    obtain ⟨o, ho, p', dx, vs, rfl, z1, z2, z3, z4, z5⟩ := rel_get r e1
    obtain ⟨w, ew, rw⟩ := lookup_zip z5 ez
    exact ⟨_, ho, p', C, dx, _, w, rfl, z1, c, n, ew, k w H P z sv r (Sub.refl P) rw q⟩⟩

/-! ### C(e, .., *y, k = v, ..) -/
/-- keywords' values -/
def PDK (X : Cx) (W : Wz) (kws : List Keyword) (f : Da) : Prop := ∃ t, PK X kws t ∧ SndA X.K W t f
theorem pdk_nil : PDK X W [] dNil := ⟨_, pk_nil, fun F P H σ sv Q E R r k _ q => k [] H P [] sv r (Sub.refl P) rfl q⟩
theorem pdk_cons {nm : Option Str} {e : Expr} {kpos : Pos} {kws : List Keyword} {f : De} {g : Da} (h1 : PD X W e f) (h2 : PDK X W kws g) : PDK X W (⟨nm, e, kpos⟩ :: kws) (dCons f g) := by
  obtain ⟨te, p1, s1⟩ := h1
  obtain ⟨ta, p2, s2⟩ := h2
  exact ⟨_, pk_cons p1 p2, snd_cons s1 s2⟩
/-- *y among arguments -/
@[simp] def dStar (f : De) (g : Da) : Da := fun sv Q E => f sv (fun d sv1 => ∃ xs, (d = .tup xs ∨ d = .lst xs) ∧ g sv1 (fun as sv2 => Q (xs.map .dat ++ as) sv2) E) E
theorem ars_dat {K : PySem.W.Frag} {P : Hp} {σ : L2.St} {as : List Ar} {us : List V} (h : ArsRel K P σ as us) : ∀ {xs : List D} {vs : List V}, RpL K P xs vs → ArsRel K P σ (xs.map .dat ++ as) (vs ++ us)
  | [], _, e => by
    cases e
    exact h
  | x :: xs, _, e => by
    obtain ⟨v, r, rfl, h1, h2⟩ := e
    exact ⟨v, _, rfl, h1, ars_dat h h2⟩
theorem pda_star {e : Expr} {es : List Expr} {f : De} {g : Da} (h1 : PD X W e f) (h2 : PDA X W es g) (hs : starEach (.Starred e p :: es) X.env = (true, eval e X.env) :: starEach es X.env := by rfl) : PDA X W (.Starred e p :: es) (dStar f g) := by
  obtain ⟨te, p1, s1⟩ := h1
  obtain ⟨ta, p2, s2⟩ := h2
  refine ⟨_, StX.pa_star p1 p2 hs, fun F P H σ sv Q E R r k kx q => s1 F P H σ sv _ E _ r (fun v H1 P1 d sv1 r1 t1 rv q1 => ?_) kx q⟩
  obtain ⟨xs, hx, q1⟩ := q1
  have hh : ∃ a vs, v = .ref a ∧ (SqT X.K H1 a vs ∨ SqL X.K H1 a vs) ∧ RpL X.K P1 xs vs := by
    rcases hx with rfl | rfl
    · obtain ⟨a, vs, rfl, e1, rl⟩ := rv
      exact ⟨a, vs, rfl, .inl (sqT_of (r1.sub _ _ e1)), rl⟩
    · obtain ⟨a, vs, rfl, e1, rl⟩ := rv
      exact ⟨a, vs, rfl, .inr (SqL.of (r1.sub _ _ e1)), rl⟩
  obtain ⟨a, vs, rfl, hsq, rl⟩ := hh
  exact ⟨a, vs, rfl, hsq, s2 F P1 H1 σ sv1 _ E _ r1 (fun us H2 P2 as sv2 r2 t2 ra q2 => k _ H2 P2 _ sv2 r2 (t1.trans t2) (ars_dat ra (RpL.mono t2 xs vs rl)) q2) kx q1⟩
/-- what is known of a class whose __init__ has a star: m values ahead of it; gV, gD put them and the keywords' values into the parameters' order -/
structure CnS (X : Cx) (k : Nat) (x : Str) (C : Addr) (ks : List Str) (m n : Nat) (ns : List Str) (gV : List V → List V → List V) (gD : List D → List D → List D) (ci : Ci) : Prop where
  mono : ∀ ds Q Q' E E', (∀ d, Q d → Q' d) → (∀ x, E x → E' x) → ci ds Q E → ci ds Q' E'
  rel : ∀ (P : Hp) (ds es : List D) (vs zs : List V), ds.length = m → es.length = ks.length → RpL X.K P ds vs → RpL X.K P es zs → RpL X.K P (gD ds es) (gV vs zs) ∧ (gD ds es).length + 1 = n
  ex : ∃ f, Mk X.K C f ∧ FnI X.prog X.w X.K X.mg X.base k f ks (fun vs zs H Q E => ∃ a ws rest, vs = (a :: ws) ++ rest ∧ ws.length = m ∧ rest.length ≤ sizeLine ∧ ∀ p, H p = none → spI X.K C n ns ci (a :: gV ws zs ++ [V.ref p]) (upd H p (.tup rest)) Q E)
  mg : X.mg x = some (.ref C)
@[simp] def dMake (C : Addr) (kl m : Nat) (ns : List Str) (gD : List D → List D → List D) (ci : Ci) (fa fk : Da) : De := fun sv Q E => fa sv (fun as sv1 => fk sv1 (fun bs sv2 => ∃ ds es, asD as = some ds ∧ asD bs = some es ∧ m ≤ ds.length ∧ ds.length ≤ 100000 ∧ es.length = kl ∧
  ci (gD (ds.take m) es ++ [.tup (ds.drop m)]) (fun fs => Q (.ins C ns fs) sv2) (fun x => E x sv2)) E) E
theorem snd_make {K : PySem.W.Frag} {C : Addr} {ks : List Str} {m n : Nat} {ns : List Str} {gV : List V → List V → List V} {gD : List D → List D → List D} {ci : Ci} {t tk : TA} {fa fk : Da}
    (mono : ∀ ds Q Q' E E', (∀ d, Q d → Q' d) → (∀ x, E x → E' x) → ci ds Q E → ci ds Q' E') (rel : ∀ (P : Hp) (ds es : List D) (vs zs : List V), ds.length = m → es.length = ks.length → RpL K P ds vs → RpL K P es zs → RpL K P (gD ds es) (gV vs zs) ∧ (gD ds es).length + 1 = n)
    (h1 : SndA K W t fa) (h2 : SndA K W tk fk) :
    SndE K W (tMakeI C ks.length (fun vs zs H Q E => ∃ a ws rest, vs = (a :: ws) ++ rest ∧ ws.length = m ∧ rest.length ≤ sizeLine ∧ ∀ p, H p = none → spI K C n ns ci (a :: gV ws zs ++ [V.ref p]) (upd H p (.tup rest)) Q E) W.w t tk) (dMake C ks.length m ns gD ci fa fk) := fun F P H σ sv Q E R r k kx q =>
  h1 F P H σ sv _ E _ r (fun vs H1 P1 as sv1 r1 t1 ra q1 => h2 F P1 H1 σ sv1 _ E _ r1 (fun zs H2 P2 bs sv2 r2 t2 rb q2 => by
    obtain ⟨ds, es, ed, ee, hm, hz, hk, q2⟩ := q2
    have rd := asD_rel (ra.mono t2) ed
    have re := asD_rel rb ee
    refine ⟨by rw [re.length, hk], fun x dx hx hdx hne => ⟨.ref x, vs.take m, vs.drop m, by rw [List.cons_append, List.take_append_drop], by rw [List.length_take, rd.length]; omega, small_line (by rw [List.length_drop, rd.length]; omega), fun p hp => ?_⟩⟩
    have px : p ≠ x := fun z => by
      rw [z, upd_same] at hp
      cases hp
    have pd : p ≠ dx := fun z => by
      rw [z, upd_ne hne, upd_same] at hp
      cases hp
    have hp2 : H2 p = none := by
      rw [upd_ne px, upd_ne pd] at hp
      exact hp
    have fp := r2.free hp2
    have fx := r2.free hx
    have fd := r2.free hdx
    obtain ⟨rg, lg⟩ := rel P2 (ds.take m) es (vs.take m) zs (by rw [List.length_take]; omega) hk (rd.take m) re
    have up : Sub P2 (upd P2 p (.tup (vs.drop m))) := sub_upd fp
    have keepH : ∀ {b : Addr} {o : HO}, H2 b = some o → (upd (upd (upd H2 dx (.own x)) x (.ins C dx [])) p (.tup (vs.drop m))) b = some o ∧ b ≠ x := fun {b o} e => by
      have n1 : b ≠ x := fun z => by
        rw [z, hx] at e
        cases e
      have n2 : b ≠ dx := fun z => by
        rw [z, hdx] at e
        cases e
      have n3 : b ≠ p := fun z => by
        rw [z, hp2] at e
        cases e
      exact ⟨by rw [upd_ne n3, upd_ne n1, upd_ne n2]; exact e, n1⟩
    have news : ∀ {P' H' : Hp}, PostI (upd P2 p (.tup (vs.drop m))) (upd (upd (upd H2 dx (.own x)) x (.ins C dx [])) p (.tup (vs.drop m))) x P' H' → ∀ a o, P' a = some o → P2 a = some o ∨ NewAt H2 a o := fun {P' H'} po a o e => by
      rcases po.new a o e with z | z
      · by_cases ha : a = p
        · rw [ha]
          exact .inr (.inl hp2)
        · rw [upd_ne ha] at z
          exact .inl z
      · refine .inr ?_
        cases q : H2 a with
        | none => exact .inl q
        | some u =>
          rcases z with z | ⟨xs, rfl, z⟩
          · rw [(keepH q).1] at z
            cases z
          · rw [(keepH q).1] at z
            exact .inr ⟨xs, rfl, q.trans z⟩
    refine ⟨upd P2 p (.tup (vs.drop m)), x, dx, gV (vs.take m) zs ++ [.ref p], gD (ds.take m) es ++ [.tup (ds.drop m)], rfl, by rw [List.length_append]; exact lg, fun a o e => ?_, by rw [upd_ne px.symm]; exact fx, by rw [upd_ne px.symm, upd_same], ?_, mono _ _ _ _ _ (fun fs qf H' P' dx' us po ho hl hn rf => ?_) (fun x' qx cls dd H' P' po rx => ?_) q2⟩
    · by_cases ha : a = p
      · rw [ha, upd_same] at e ⊢
        exact e
      · rw [upd_ne ha] at e
        exact (keepH (r2.sub a o e)).1
    · exact (RpL.mono up _ _ rg).append ⟨.ref p, [], rfl, ⟨p, vs.drop m, rfl, upd_same, RpL.mono up _ _ (rd.drop m)⟩, rfl⟩
    · refine ⟨rfl, ?_⟩
      have s3 : Sub P' (upd P' x (.ins C dx' (ns.zip us))) := sub_upd hn
      refine k (.ref x) H' (upd P' x (.ins C dx' (ns.zip us))) (.ins C ns fs) sv2 (r2.grow ((up.trans po.grow).trans s3) (fun a o e => ?_) (fun a o e => po.keep a o (keepH e).1 (keepH e).2) fun a o e => ?_) ((t1.trans t2).trans ((up.trans po.grow).trans s3)) ⟨x, dx', us, rfl, upd_same, hl, RpL.mono s3 _ _ rf⟩ qf
      · by_cases ha : a = x
        · rw [ha]
          exact .inr (.inl hx)
        · rw [upd_ne ha] at e
          exact news po a o e
      · by_cases ha : a = x
        · rw [ha, upd_same] at e
          rw [ha]
          cases e
          exact ho
        · rw [upd_ne ha] at e
          exact po.sub a o e
    · exact kx cls dd H' P' x' sv2 (r2.grow (up.trans po.grow) (news po) (fun a o e => po.keep a o (keepH e).1 (keepH e).2) po.sub) rx qx) kx q1) kx q
section
variable {k m n : Nat} {x : Str} {C : Addr} {ks ns : List Str} {gV : List V → List V → List V} {gD : List D → List D → List D} {ci : Ci} {e : Expr} {es : List Expr} {kws : List Keyword} {fa fk : Da}
theorem pd_make (T : CnS X k x C ks m n ns gV gD ci) (hr : Room (k + 1) X.A) (hG : X.A.guards = some []) (tk : Takes X W.w) (hg : Gl X x) (ha : PDA X W (e :: es) fa) (hkw : PDK X W kws fk)
    (hall : (backToKw pos (keywordEach kws X.env)).all (·.1.isSome) = true := by rfl) (hks : (backToKw pos (keywordEach kws X.env)).filterMap (·.1) = ks := by rfl) (hdb : (x == ("__debug__" : Str)) = false := by decide)
    (he : starEach (e :: es) X.env = (false, eval e X.env) :: starEach es X.env := by rfl) (hpl : ((backTo pos (starEach (e :: es) X.env)).any (·.1) || (backToKw pos (keywordEach kws X.env)).any (·.1.isNone)) = false := by rfl) :
    PD X W (.Call (.Name x p) (e :: es) kws pos) (dMake C ks.length m ns gD ci fa fk) := by
  obtain ⟨f, M, F⟩ := T.ex
  obtain ⟨ta, p1, s1⟩ := ha
  obtain ⟨tk', p2, s2⟩ := hkw
  exact ⟨_, pe_makeI M F hr hG tk hg T.mg p1 p2 hall hks hdb he hpl, snd_make T.mono T.rel s1 s2⟩
theorem pd_makeS (T : CnS X k x C ks m n ns gV gD ci) (hr : Room (k + 1) X.A) (hG : X.A.guards = some []) (tk : Takes X W.w) (hg : Gl X x) (ha : PDA X W (e :: es) fa) (hkw : PDK X W kws fk)
    (hall : (backToKw pos (keywordEach kws X.env)).all (·.1.isSome) = true := by rfl) (hks : (backToKw pos (keywordEach kws X.env)).filterMap (·.1) = ks := by rfl) (hdb : (x == ("__debug__" : Str)) = false := by decide)
    (he : starEach (e :: es) X.env = (false, eval e X.env) :: starEach es X.env := by rfl) (hpl : ((backTo pos (starEach (e :: es) X.env)).any (·.1) || (backToKw pos (keywordEach kws X.env)).any (·.1.isNone)) = true := by rfl) :
    PD X W (.Call (.Name x p) (e :: es) kws pos) (dMake C ks.length m ns gD ci fa fk) := by
  obtain ⟨f, M, F⟩ := T.ex
  obtain ⟨ta, p1, s1⟩ := ha
  obtain ⟨tk', p2, s2⟩ := hkw
  exact ⟨_, pe_makeIS M F hr hG tk hg T.mg p1 p2 hall hks hdb he hpl, snd_make T.mono T.rel s1 s2⟩
end
end
end Pd
end
section
set_option autoImplicit false
set_option Elab.async false
set_option linter.all false
set_option autoImplicit false
set_option maxRecDepth 100000
set_option maxHeartbeats 4000000
/-! Pd15: == and != of an instance with its own __eq__ and anything. -/
namespace Pd
/-- a class with an own __eq__ at f, no own __ne__ -/
structure EqCls (K : PySem.W.Frag) (C f : PySem.Addr) : Prop where
  eq : PySem.W.findIn K (.ref C) "__eq__" = some (some (.ref f))
  fn : PySem.W.isFn K (.ref f) = true
  ne : PySem.W.findIn K (.ref C) "__ne__" = some (some (.builtin "object.__ne__"))
  mo : PySem.W.mroIn K C (.type "object") = some true
section
open PySem PySem.W PySem.Spec PySem.Calls PyProof.Rows
variable {prog : Program} {w : World} {A : Around} {E : Value → Shared → Prop} {s : Shared} {K : Frag} {x C f : Addr} {ox : Obj} {od : Option Obj} {b tb : Value}
theorem ne_entry {Q : Fin → Shared → Prop} (hu : A.units < cLine) (X : K.In s.heap) (I : InstAt s.heap x ox C od) (T : EqCls K C f) (h : wpAny (model prog w) A (call (.ref f) [.ref x, b]) (fun v s' => ∃ r, v = .bool r ∧ Q (.done (.ret (.bool (!r)))) s') E s) :
    wpAny (model prog w) A (Builtin.«object.__ne__» ⟨[.ref x, b], []⟩) Q E s := by
  have one : wpAny (model prog w) A (callSpecialIfBound? (.ref x) "__eq__" [b]) (fun v s' => ∃ r, v = some (.bool r) ∧ Q (.done (.ret (.bool (!r)))) s') E s :=
    ifBound_K X I T.eq T.fn (wpAny_mono h (fun v s' ⟨r, e, q⟩ => ⟨r, by rw [e], q⟩) fun _ _ z => z)
  unfold Builtin.«object.__ne__»
  refine wpAny_bind (wpAny_of_eq (a := ((Value.ref x : Value), [b])) (by first | rfl | (simp only [slotArgs]; rfl)) ?_)
  refine wpAny_bind (wpAny_cRoomFor hu ?_)
  refine wpAny_bind (wpAny_mono one (fun v s' ⟨r, e, q⟩ => ?_) fun _ _ z => z)
  subst e
  exact wpAny_bind (wpAny_truthy_bool (wpAny_pure q))
theorem ifBound_ne {args : List Value} {Q : Option Value → Shared → Prop} (X : K.In s.heap) (I : InstAt s.heap x ox C od) (hs : findIn K (.ref C) "__ne__" = some (some (.builtin "object.__ne__")))
    (h : wpAny (model prog w) A (call (.builtin "object.__ne__") (.ref x :: args)) (fun v => Q (some v)) E s) : wpAny (model prog w) A (callSpecialIfBound? (.ref x) "__ne__" args) Q E s := by
  have fin : wpAny (model prog w) A (call (.builtin "object.__ne__") ([.ref x] ++ args) >>= fun v => pure (some v)) Q E s := wpAny_bind (wpAny_mono h (fun v s' z => wpAny_pure z) fun _ _ z => z)
  simp only [callSpecialIfBound?, bindSpecialIfBound?]
  refine wpAny_holding (wpAny_bind (wpAny_bind (wpAny_bind (I.type.here ((looks_findIn X hs).here (wpAny_bind (wpAny_askSetting (wpAny_ite ?_))))))))
  split
  · exact wpAny_bind (wpAny_of_eq (PySem.F.cmp_object.ne.bind _) (wpAny_pure (by exact fin)))
  · exact wpAny_tryCatch (wpAny_bind (wpAny_of_eq (PySem.F.cmp_object.ne.bind _) (wpAny_pure (by exact fin))))
theorem rc_ne_own {Q : Value → Shared → Prop} (hu : A.units + 1 < cLine) (X : K.In s.heap) (I : InstAt s.heap x ox C od) (T : EqCls K C f) (hb : Looks (model prog w) s.heap (typeOf b) tb) (hn : notFirst K C tb = true)
    (h : wpAny (model prog w) A.in1 (call (.ref f) [.ref x, b]) (fun v s' => ∃ r, v = .bool r ∧ Q (.bool (!r)) s') E s) : wpAny (model prog w) A (richCompare .NotEq (.ref x) b) Q E s := by
  have one : wpAny (model prog w) A (tryCompare (.ref x) "__ne__" b) (fun r s' => ∃ v, r = some v ∧ Q v s') E s := by
    unfold tryCompare
    refine wpAny_bind (ifBound_ne X I T.ne (wpAny_call (codeAny_call_builtin PySem.F.cmp_object.ne.plain PySem.F.cmpEntry_ne (check_slot PySem.F.cmpKind_ne PySem.F.cmpSplit_ne (I.type.andThen (looks_mroIn X T.mo)) (PySem.F.cmpArgs_ne _ _) ?_))))
    refine ne_entry (A := A.in1) hu X I T (wpAny_mono h (fun v s' ⟨r, e, q⟩ => ⟨r, e, ?_⟩) fun _ _ z => z)
    exact wpAny_pure ⟨_, rfl, q⟩
  unfold richCompare
  simp only [oneThing_ref]
  refine wpAny_holding (wpAny_bind (wpAny_cRoomFor (Nat.lt_of_succ_lt hu) ?_))
  refine wpAny_bind (I.type.here (wpAny_bind (hb.here ?_)))
  have last : ∀ {s2 : Shared}, s2 = s → wpAny (model prog w) A (tryCompare (.ref x) "__ne__" b) (fun r s' => ∃ v, r = some v ∧ Q v s') E s2 := fun e => by
    rw [e]
    exact one
  split
  · rename_i q
    have e : subIn K tb (.ref C) = some false := by
      rcases Bool.or_eq_true_iff.mp hn with e | e
      · rw [beq_iff_eq.mp e] at q
        simp at q
      · exact beq_iff_eq.mp e
    refine wpAny_bind ((looks_subIn X e).here ?_)
    simp only [Bool.false_eq_true, if_false]
    refine wpAny_bind (wpAny_mono (last rfl) (fun r s' z => ?_) fun _ _ e => e)
    obtain ⟨v, rfl, hq⟩ := z
    exact wpAny_pure hq
  · refine wpAny_bind (wpAny_pure ?_)
    simp only [Bool.false_eq_true, if_false]
    refine wpAny_bind (wpAny_mono (last rfl) (fun r s' z => ?_) fun _ _ e => e)
    obtain ⟨v, rfl, hq⟩ := z
    exact wpAny_pure hq
end
open PySem PySem.Spec PyProof.Rows L2
section
variable {X : Cx} {k : Nat} {C f : Addr} {fd : FuncData} {ps : List Str} {ct : Ct}
theorem run_own {A : Around} {sp : Sp} {pins : List (Addr × Obj)} {σ : L2.St} {H : Hp} {s : Shared} {Q : VK} {us : List Value} {vs : List V} (hfr : A.frames = X.A.frames) (hr : Room k A) (hG : A.guards = some []) (F : Fd X.prog X.w X.K X.mg X.base k f fd ps sp) (hb : Binds X.K fd ps [])
    (I : Inv X pins σ H s) (r : Vals vs us) (h : sp vs H Q fun _ _ _ => False) : wpAny (model X.prog X.w) A (call (.ref f) us) (EP X pins σ Q) X.xe s := by
  have e0 : Env0 X.prog X.w X.K X.mg X.base A X.stack s H := by
    have e := I.env0
    exact ⟨by rw [hfr]; exact e.frames, e.mod, e.bs, e.bsz, e.funs, e.frf, e.hok, e.bare⟩
  have hl : us.length = ps.length := by rw [← r.length]; exact F.len _ _ _ _ h
  have bt := hb s us I.kIn (by simpa using hl)
  rw [List.append_nil] at bt
  refine wpAny_call (codeAny_mono (F.run A X.stack s H ⟨us, []⟩ us vs Q _ hr hG e0 bt r h) fun r s' hq => ?_)
  cases r with
  | error e => exact takes_no (z := none) e s' (XE.of_call I (fun _ _ _ z => z) hq)
  | ok fl =>
    cases fl with
    | ret u => exact I.after hq
    | next => exact False.elim hq
    | brk => exact False.elim hq
    | cont => exact False.elim hq
/-- an instance of C at the left, its own __eq__ promises sp -/
def rOwn (K : PySem.W.Frag) (C : Addr) (sp : Sp) (g : Bool → Bool) : R2 := fun x y H Q => ∃ a dx fs tb, x = .ref a ∧ H a = some (.ins C dx fs) ∧ TyX K H y tb ∧ PySem.W.notFirst K C tb = true ∧ sp [x, y] H (fun v H' => ∃ b, v = .bl b ∧ Q (.bl (g b)) H') fun _ _ _ => False
theorem op_eqOwn (T : EqCls X.K C f) (F : Fd X.prog X.w X.K X.mg X.base k f fd ps (spC X.K 2 ct)) (hb : Binds X.K fd ps []) (hr : Room (k + 1) X.A) (hG : X.A.guards = some []) : OpR X (compareOp .Eq) (rOwn X.K C (spC X.K 2 ct) id) := by
  intro pins s σ H x y v u Q I rx ry h
  obtain ⟨a, dx, fs, tb, rfl, ha, ty, hn, hsp⟩ := h
  obtain rfl : v = Value.ref a := rx
  obtain ⟨mA, J, _⟩ := ins_get I.hok ha
  obtain ⟨od, J, _⟩ := J.look
  obtain ⟨m, hF⟩ := I.fr
  obtain ⟨Pq, KX, hP, _⟩ := kit_of I ry ty
  show wpAny (model X.prog X.w) X.A (richCompare .Eq (.ref a) u) (EP X pins σ Q) X.xe s
  have hu : X.A.units < cLine := by have := hr.units; omega
  refine PySem.W.cmp_K (op := .Eq) hu hF I.ok.mod.kin J (KX.ty _ _ I.kIn hP) hn T.eq T.fn (thn (run_own rfl (hr.mono (Nat.le_succ k)) hG F hb I (.cons (show RelV (V.ref a) (Value.ref a) from rfl) (.cons ry .nil)) hsp) fun r s' q => ?_)
  obtain ⟨w, H', I', rw', b, ew, q⟩ := q
  subst ew
  cases rw'
  exact ⟨.bl b, H', I', rfl, q⟩
theorem op_neOwn (T : EqCls X.K C f) (F : Fd X.prog X.w X.K X.mg X.base k f fd ps (spC X.K 2 ct)) (hb : Binds X.K fd ps []) (hr : Room (k + 1) X.A) (hG : X.A.guards = some []) : OpR X (compareOp .NotEq) (rOwn X.K C (spC X.K 2 ct) not) := by
  intro pins s σ H x y v u Q I rx ry h
  obtain ⟨a, dx, fs, tb, rfl, ha, ty, hn, hsp⟩ := h
  obtain rfl : v = Value.ref a := rx
  obtain ⟨mA, J, _⟩ := ins_get I.hok ha
  obtain ⟨od, J, _⟩ := J.look
  obtain ⟨Pq, KX, hP, _⟩ := kit_of I ry ty
  show wpAny (model X.prog X.w) X.A (richCompare .NotEq (.ref a) u) (EP X pins σ Q) X.xe s
  have hu : X.A.units + 1 < cLine := by have := hr.units; omega
  refine rc_ne_own hu I.kIn J T (KX.ty _ _ I.kIn hP) hn (thn (run_own rfl hr.in1 hG F hb I (.cons (show RelV (V.ref a) (Value.ref a) from rfl) (.cons ry .nil)) hsp) fun r s' q => ?_)
  obtain ⟨w, H', I', rw', b, ew, q⟩ := q
  subst ew
  cases rw'
  exact ⟨b, rfl, .bl (!b), H', I', rfl, q⟩
/-- over data -/
@[simp] def gOwn (K : PySem.W.Frag) (C : Addr) (ct : Ct) (g : Bool → Bool) : G2 := fun d e Q => ∃ ns xs, d = .ins C ns xs ∧ D.okTy K e ∧ PySem.W.notFirst K C e.ty = true ∧ ct.c [some d, some e] (fun z => ∃ b, z = .bl b ∧ Q (.bl (g b))) fun _ => False
theorem snd_own {K : PySem.W.Frag} {g : Bool → Bool} (mono : ∀ as Q Q' E E', (∀ d, Q d → Q' d) → (∀ x, E x → E' x) → ct.c as Q E → ct.c as Q' E') : SndR K (rOwn K C (spC K 2 ct) g) (gOwn K C ct g) := fun F P H σ sv x y d e Q R re rx ry kk q => by
  obtain ⟨ns, xs, rfl, ot, hn, q⟩ := q
  obtain ⟨a, dx, vs, rfl, h1, h2, h3⟩ := id rx
  refine ⟨a, dx, _, e.ty, rfl, re.sub _ _ h1, tyx_of (Rp.mono re.sub e y ry) ot, hn, ?_⟩
  refine snd_callC (W := wNo none) (E := fun _ _ => False) (sv := sv) (σ := σ) (F := F) (Q := fun z sv' => sv' = sv ∧ ∃ b, z = .bl b ∧ Q (.bl (g b))) mono (as := [.dat (.ins C ns xs), .dat e]) rfl re ⟨_, _, rfl, rx, _, _, rfl, ry, rfl⟩ (fun v H' P' z sv' r' t' rz q' => ?_) (fun _ _ _ _ _ _ _ _ z => z) ?_
  · obtain ⟨rfl, b, rfl, q'⟩ := q'
    exact ⟨b, rz, kk _ H' P' (.bl (g b)) r' t' rfl q'⟩
  · show ct.c [some (.ins C ns xs), some e] _ _
    exact mono _ _ _ _ _ (fun z qz => ⟨rfl, qz⟩) (fun _ z => z) q
end
end Pd
end
section
set_option autoImplicit false
set_option Elab.async false
set_option linter.all false
set_option autoImplicit false
set_option maxRecDepth 100000
set_option maxHeartbeats 4000000
/-! Pd16: what is walked, whatever it is; short words for derivations. -/
namespace Pd
open PySem PySem.Spec PyProof.Rows L2
section
variable {X : Cx} {W : Wz} {pos : Pos}
theorem walks_str {K : PySem.W.Frag} {P : Hp} {s : Str} : Walks K (Its s) P (s.cps.toList.map fun c => D.str ⟨#[c]⟩) := by
  refine ⟨fun i H P' _ s2 hi => ?_, fun i H P' _ _ hi => show s.cps.size ≤ i by simpa using hi⟩
  have hi' : i < s.cps.size := by simpa using hi
  refine ⟨hi', fun x H' y => ?_⟩
  obtain ⟨eh, c, ec, ex⟩ := y
  refine still s2 eh ⟨.str ⟨#[c]⟩, ?_, ex⟩
  rw [List.getElem?_map, Array.getElem?_toList, ec]
  rfl
theorem pdi_str {tg l : Expr} {f : De} (h : PD X W l f) : PDI X W tg l (dItS f) := by
  obtain ⟨t, p, s⟩ := h
  refine ⟨_, pi_str p, fun F P H σ sv Q E R r k kx q => s F P H σ sv _ E _ r (fun v H1 P1 d sv1 r1 s1 rv q1 => ?_) kx q⟩
  obtain ⟨z, rfl, q1⟩ := q1
  obtain rfl := rv
  exact ⟨z, rfl, k _ H1 P1 _ sv1 r1 s1 walks_str q1⟩
theorem PI.or {tg l : Expr} {t t' : TI} (h : PI X tg l t) (h' : PI X tg l t') : PI X tg l (fun σ H R => t σ H R ∨ t' σ H R) := ⟨fun pins s σ H R I q => by
  rcases q with q | q
  · exact h.run pins s σ H R I q
  · exact h'.run pins s σ H R I q⟩
theorem pdi_or {tg l : Expr} {f g : Dl} (h : PDI X W tg l f) (h' : PDI X W tg l g) : PDI X W tg l (fun sv Q E => f sv Q E ∨ g sv Q E) := by
  obtain ⟨t, p, s⟩ := h
  obtain ⟨t', p', s'⟩ := h'
  refine ⟨_, PI.or p p', fun F P H σ sv Q E R r k kx q => ?_⟩
  rcases q with q | q
  · exact .inl (s F P H σ sv Q E R r k kx q)
  · exact .inr (s' F P H σ sv Q E R r k kx q)
/-- the items of what is walked -/
def D.items : D → Option (List D)
  | .lst ds => some ds
  | .tup ds => some ds
  | .str s => some (s.cps.toList.map fun c => .str ⟨#[c]⟩)
  | _ => none
/-- a source that is data: where it is walked, its kind is known -/
@[simp] def dIt (f : De) : Dl := fun sv Q E => dItL f sv Q E ∨ dItT f sv Q E ∨ dItS f sv Q E
theorem pdi_any {tg l : Expr} {f : De} (h : PD X W l f) : PDI X W tg l (dIt f) := by
  obtain ⟨t, p, s⟩ := pdi_or (tg := tg) (pdi_list h) (pdi_or (tg := tg) (pdi_tup h) (pdi_str h))
  exact ⟨t, p, s⟩

/-! ### short words -/
theorem dv (i : Nat) {x : Str} (hN : X.N[i]? = some x := by rfl) (hv : Vis X.env.scope x := by first | exact Or.inl rfl | exact Or.inr (Or.inl rfl) | exact Or.inr (Or.inr rfl)) (hd : (x == ("__debug__" : Str)) = false := by decide) (hcd : (x == ("__classdict__" : Str)) = false := by decide) : PD X W (.Name x pos) (dVar i) := pd_var hN hv hd hcd
theorem av (i : Nat) {x : Str} {es : List Expr} {g : Da} {p : Pos} (h2 : PDA X W es g) (hN : X.N[i]? = some x := by rfl) (hv : Vis X.env.scope x := by first | exact Or.inl rfl | exact Or.inr (Or.inl rfl) | exact Or.inr (Or.inr rfl)) (hd : (x == ("__debug__" : Str)) = false := by decide) (hcd : (x == ("__classdict__" : Str)) = false := by decide)
    (hs : starEach (.Name x p :: es) X.env = (false, eval (.Name x p) X.env) :: starEach es X.env := by rfl) : PDA X W (.Name x p :: es) (dConsV i g) := pda_var hN hv h2 hd hcd hs
theorem boot_str'' : bootBuiltins "str" = some (.type "str") := by decide +kernel
theorem boot_int'' : bootBuiltins "int" = some (.type "int") := by decide +kernel
theorem boot_bool'' : bootBuiltins "bool" = some (.type "bool") := by decide +kernel
theorem boot_dict'' : bootBuiltins "dict" = some (.type "dict") := by decide +kernel
theorem op_inA (hu : X.A.units + 65 < cLine) : OpR X (compareOp .In) (fun x y H Q => (∃ (c : Nat) (z : Str), x = .str ⟨#[c]⟩ ∧ y = .str z ∧ Q (.bl (decide (c ∈ z.cps.toList))) H) ∨ rInP X.K x y H Q) := OpR.or op_inS (op_inP hu)
theorem op_notInA (hu : X.A.units + 65 < cLine) : OpR X (compareOp .NotIn) (fun x y H Q => (∃ (c : Nat) (z : Str), x = .str ⟨#[c]⟩ ∧ y = .str z ∧ Q (.bl (!decide (c ∈ z.cps.toList))) H) ∨ rNotInP X.K x y H Q) := OpR.or op_notInS (op_notInP hu)
theorem room_u {k : Nat} {A : Around} (r : Room k A) : A.units + 65 < cLine := by
  have := r.un
  omega
/-- a op b op' c as a test -/
theorem pdt_chain {a b c : Expr} {op op' : CmpOp} {f1 f2 f3 : De} {r r' : R2} {g g' : G2} (ho : OpR X (compareOp op) r) (hr : SndR X.K r g) (ho' : OpR X (compareOp op') r') (hr' : SndR X.K r' g') (h1 : PD X W a f1) (h2 : PD X W b f2) (h3 : PD X W c f3)
    (hm : lastMarks [op, op'] [b, c] = false := by with_unfolding_all rfl) : PDT X W (.Compare a [op, op'] [b, c] pos) (dTest (dChain g g' f1 f2 f3)) := by
  obtain ⟨ta, p1, s1⟩ := h1
  obtain ⟨tb, p2, s2⟩ := h2
  obtain ⟨tc, p3, s3⟩ := h3
  refine ⟨_, pt_chain ho ho' p1 p2 p3 hm, fun F P H σ sv Q E R re k kx q => snd_chain s1 s2 s3 hr hr' F P H σ sv _ E _ re (fun v H1 P1 d sv1 r1 s1' rv q1 => ?_) kx q⟩
  obtain ⟨b, rfl, q1⟩ := q1
  exact ⟨b, rv, k b H1 P1 sv1 r1 s1' q1⟩

/-! the same with K named, so that nothing of a context is left in what a construct is worth -/
theorem dfld (K : PySem.W.Frag) {e : Expr} {f : Str} {g : De} (h : PD X W e g) (hK : X.K = K := by rfl) (hb : attributeBase e f X.env (eval e X.env) = eval e X.env := by rfl) : PD X W (.Attribute e f pos) (dFld K f g) := by
  subst hK
  exact pd_fld h hb
theorem disiT (K : PySem.W.Frag) {p p2 : Pos} {e : Expr} {f : De} {x : Str} {T : String} (hv : bootBuiltins x = some (.type T)) (hxm : X.mg x = none) (hm : X.mg "isinstance" = none) (h : PD X W e f) (hx : Gl X x := by rfl) (hg : Gl X "isinstance" := by rfl) (hK : X.K = K := by rfl)
    (hn : x ≠ "__name__" := by decide) (hdb : (x == ("__debug__" : Str)) = false := by decide)
    (he : starEach [e, .Name x p2] X.env = (false, eval e X.env) :: starEach [.Name x p2] X.env := by rfl) (he2 : starEach [.Name x p2] X.env = (false, eval (.Name x p2) X.env) :: starEach [] X.env := by rfl) (hpl : (backTo pos (starEach [.Name x p2] X.env)).any (·.1) = false := by rfl) :
    PD X W (.Call (.Name "isinstance" p) [e, .Name x p2] [] pos) (dIsi K (.type T) f) := by
  subst hK
  exact pd_isiT hv hx hxm hg hm h hn hdb he he2 hpl
theorem disiC (K : PySem.W.Frag) {p p2 : Pos} {e : Expr} {f : De} {x : Str} {C : Addr} (hxm : X.mg x = some (.ref C)) (hm : X.mg "isinstance" = none) (h : PD X W e f) (hx : Gl X x := by rfl) (hg : Gl X "isinstance" := by rfl) (hK : X.K = K := by rfl) (hdb : (x == ("__debug__" : Str)) = false := by decide)
    (he : starEach [e, .Name x p2] X.env = (false, eval e X.env) :: starEach [.Name x p2] X.env := by rfl) (he2 : starEach [.Name x p2] X.env = (false, eval (.Name x p2) X.env) :: starEach [] X.env := by rfl) (hpl : (backTo pos (starEach [.Name x p2] X.env)).any (·.1) = false := by rfl) :
    PD X W (.Call (.Name "isinstance" p) [e, .Name x p2] [] pos) (dIsi K (.ref C) f) := by
  subst hK
  exact pd_isiC hxm hx hg hm h hdb he he2 hpl
theorem dselfF (K : PySem.W.Frag) (i : Nat) {x f : Str} {p2 : Pos} (hN : X.N[i]? = some x := by rfl) (hv : Vis X.env.scope x := by first | exact Or.inl rfl | exact Or.inr (Or.inl rfl) | exact Or.inr (Or.inr rfl)) (hK : X.K = K := by rfl) (hd : (x == ("__debug__" : Str)) = false := by decide) (hcd : (x == ("__classdict__" : Str)) = false := by decide)
    (hb : attributeBase (.Name x p2) f X.env (eval (.Name x p2) X.env) = eval (.Name x p2) X.env := by rfl) : PD X W (.Attribute (.Name x p2) f pos) (dSelfF K i f) := by
  subst hK
  exact pd_selfF hN hv hd hcd hb
theorem dself (K : PySem.W.Frag) (i : Nat) {x f : Str} {e : Expr} {fe : De} {p p2 : Pos} (he : PD X W e fe) (hN : X.N[i]? = some x := by rfl) (hv : Vis X.env.scope x := by first | exact Or.inl rfl | exact Or.inr (Or.inl rfl) | exact Or.inr (Or.inr rfl)) (hK : X.K = K := by rfl) (hd : (x == ("__debug__" : Str)) = false := by decide) (hcd : (x == ("__classdict__" : Str)) = false := by decide)
    (hs : swapsWith e (some (.Attribute (.Name x p2) f p)) pos.line X.env = pure false := by rfl) : PDS X W (.Assign [.Attribute (.Name x p2) f p] e pos) (dSelf K i f fe) := by
  subst hK
  exact pds_self hN hv he hd hcd hs
theorem dtry (K : PySem.W.Frag) {body : List Stmt} {h₀ : ExceptHandler} {hds : List ExceptHandler} {l : List Dh} {fb : Ds} (hN : X.N.Nodup) (tk : Takes X W.w)
    (hb : ∀ (W' : WX) (pn : List (Addr × Obj)) (xe : Value → Shared → Prop), Takes (X.tr pn xe) W' → PassesOwn (model X.prog X.w) X.A X.env xe → PDSs (X.tr pn xe) ⟨W', W.z⟩ body fb) (hh : DhsOk X (h₀ :: hds) l) (hs : X.stack = X.env :: X.outer := by rfl) (hf : X.env.frame = some X.env.locals := by rfl) (hK : X.K = K := by rfl) :
    PDS X W (.Try body (h₀ :: hds) [] [] pos) (dTry' K fb l) := by
  subst hK
  exact pds_try hs hf hN tk hb hh
end
section
variable {X : Cx} {a : Addr} {oe : Obj} {cls : Value} {dd : Option Addr} {pn : List (Addr × Obj)} {w : WX} {pos p p2 p3 : Pos}
theorem dxf (K : PySem.W.Frag) (i : Nat) {C : Addr} {f n : Str} (T : XfC X.K C) (hno : PySem.W.findIn X.K (.ref C) f = some none) (hz : Zc cls dd oe) (hf : ∃ vs, oe.data = .fields vs) (hN : X.N[i]? = some n := by rfl) (hv : Vis X.env.scope n := by first | exact Or.inl rfl | exact Or.inr (Or.inl rfl) | exact Or.inr (Or.inr rfl)) (hK : X.K = K := by rfl)
    (hd : (n == ("__debug__" : Str)) = false := by decide) (hcd : (n == ("__classdict__" : Str)) = false := by decide) (hb : attributeBase (.Name n p) f X.env (eval (.Name n p) X.env) = eval (.Name n p) X.env := by rfl) :
    PD (X.suite a ((a, oe) :: pn)) ⟨w, some (a, cls, dd)⟩ (.Attribute (.Name n p) f pos) (dXf K i C f) := by
  subst hK
  exact pd_xf T hno hN hv hz hf hd hcd hb
theorem dxiT (K : PySem.W.Frag) (i : Nat) {T : String} {n x : Str} (hv : bootBuiltins x = some (.type T)) (hxm : X.mg x = none) (hm : X.mg "isinstance" = none) (hz : Zc cls dd oe) (hf : ∃ vs, oe.data = .fields vs) (hN : X.N[i]? = some n := by rfl) (hvn : Vis X.env.scope n := by first | exact Or.inl rfl | exact Or.inr (Or.inl rfl) | exact Or.inr (Or.inr rfl)) (hK : X.K = K := by rfl) (hx : Gl X x := by rfl) (hg : Gl X "isinstance" := by rfl)
    (hn : x ≠ "__name__" := by decide) (hdb : (x == ("__debug__" : Str)) = false := by decide) (hd : (n == ("__debug__" : Str)) = false := by decide) (hcd : (n == ("__classdict__" : Str)) = false := by decide)
    (he : starEach [.Name n p2, .Name x p3] X.env = (false, eval (.Name n p2) X.env) :: starEach [.Name x p3] X.env := by rfl) (he2 : starEach [.Name x p3] X.env = (false, eval (.Name x p3) X.env) :: starEach [] X.env := by rfl) (hpl : (backTo pos (starEach [.Name x p3] X.env)).any (·.1) = false := by rfl) :
    PD (X.suite a ((a, oe) :: pn)) ⟨w, some (a, cls, dd)⟩ (.Call (.Name "isinstance" p) [.Name n p2, .Name x p3] [] pos) (dXi K i (.type T)) := by
  subst hK
  exact pd_xi (.ty T) (pe_bltn (X := X.suite a ((a, oe) :: pn)) (v := .ty T) hx hxm hv rfl hn hdb) hg hm hN hvn hz hf hd hcd he he2 hpl
end
end Pd
end
section
set_option autoImplicit false
set_option Elab.async false
set_option linter.all false
set_option autoImplicit false
set_option maxRecDepth 100000
set_option maxHeartbeats 4000000
/-! Pd17: how what a construct is worth is worked out. -/
namespace Pd
open PySem PySem.Spec PyProof.Rows L2
section
variable {K : PySem.W.Frag}
@[simp] theorem kit_NoneType_bool : PySem.W.kitOne K (.type "NoneType") (.type "bool") = some false := rfl
@[simp] theorem kit_NoneType_int : PySem.W.kitOne K (.type "NoneType") (.type "int") = some false := rfl
@[simp] theorem kit_NoneType_str : PySem.W.kitOne K (.type "NoneType") (.type "str") = some false := rfl
@[simp] theorem kit_NoneType_list : PySem.W.kitOne K (.type "NoneType") (.type "list") = some false := rfl
@[simp] theorem kit_NoneType_tuple : PySem.W.kitOne K (.type "NoneType") (.type "tuple") = some false := rfl
@[simp] theorem kit_NoneType_dict : PySem.W.kitOne K (.type "NoneType") (.type "dict") = some false := rfl
@[simp] theorem kit_bool_bool : PySem.W.kitOne K (.type "bool") (.type "bool") = some true := rfl
@[simp] theorem kit_bool_int : PySem.W.kitOne K (.type "bool") (.type "int") = some true := rfl
@[simp] theorem kit_bool_str : PySem.W.kitOne K (.type "bool") (.type "str") = some false := rfl
@[simp] theorem kit_bool_list : PySem.W.kitOne K (.type "bool") (.type "list") = some false := rfl
@[simp] theorem kit_bool_tuple : PySem.W.kitOne K (.type "bool") (.type "tuple") = some false := rfl
@[simp] theorem kit_bool_dict : PySem.W.kitOne K (.type "bool") (.type "dict") = some false := rfl
@[simp] theorem kit_int_bool : PySem.W.kitOne K (.type "int") (.type "bool") = some false := rfl
@[simp] theorem kit_int_int : PySem.W.kitOne K (.type "int") (.type "int") = some true := rfl
@[simp] theorem kit_int_str : PySem.W.kitOne K (.type "int") (.type "str") = some false := rfl
@[simp] theorem kit_int_list : PySem.W.kitOne K (.type "int") (.type "list") = some false := rfl
@[simp] theorem kit_int_tuple : PySem.W.kitOne K (.type "int") (.type "tuple") = some false := rfl
@[simp] theorem kit_int_dict : PySem.W.kitOne K (.type "int") (.type "dict") = some false := rfl
@[simp] theorem kit_str_bool : PySem.W.kitOne K (.type "str") (.type "bool") = some false := rfl
@[simp] theorem kit_str_int : PySem.W.kitOne K (.type "str") (.type "int") = some false := rfl
@[simp] theorem kit_str_str : PySem.W.kitOne K (.type "str") (.type "str") = some true := rfl
@[simp] theorem kit_str_list : PySem.W.kitOne K (.type "str") (.type "list") = some false := rfl
@[simp] theorem kit_str_tuple : PySem.W.kitOne K (.type "str") (.type "tuple") = some false := rfl
@[simp] theorem kit_str_dict : PySem.W.kitOne K (.type "str") (.type "dict") = some false := rfl
@[simp] theorem kit_list_bool : PySem.W.kitOne K (.type "list") (.type "bool") = some false := rfl
@[simp] theorem kit_list_int : PySem.W.kitOne K (.type "list") (.type "int") = some false := rfl
@[simp] theorem kit_list_str : PySem.W.kitOne K (.type "list") (.type "str") = some false := rfl
@[simp] theorem kit_list_list : PySem.W.kitOne K (.type "list") (.type "list") = some true := rfl
@[simp] theorem kit_list_tuple : PySem.W.kitOne K (.type "list") (.type "tuple") = some false := rfl
@[simp] theorem kit_list_dict : PySem.W.kitOne K (.type "list") (.type "dict") = some false := rfl
@[simp] theorem kit_tuple_bool : PySem.W.kitOne K (.type "tuple") (.type "bool") = some false := rfl
@[simp] theorem kit_tuple_int : PySem.W.kitOne K (.type "tuple") (.type "int") = some false := rfl
@[simp] theorem kit_tuple_str : PySem.W.kitOne K (.type "tuple") (.type "str") = some false := rfl
@[simp] theorem kit_tuple_list : PySem.W.kitOne K (.type "tuple") (.type "list") = some false := rfl
@[simp] theorem kit_tuple_tuple : PySem.W.kitOne K (.type "tuple") (.type "tuple") = some true := rfl
@[simp] theorem kit_tuple_dict : PySem.W.kitOne K (.type "tuple") (.type "dict") = some false := rfl
@[simp] theorem kit_dict_bool : PySem.W.kitOne K (.type "dict") (.type "bool") = some false := rfl
@[simp] theorem kit_dict_int : PySem.W.kitOne K (.type "dict") (.type "int") = some false := rfl
@[simp] theorem kit_dict_str : PySem.W.kitOne K (.type "dict") (.type "str") = some false := rfl
@[simp] theorem kit_dict_list : PySem.W.kitOne K (.type "dict") (.type "list") = some false := rfl
@[simp] theorem kit_dict_tuple : PySem.W.kitOne K (.type "dict") (.type "tuple") = some false := rfl
@[simp] theorem kit_dict_dict : PySem.W.kitOne K (.type "dict") (.type "dict") = some true := rfl
end
/-- a comprehension whose parts leave the slots as they are: item by item -/
theorem goLc_fm (g : D → Option D) {dg : Dg} {dt : Dt} {fe : De} {vs : List Nat} {Q : List D → Sv → Prop} : ∀ {ds : List D} {sv : Sv} {acc : List D}, acc.length + ds.length ≤ 100000 →
    (∀ d ∈ ds, ∀ (T : D → Sv → Prop) (N : Sv → Prop), (∀ z, g d = some z → T z sv) → (g d = none → N sv) → dg d sv fun sv1 => dt sv1 (fun b sv2 => if b = true then fe sv2 (fun z sv3 => T z (unAt sv3 vs)) (fun _ _ => False) else N (unAt sv2 vs)) fun _ _ => False) →
    Q (acc ++ ds.filterMap g) sv → goLc dg dt fe vs Q ds sv acc
  | [], sv, acc, _, _, q => by
    rw [List.filterMap_nil, List.append_nil] at q
    exact q
  | d :: ds, sv, acc, hl, hs, q => by
    rw [List.length_cons] at hl
    refine hs d List.mem_cons_self (fun z sv' => acc.length < 100000 ∧ goLc dg dt fe vs Q ds sv' (acc ++ [z])) (fun sv' => goLc dg dt fe vs Q ds sv' acc) (fun z e => ⟨by omega, ?_⟩) fun e => ?_
    · refine goLc_fm g (by rw [List.length_append, List.length_singleton]; omega) (fun d' h' => hs d' (List.mem_cons_of_mem _ h')) ?_
      rw [List.filterMap_cons_some e] at q
      rw [List.append_assoc]
      exact q
    · refine goLc_fm g (by omega) (fun d' h' => hs d' (List.mem_cons_of_mem _ h')) ?_
      rw [List.filterMap_cons_none e] at q
      exact q
theorem goLc_map (g : D → D) {dg : Dg} {dt : Dt} {fe : De} {vs : List Nat} {Q : List D → Sv → Prop} {ds : List D} {sv : Sv} (hl : ds.length ≤ 100000)
    (hs : ∀ d ∈ ds, ∀ (T : D → Sv → Prop) (N : Sv → Prop), T (g d) sv → dg d sv fun sv1 => dt sv1 (fun b sv2 => if b = true then fe sv2 (fun z sv3 => T z (unAt sv3 vs)) (fun _ _ => False) else N (unAt sv2 vs)) fun _ _ => False)
    (q : Q (ds.map g) sv) : goLc dg dt fe vs Q ds sv [] := by
  refine goLc_fm (fun d => some (g d)) (by rw [List.length_nil]; omega) (fun d hd T N h1 _ => hs d hd T N (h1 _ rfl)) ?_
  rw [List.nil_append, show ds.filterMap (fun d => some (g d)) = ds.map g from by rw [List.filterMap_eq_map']]
  exact q
theorem goLc_mapl {α : Type} (h : α → D) (g : α → D) {dg : Dg} {dt : Dt} {fe : De} {vs : List Nat} {Q : List D → Sv → Prop} : ∀ {l : List α} {sv : Sv} {acc : List D}, acc.length + l.length ≤ 100000 →
    (∀ a ∈ l, ∀ (T : D → Sv → Prop) (N : Sv → Prop), T (g a) sv → dg (h a) sv fun sv1 => dt sv1 (fun b sv2 => if b = true then fe sv2 (fun z sv3 => T z (unAt sv3 vs)) (fun _ _ => False) else N (unAt sv2 vs)) fun _ _ => False) →
    Q (acc ++ l.map g) sv → goLc dg dt fe vs Q (l.map h) sv acc
  | [], sv, acc, _, _, q => by
    rw [List.map_nil, List.append_nil] at q
    exact q
  | a :: l, sv, acc, hl, hs, q => by
    rw [List.length_cons] at hl
    refine hs a List.mem_cons_self (fun z sv' => acc.length < 100000 ∧ goLc dg dt fe vs Q (l.map h) sv' (acc ++ [z])) (fun sv' => goLc dg dt fe vs Q (l.map h) sv' acc) ⟨by omega, ?_⟩
    refine goLc_mapl h g (by rw [List.length_append, List.length_singleton]; omega) (fun d' h' => hs d' (List.mem_cons_of_mem _ h')) ?_
    rw [List.append_assoc]
    exact q
/-- a loop by an invariant over what has been walked -/
theorem loopD_inv {dg : Dg} {fb : Ds} {D : Ed} (I : List Pd.D → Sv → Prop) : ∀ {ds : List Pd.D} {sv : Sv}, I ds sv → (∀ sv', I [] sv' → D.nx sv') →
    (∀ d r sv', I (d :: r) sv' → ∀ (nx : Sv → Prop), (∀ sv2, I r sv2 → nx sv2) → dg d sv' fun sv1 => fb sv1 { D with nx := nx, ct := nx, bk := D.nx }) → loopD dg fb D ds sv
  | [], sv, h, h0, _ => h0 sv h
  | d :: ds, sv, h, h0, h1 => h1 d ds sv h (loopD dg fb D ds) fun sv2 h2 => loopD_inv I h2 h0 h1
theorem asB_map {α : Type} (g : α → Bool) : ∀ l : List α, asB (l.map fun x => .bl (g x)) = some (l.map g)
  | [] => rfl
  | x :: l => by
    show (asB (l.map fun x => .bl (g x))).map (g x :: ·) = _
    rw [asB_map g l]
    rfl
end Pd
end
section
set_option autoImplicit false
set_option Elab.async false
set_option linter.all false
set_option autoImplicit false
set_option maxRecDepth 100000
set_option maxHeartbeats 4000000
/-! Pd18: more numbers, a comprehension that is stored, calls told once for all contexts. -/
namespace Pd
open PySem PySem.Spec PyProof.Rows L2
section
variable {X : Cx} {W : Wz} {pos : Pos}
/-! ### numbers -/
@[simp] def dNeg (f : De) : De := fun sv Q E => f sv (fun d sv1 => ∃ i, d = .int i ∧ Q (.int (-i)) sv1) E
theorem pd_neg {a : Expr} {f : De} (h : PD X W a f) : PD X W (.UnaryOp .USub a pos) (dNeg f) := by
  obtain ⟨t, p, s⟩ := h
  refine ⟨_, pe_un un_neg p, fun F P H σ sv Q E R re k kx q => s F P H σ sv _ E _ re (fun v H1 P1 d sv1 r1 s1 rv q1 => ?_) kx q⟩
  obtain ⟨i, rfl, q1⟩ := q1
  exact ⟨i, rv, k _ H1 P1 (.int (-i)) sv1 r1 s1 rfl q1⟩
theorem pd_fdiv {a b : Expr} {f1 f2 : De} (h1 : PD X W a f1) (h2 : PD X W b f2) : PD X W (.BinOp a .FloorDiv b pos) (dOp (gIC CDivW fun i j => .int (i / j)) f1 f2) := pd_op op_fdivW (snd_I fun _ _ _ => rfl) h1 h2
theorem pd_pow {a b : Expr} {f1 f2 : De} (h1 : PD X W a f1) (h2 : PD X W b f2) : PD X W (.BinOp a .Pow b pos) (dOp (gIC CPow fun i j => .int (i ^ j.toNat)) f1 f2) := pd_op op_pow (snd_I fun _ _ _ => rfl) h1 h2
@[simp] def gInt1 : G1 := fun ds Q => (∃ i, ds = [.int i] ∧ Q (.int i)) ∨ ∃ b, ds = [.bl b] ∧ Q (.int (if b then 1 else 0))
theorem snd_int1 {K : PySem.W.Frag} : SndC K (fun xs H Q => (∃ i, xs = [.int i] ∧ Q (.int i) H) ∨ ∃ k, xs = [.bl k] ∧ Q (.int (if k then 1 else 0)) H) gInt1 := fun F P H σ sv vs ds Q R re rv k q => by
  rcases q with ⟨i, rfl, q⟩ | ⟨b, rfl, q⟩
  · obtain ⟨v, r, rfl, rv, rfl⟩ := rv
    obtain rfl := rv
    exact .inl ⟨i, rfl, k _ H P (.int i) re (Sub.refl P) rfl q⟩
  · obtain ⟨v, r, rfl, rv, rfl⟩ := rv
    obtain rfl := rv
    exact .inr ⟨b, rfl, k _ H P (.int _) re (Sub.refl P) rfl q⟩
theorem pd_int1 {p : Pos} {e : Expr} {fa : Da} (hm : X.mg "int" = none) (ha : PDA X W [e] fa) (hg : Gl X "int" := by rfl) (he : starEach [e] X.env = (false, eval e X.env) :: starEach [] X.env := by rfl) : PD X W (.Call (.Name "int" p) [e] [] pos) (dCB gInt1 fa) :=
  pd_callTy call_int1 snd_int1 boot_int'' hg hm ha (by decide) (by decide) he
@[simp] def gAbs : G1 := fun ds Q => ∃ i, ds = [.int i] ∧ Q (.int (if i < 0 then -i else i))
theorem snd_abs {K : PySem.W.Frag} : SndC K (fun xs H Q => ∃ i, xs = [.int i] ∧ Q (.int (if i < 0 then -i else i)) H) gAbs := fun F P H σ sv vs ds Q R re rv k q => by
  obtain ⟨i, rfl, q⟩ := q
  obtain ⟨v, r, rfl, rv, rfl⟩ := rv
  obtain rfl := rv
  exact ⟨i, rfl, k _ H P (.int _) re (Sub.refl P) rfl q⟩
theorem boot_abs' : bootBuiltins "abs" = some (.builtin "abs") := by decide +kernel
theorem pd_abs {p : Pos} {e : Expr} {fa : Da} (hm : X.mg "abs" = none) (ha : PDA X W [e] fa) (hg : Gl X "abs" := by rfl) (he : starEach [e] X.env = (false, eval e X.env) :: starEach [] X.env := by rfl) : PD X W (.Call (.Name "abs" p) [e] [] pos) (dCB gAbs fa) :=
  pd_callB call_abs snd_abs boot_abs' hg hm ha (by decide) (by decide) he
@[simp] def gTwo (g : Int → Int → Int) : G1 := fun ds Q => ∃ i j, ds = [.int i, .int j] ∧ Q (.int (g i j))
theorem snd_two {K : PySem.W.Frag} {g : Int → Int → Int} : SndC K (fun xs H Q => ∃ i j, xs = [.int i, .int j] ∧ Q (.int (g i j)) H) (gTwo g) := fun F P H σ sv vs ds Q R re rv k q => by
  obtain ⟨i, j, rfl, q⟩ := q
  obtain ⟨v, r, rfl, r1, v2, r2, rfl, r3, rfl⟩ := rv
  obtain rfl := r1
  obtain rfl := r3
  exact ⟨i, j, rfl, k _ H P (.int _) re (Sub.refl P) rfl q⟩
theorem boot_max' : bootBuiltins "max" = some (.builtin "max") := by decide +kernel
theorem boot_min' : bootBuiltins "min" = some (.builtin "min") := by decide +kernel
theorem pd_max2 {p : Pos} {e e2 : Expr} {fa : Da} (hc : X.calm = true) (hm : X.mg "max" = none) (ha : PDA X W [e, e2] fa) (hg : Gl X "max" := by rfl) (he : starEach [e, e2] X.env = (false, eval e X.env) :: starEach [e2] X.env := by rfl) (hpl : (backTo pos (starEach [e2] X.env)).any (·.1) = false := by rfl) :
    PD X W (.Call (.Name "max" p) [e, e2] [] pos) (dCB (gTwo fun i j => if j > i then j else i) fa) := pd_callB (call_max2 hc) snd_two boot_max' hg hm ha (by decide) (by decide) he hpl
theorem pd_min2 {p : Pos} {e e2 : Expr} {fa : Da} (hc : X.calm = true) (hm : X.mg "min" = none) (ha : PDA X W [e, e2] fa) (hg : Gl X "min" := by rfl) (he : starEach [e, e2] X.env = (false, eval e X.env) :: starEach [e2] X.env := by rfl) (hpl : (backTo pos (starEach [e2] X.env)).any (·.1) = false := by rfl) :
    PD X W (.Call (.Name "min" p) [e, e2] [] pos) (dCB (gTwo fun i j => if j < i then j else i) fa) := pd_callB (call_min2 hc) snd_two boot_min' hg hm ha (by decide) (by decide) he hpl

/-! ### name = [..] -/
theorem snd_setL {K : PySem.W.Frag} {t : TE} {g : Dl} {i : Nat} (s : SndL K W t g) : SndS K W (tAsg t (gName i)) (dSetL i g) := fun F P H σ sv D Dd r l q =>
  s F P H σ sv _ _ _ r (fun p' H1 P1 ds sv1 r1 s1 n q1 => l.nx _ H1 P1 _ (r1.setNew n) s1 q1) (fun cls dd H1 P1 x sv1 r1 rx q1 => l.ex cls dd σ H1 P1 x sv1 r1 rx q1) q
theorem pds_setLc {i : Nat} {y : Str} {py : Pos} {elt tg iter : Expr} {ifs : List Expr} {scope : Scope} {own : List (Str × Nat)} {spos : Pos} {f : Dl} {dg : Dg} {dt : Dt} {fe : De} (hc : X.calm = true) (hN : X.N.Nodup) (hy : X.N[i]? = some y) (hyl : X.env.scope.names.lookup y = some .local)
    (hsw : swapsWith (.ListComp elt [⟨tg, iter, ifs, 0⟩] scope pos) (some (.Name y py)) spos.line X.env = pure true) (ok : BlkOk X.N X.env.scope scope own) (hi : PDI X W tg iter f)
    (hg : ∀ i : BI, PDGw (Cx.b X scope i) (own.map (·.2)) tg dg) (ht : ∀ i : BI, PDTs (Cx.b X scope i) (wNo W.z) ifs dt) (he : ∀ i : BI, PD (Cx.b X scope i) (wNo W.z) elt fe) (hs : ∀ x, foldedSetIterable iter X.env x = pure x := by intro _; rfl) :
    PDS X W (.Assign [.Name y py] (.ListComp elt [⟨tg, iter, ifs, 0⟩] scope pos) spos) (dSetL i (dLc f dg dt fe (own.map (·.2)))) := by
  obtain ⟨wi, p1, s1⟩ := hi
  obtain ⟨g, p2, s2⟩ := fam_gw (X := fun i => Cx.b X scope i) (fun _ => rfl) hg
  obtain ⟨tt, p3, s3⟩ := fam_ts (X := fun i => Cx.b X scope i) (fun _ => rfl) ht
  obtain ⟨te, p4, s4⟩ := fam_e (X := fun i => Cx.b X scope i) (fun _ => rfl) he
  exact ⟨_, ps_setLc hc hN hy hyl hsw p1 ok (fun s H C cl fp => p2 (s, H, C, cl, fp)) (fun s H C cl fp => p3 (s, H, C, cl, fp)) (fun s H C cl fp => p4 (s, H, C, cl, fp)) hs, snd_setL (snd_lc s1 s2 s3 s4)⟩

/-! ### defs and classes, known once for all contexts -/
structure FnG (P : Program) (w : World) (K : PySem.W.Frag) (mg : Str → Option Value) (base : Heap) (k : Nat) (x : Str) (n : Nat) (ct : Ct) : Prop where
  mono : ∀ as Q Q' E E', (∀ d, Q d → Q' d) → (∀ x, E x → E' x) → ct.c as Q E → ct.c as Q' E'
  ex : ∃ (f : Addr) (fd : FuncData) (ps : List Str), ps.length = n ∧ Fd P w K mg base k f fd ps (spC K n ct) ∧ mg x = some (.ref f) ∧ PySem.W.keepIn K (.ref f) = true ∧ Binds K fd ps []
theorem dcall {P : Program} {w : World} {K : PySem.W.Frag} {mg : Str → Option Value} {base : Heap} {k k' n : Nat} {x : Str} {p : Pos} {e : Expr} {es : List Expr} {ct : Ct} {fa : Da} (F : FnG P w K mg base k x n ct) (hr : Room k' X.A) (hk : k ≤ k') (hG : X.A.guards = some []) (tk : Takes X W.w) (ha : PDA X W (e :: es) fa)
    (h1 : X.prog = P := by rfl) (h2 : X.w = w := by rfl) (h3 : X.K = K := by rfl) (h4 : X.mg = mg := by rfl) (h5 : X.base = base := by rfl) (hg : Gl X x := by rfl) (hdb : (x == ("__debug__" : Str)) = false := by decide)
    (he : starEach (e :: es) X.env = (false, eval e X.env) :: starEach es X.env := by rfl) (hpl : (backTo pos (starEach es X.env)).any (·.1) = false := by rfl) : PD X W (.Call (.Name x p) (e :: es) [] pos) (dCall ct n fa) := by
  subst h1 h2 h3 h4 h5
  exact pd_call ⟨F.mono, F.ex⟩ (hr.mono hk) hG tk hg ha hdb he hpl
structure CnG (P : Program) (w : World) (K : PySem.W.Frag) (mg : Str → Option Value) (base : Heap) (k : Nat) (x : Str) (C : Addr) (ks : List Str) (m n : Nat) (ns : List Str) (gV : List V → List V → List V) (gD : List D → List D → List D) (ci : Ci) : Prop where
  mono : ∀ ds Q Q' E E', (∀ d, Q d → Q' d) → (∀ x, E x → E' x) → ci ds Q E → ci ds Q' E'
  rel : ∀ (P : Hp) (ds es : List D) (vs zs : List V), ds.length = m → es.length = ks.length → RpL K P ds vs → RpL K P es zs → RpL K P (gD ds es) (gV vs zs) ∧ (gD ds es).length + 1 = n
  ex : ∃ f, Mk K C f ∧ FnI P w K mg base k f ks (fun vs zs H Q E => ∃ a ws rest, vs = (a :: ws) ++ rest ∧ ws.length = m ∧ rest.length ≤ sizeLine ∧ ∀ p, H p = none → spI K C n ns ci (a :: gV ws zs ++ [V.ref p]) (upd H p (.tup rest)) Q E)
  mg : mg x = some (.ref C)
section
variable {P : Program} {w : World} {K : PySem.W.Frag} {mg : Str → Option Value} {base : Heap} {k k' m n : Nat} {x : Str} {C : Addr} {ks ns : List Str} {gV : List V → List V → List V} {gD : List D → List D → List D} {ci : Ci} {e : Expr} {es : List Expr} {kws : List Keyword} {fa fk : Da} {p : Pos}
theorem dmake (T : CnG P w K mg base k x C ks m n ns gV gD ci) (hr : Room k' X.A) (hk : k + 1 ≤ k') (hG : X.A.guards = some []) (tk : Takes X W.w) (ha : PDA X W (e :: es) fa) (hkw : PDK X W kws fk)
    (h1 : X.prog = P := by rfl) (h2 : X.w = w := by rfl) (h3 : X.K = K := by rfl) (h4 : X.mg = mg := by rfl) (h5 : X.base = base := by rfl) (hg : Gl X x := by rfl)
    (hall : (backToKw pos (keywordEach kws X.env)).all (·.1.isSome) = true := by rfl) (hks : (backToKw pos (keywordEach kws X.env)).filterMap (·.1) = ks := by rfl) (hdb : (x == ("__debug__" : Str)) = false := by decide)
    (he : starEach (e :: es) X.env = (false, eval e X.env) :: starEach es X.env := by rfl) (hpl : ((backTo pos (starEach (e :: es) X.env)).any (·.1) || (backToKw pos (keywordEach kws X.env)).any (·.1.isNone)) = false := by rfl) :
    PD X W (.Call (.Name x p) (e :: es) kws pos) (dMake C ks.length m ns gD ci fa fk) := by
  subst h1 h2 h3 h4 h5
  exact pd_make ⟨T.mono, T.rel, T.ex, T.mg⟩ (hr.mono hk) hG tk hg ha hkw hall hks hdb he hpl
theorem dmakeS (T : CnG P w K mg base k x C ks m n ns gV gD ci) (hr : Room k' X.A) (hk : k + 1 ≤ k') (hG : X.A.guards = some []) (tk : Takes X W.w) (ha : PDA X W (e :: es) fa) (hkw : PDK X W kws fk)
    (h1 : X.prog = P := by rfl) (h2 : X.w = w := by rfl) (h3 : X.K = K := by rfl) (h4 : X.mg = mg := by rfl) (h5 : X.base = base := by rfl) (hg : Gl X x := by rfl)
    (hall : (backToKw pos (keywordEach kws X.env)).all (·.1.isSome) = true := by rfl) (hks : (backToKw pos (keywordEach kws X.env)).filterMap (·.1) = ks := by rfl) (hdb : (x == ("__debug__" : Str)) = false := by decide)
    (he : starEach (e :: es) X.env = (false, eval e X.env) :: starEach es X.env := by rfl) (hpl : ((backTo pos (starEach (e :: es) X.env)).any (·.1) || (backToKw pos (keywordEach kws X.env)).any (·.1.isNone)) = true := by rfl) :
    PD X W (.Call (.Name x p) (e :: es) kws pos) (dMake C ks.length m ns gD ci fa fk) := by
  subst h1 h2 h3 h4 h5
  exact pd_makeS ⟨T.mono, T.rel, T.ex, T.mg⟩ (hr.mono hk) hG tk hg ha hkw hall hks hdb he hpl
end
end
end Pd
end
section
set_option autoImplicit false
set_option Elab.async false
set_option linter.all false
set_option autoImplicit false
set_option maxRecDepth 100000
set_option maxHeartbeats 4000000
/-! Pd19: raises and clauses, told once for all contexts. -/
namespace Pd
open PySem PySem.Spec PyProof.Rows L2
structure ExG (P : Program) (w : World) (K : PySem.W.Frag) (mg : Str → Option Value) (base : Heap) (k : Nat) (x : Str) (C : Addr) (fs : List Str) : Prop where
  ex : ∃ (B newId initId : String) (bm : List Value) (fI : Addr) (fd : FuncData) (ps : List Str), OexG K C B newId initId bm ∧ PySem.W.findIn K (.ref C) "__init__" = some (some (.ref fI)) ∧ PySem.W.typeIn K (.ref fI) = some (.type "function") ∧
    FnOk P w K mg base CX0 k fI fd ps (spEx C fs) ∧ Binds K fd ps []
  mg : mg x = some (.ref C)
  nd : fs.Nodup
  len : fs.length ≤ 900
  ne : fs ≠ []
section
variable {X : Cx} {W : Wz} {pos p p2 : Pos}
theorem draise {P : Program} {w : World} {K : PySem.W.Frag} {mg : Str → Option Value} {base : Heap} {k k' : Nat} {x : Str} {C : Addr} {fs : List Str} {e : Expr} {es : List Expr} {fa : Da} (T : ExG P w K mg base k x C fs) (hr : Room k' X.A) (hk : k + 1 ≤ k') (tk : Takes X W.w) (ha : PDA X W (e :: es) fa)
    (h1 : X.prog = P := by rfl) (h2 : X.w = w := by rfl) (h3 : X.K = K := by rfl) (h4 : X.mg = mg := by rfl) (h5 : X.base = base := by rfl) (hc : X.calm = true := by rfl) (hg : Gl X x := by rfl) (hdb : (x == ("__debug__" : Str)) = false := by decide)
    (he : starEach (e :: es) X.env = (false, eval e X.env) :: starEach es X.env := by rfl) (hpl : (backTo p2 (starEach es X.env)).any (·.1) = false := by rfl) : PDS X W (.Raise (some (.Call (.Name x p) (e :: es) [] p2)) none pos) (dRaise C fs fa) := by
  subst h1 h2 h3 h4 h5
  exact pds_raise ⟨T.ex, T.mg⟩ T.nd T.len T.ne (hr.mono hk) hc tk hg ha hdb he hpl
theorem nmO {x : Str} {C : Addr} (hm : X.mg x = some (.ref C)) (hg : Gl X x := by rfl) (hdb : (x == ("__debug__" : Str)) = false := by decide) : Names X x (.ref C) := ⟨hg, hdb, .inl hm⟩
theorem nmB {x : Str} {T : String} (hm : X.mg x = none) (hv : bootBuiltins x = some (.type T)) (hg : Gl X x := by rfl) (hdb : (x == ("__debug__" : Str)) = false := by decide) (hn : x ≠ "__name__" := by decide) : Names X x (.type T) := ⟨hg, hdb, .inr ⟨hm, hv, hn⟩⟩
theorem boot_ValueError : bootBuiltins "ValueError" = some (.type "ValueError") := by decide +kernel
theorem boot_KeyError : bootBuiltins "KeyError" = some (.type "KeyError") := by decide +kernel
theorem boot_LookupError : bootBuiltins "LookupError" = some (.type "LookupError") := by decide +kernel
theorem boot_RuntimeError : bootBuiltins "RuntimeError" = some (.type "RuntimeError") := by decide +kernel
theorem boot_IndexError : bootBuiltins "IndexError" = some (.type "IndexError") := by decide +kernel
theorem boot_OverflowError : bootBuiltins "OverflowError" = some (.type "OverflowError") := by decide +kernel
end
end Pd
end
section
set_option autoImplicit false
set_option Elab.async false
set_option linter.all false
set_option autoImplicit false
set_option maxRecDepth 100000
set_option maxHeartbeats 4000000
/-! Pd20: the draws are laid. -/
namespace Pd
open PySem PySem.Spec PyProof.Rows L2
/-- a list of three numbers of the frame's own is the draws from then on -/
theorem Rel.bagged {K : PySem.W.Frag} {F : Fr} {P H : Hp} {σ : L2.St} {sv : Sv} {i n : Nat} {x y : Int} (r : Rel K F P H σ sv) (h : sv[i]? = some (.own [.int x, .int y, .int 0])) (hx : 0 ≤ x) (hy : 0 ≤ y) (hy2 : y < 2 ^ 61) (hn : (n : Int) ≤ 2 ^ 39) : Rel K F P H σ (sv.set i (.bag n)) := by
  have hi : i < sv.length := (List.getElem?_eq_some_iff.mp h).1
  have back : ∀ {m : Nat} {z : Sl}, (sv.set i (.bag n))[m]? = some z → z.addr = true → ∃ z', sv[m]? = some z' ∧ z'.addr = true := fun {m z} em az => by
    by_cases hm : m = i
    · subst hm
      exact ⟨_, h, rfl⟩
    · rw [List.getElem?_set_ne (Ne.symm hm)] at em
      exact ⟨z, em, az⟩
  refine ⟨by rw [List.length_set]; exact r.len, r.lim, r.sub, r.p0, r.new, r.ext, r.selfs, r.bags, fun j s o e1 e2 => ?_, fun j k s t o u p ne e1 e2 a1 a2 s1 s2 eo eu => ?_, fun p vs hp => ?_⟩
  · by_cases hj : j = i
    · subst hj
      rw [List.getElem?_set_self hi] at e1
      cases e1
      obtain ⟨p, vs, e, h1, h2, h3, v1, r1, rfl, q1, v2, r2, rfl, q2, v3, r3, rfl, q3, rfl⟩ := r.sl j _ o h e2
      obtain rfl : v1 = .int x := q1
      obtain rfl : v2 = .int y := q2
      obtain rfl : v3 = .int 0 := q3
      exact ⟨p, e, h2, .inr h3, x, y, 0, h1, hx, hy, hy2, Int.le_refl _, by rw [Fr.lim_none h3]; simpa using hn⟩
    · rw [List.getElem?_set_ne (Ne.symm hj)] at e1
      exact r.sl j s o e1 e2
  · obtain ⟨s', b1, c1⟩ := back e1 a1
    obtain ⟨t', b2, c2⟩ := back e2 a2
    exact r.apart j k s' t' o u p ne b1 b2 c1 c2 s1 s2 eo eu
  · obtain ⟨z1, z2, z3, z4⟩ := r.kept p vs hp
    refine ⟨z1, z2, z3, fun m s e1 a1 => ?_⟩
    obtain ⟨s', b1, c1⟩ := back e1 a1
    exact z4 m s' b1 c1
/-- what the def that lays the draws promises: of a list of numbers and a place -/
def spBag (K : PySem.W.Frag) : Sp := fun vs H Q _ => ∃ (a : Addr) (ns : List Int) (i : Nat), vs = [.ref a, .int (i : Int)] ∧ SqL K H a (ns.map V.int) ∧ ns.length ≤ 100000 ∧ (i : Int) < 2 ^ 40 ∧ ∀ (p : Addr) (x y : Int), H p = none → 0 ≤ x → 0 ≤ y → y < 2 ^ 61 → Q (.ref p) (upd H p (.lst [.int x, .int y, .int 0]))
structure BagG (P : Program) (w : World) (K : PySem.W.Frag) (mg : Str → Option Value) (base : Heap) (k : Nat) (x : Str) : Prop where
  ex : ∃ (f : Addr) (fd : FuncData) (ps : List Str), ps.length = 2 ∧ Fd P w K mg base k f fd ps (spBag K) ∧ mg x = some (.ref f) ∧ PySem.W.keepIn K (.ref f) = true ∧ Binds K fd ps []
section
variable {X : Cx} {W : Wz} {pos p p2 : Pos}
/-- b = bag(xs, i): n draws may be made of it -/
@[simp] def dBag (n i : Nat) (fa : Da) : Ds := fun sv D => (n : Int) ≤ 2 ^ 39 ∧ fa sv (fun as sv1 => ∃ (ns : List Int) (j : Nat), as = [.dat (.scr ns), .dat (.int (j : Int))] ∧ ns.length ≤ 100000 ∧ (j : Int) < 2 ^ 40 ∧ i < sv1.length ∧ D.nx (sv1.set i (.bag n))) D.ex
theorem rpl_ints {K : PySem.W.Frag} {P : Hp} : ∀ {ns : List Int} {vs : List V}, RpL K P (ns.map D.int) vs → vs = ns.map V.int
  | [], _, h => h
  | n :: ns, _, h => by
    obtain ⟨v, r, rfl, h1, h2⟩ := h
    obtain rfl : v = .int n := h1
    rw [rpl_ints h2]
    rfl
theorem pds_bag {P : Program} {w : World} {K : PySem.W.Frag} {mg : Str → Option Value} {base : Heap} {k k' i : Nat} (n : Nat) {x y : Str} {pn : Pos} {e : Expr} {es : List Expr} {fa : Da} (G : BagG P w K mg base k x) (hr : Room k' X.A) (hk : k ≤ k') (hG : X.A.guards = some []) (tk : Takes X W.w) (hN : X.N.Nodup) (hi : X.N[i]? = some y) (hx : Loc X.env.scope y) (ha : PDA X W (e :: es) fa)
    (h1 : X.prog = P := by rfl) (h2 : X.w = w := by rfl) (h3 : X.K = K := by rfl) (h4 : X.mg = mg := by rfl) (h5 : X.base = base := by rfl) (hg : Gl X x := by rfl) (hdb : (x == ("__debug__" : Str)) = false := by decide)
    (he : starEach (e :: es) X.env = (false, eval e X.env) :: starEach es X.env := by rfl) (hpl : (backTo p2 (starEach es X.env)).any (·.1) = false := by rfl) (hs : swapsWith (.Call (.Name x p) (e :: es) [] p2) (some (.Name y pn)) pos.line X.env = pure false := by rfl)
    (hf : X.fn y = true ∨ X.env.scope.names.lookup y = some .local := by first | exact .inl rfl | exact .inr rfl | assumption) :
    PDS X W (.Assign [.Name y pn] (.Call (.Name x p) (e :: es) [] p2) pos) (dBag n i fa) := by
  subst h1 h2 h3 h4 h5
  obtain ⟨f, fd, ps, hps, F1, hm, hkp, hb⟩ := G.ex
  obtain ⟨ta, p1, s1⟩ := ha
  refine ⟨_, ps_set hN hi hx (pe_callF (W := W) F1 (hr.mono hk) hG hg hm hkp hb .nil tk p1 hdb he hpl) hs hf, fun Fr P H σ sv D Dd r l q => ?_⟩
  obtain ⟨hn, q⟩ := q
  refine s1 Fr P H σ sv _ _ _ r (fun vs H1 P1 as sv1 r1 t1 ra q1 => ?_) (fun cls dd H1 P1 x sv1 r1 rx q1 => l.ex cls dd σ H1 P1 x sv1 r1 rx q1) q
  obtain ⟨ns, j, rfl, hl, hj, hi2, q1⟩ := q1
  obtain ⟨v1, r', rfl, q2, v2, r'', rfl, q3, rfl⟩ := ra
  obtain ⟨a, rfl, e1⟩ := q2
  obtain rfl : v2 = .int (j : Int) := q3
  refine ⟨a, ns, j, by rfl, sub_l r1.sub e1, hl, hj, fun p x y hp hx hy hy2 => ?_⟩
  have rn := r1.layH (o := .lst [.int x, .int y, .int 0]) hp
  have nw : NewL X.K (Fr.at W.z) P1 (upd H1 p (.lst [.int x, .int y, .int 0])) σ sv1 p [.int x, .int y, .int 0] := r1.newL hp ⟨_, _, rfl, rfl, _, _, rfl, rfl, _, _, rfl, rfl, rfl⟩
  have r2 := rn.setNew (i := i) nw
  have r3 := r2.bagged (n := n) (List.getElem?_set_self hi2) hx hy hy2 hn
  rw [List.set_set] at r3
  exact l.nx _ _ P1 _ r3 t1 q1
end
end Pd
end
section
set_option autoImplicit false
set_option Elab.async false
set_option linter.all false
set_option autoImplicit false
set_option maxRecDepth 100000
set_option maxHeartbeats 4000000
/-! Pd21: a constant of a class; the own __init__ of an error class, one field or two. -/
namespace Pd
open PySem PySem.Spec PyProof.Rows L2
/-- C.f is the tuple of these texts -/
structure ClsT (K : PySem.W.Frag) (C : Addr) (f : Str) (ss : List Str) : Prop where
  ex : ∃ (mc : Value) (a : Addr), ClX.CRead K C mc ∧ ClX.CVal K C mc f (.ref a) (.ref a) ∧ ∀ P, SqT K P a (ss.map V.str)
theorem rpl_strs {K : PySem.W.Frag} {P : Hp} : ∀ ss : List Str, RpL K P (ss.map D.str) (ss.map V.str)
  | [] => rfl
  | s :: ss => ⟨_, _, rfl, rfl, rpl_strs ss⟩
theorem dclsT {X : Cx} {W : Wz} {K : PySem.W.Frag} {pos p : Pos} {C : Addr} {x f : Str} {ss : List Str} (T : ClsT K C f ss) (hm : X.mg x = some (.ref C)) (hK : X.K = K := by rfl) (hg : Gl X x := by rfl) (hdb : (x == ("__debug__" : Str)) = false := by decide)
    (hb : attributeBase (.Name x p) f X.env (eval (.Name x p) X.env) = eval (.Name x p) X.env := by rfl) : PD X W (.Attribute (.Name x p) f pos) (dC (.cst (ss.map D.str))) := by
  subst hK
  obtain ⟨mc, a, r, c, sq⟩ := T.ex
  exact ⟨_, ClX.pe_cval (pe_glob (v := .ref C) hg hm rfl hdb) hb, fun F P H σ sv Q E R re k _ q => ⟨C, mc, .ref a, _, rfl, r, c, k (.ref a) H P (.cst (ss.map D.str)) sv re (Sub.refl P) ⟨a, _, rfl, sq P, rpl_strs ss⟩ q⟩⟩
end Pd
end
section
set_option autoImplicit false
set_option Elab.async false
set_option linter.all false
set_option autoImplicit false
set_option maxRecDepth 100000
set_option maxHeartbeats 4000000
/-! Pd22: list comprehensions of two clauses. -/
namespace Pd
open PySem PySem.Spec PyProof.Rows L2
theorem wipe_sub {σ : L2.St} {vs vs1 : List Nat} (h : ∀ i ∈ vs1, i ∈ vs) : wipe (wipe σ vs1) vs = wipe σ vs := by
  refine List.ext_getElem? fun i => ?_
  rw [wipe_get, wipe_get]
  by_cases hi : i ∈ vs
  · simp only [hi, if_true]
    rw [wipe_get]
    split
    · cases σ[i]? <;> rfl
    · rfl
  · simp only [hi, if_false]
    rw [wipe_get, if_neg fun z => hi (h i z)]
    simp only [hi, if_false]
def goLc2 (dg : Dg) (dt : Dt) (f1 : Dl) (dg1 : Dg) (dt1 : Dt) (fe : De) (vs vs1 : List Nat) (Q : List D → Sv → Prop) : List D → Sv → List D → Prop
  | [], sv, acc => Q acc sv
  | d :: ds, sv, acc => dg d sv fun sv1 => dt sv1 (fun b sv2 => if b = true then f1 sv2 (fun es sv3 => goLc dg1 dt1 fe vs1 (fun acc' sv4 => goLc2 dg dt f1 dg1 dt1 fe vs vs1 Q ds (unAt sv4 vs) acc') es (unAt sv3 vs1) acc) (fun _ _ => False)
    else goLc2 dg dt f1 dg1 dt1 fe vs vs1 Q ds (unAt sv2 vs) acc) fun _ _ => False
def dLc2 (f : Dl) (dg : Dg) (dt : Dt) (f1 : Dl) (dg1 : Dg) (dt1 : Dt) (fe : De) (vs vs1 : List Nat) : Dl := fun sv Q E => f sv (fun ds sv1 => goLc2 dg dt f1 dg1 dt1 fe vs vs1 Q ds (unAt sv1 vs) []) E
theorem drop_cons {ds : List D} {i : Nat} {d : D} (hlt : i < ds.length) (ed : ds[i]? = some d) : ds.drop i = d :: ds.drop (i + 1) := by
  rw [List.drop_eq_getElem_cons hlt]
  rw [List.getElem?_eq_getElem hlt] at ed
  rw [Option.some.inj ed]
theorem snd_lc2 {K : PySem.W.Frag} {W : Wz} {wi wi1 : TI} {g g1 : TG} {tt tt1 : TT} {te : TE} {vs vs1 : List Nat} {f f1 : Dl} {dg dg1 : Dg} {dt dt1 : Dt} {fe : De} (hv : ∀ i ∈ vs1, i ∈ vs) (h1 : SndI K W wi f) (h2 : SndGw vs K g dg) (h3 : SndT K (wNo W.z) tt dt) (h5 : SndI K (wNo W.z) wi1 f1) (h6 : SndGw vs1 K g1 dg1) (h7 : SndT K (wNo W.z) tt1 dt1)
    (h4 : SndE K (wNo W.z) te fe) : SndL K W (tLc2 wi g tt wi1 g1 tt1 te vs vs1) (dLc2 f dg dt f1 dg1 dt1 fe vs vs1) := fun F P H σ sv Q E R r k kx q =>
  h1 F P H σ sv _ E _ r (fun J H1 P1 ds sv1 r1 t1 w q1 D hD => by
    have n0 := r1.newL hD (ds := []) (vs := []) rfl
    have hk : ∀ q us, (q, us) ∈ F.Kp → q ≠ D := n0.choose_spec.2.2.2.2.2
    have rl := r1.layH (o := .lst []) hD
    obtain ⟨ws, rw0, ra⟩ := rl.aside n0
    have ew : ws = [] := rw0
    subst ew
    have rw1 := ra.wipe vs
    let Out : Nat → Hp → Prop := fun i H2 => ∃ P2 sv2 acc us, Rel K ((F.at W.z).keep D us) P2 H2 (L2.wipe σ vs) sv2 ∧ Sub P1 P2 ∧ (∀ (i : Nat) (s : Sl), i ∈ vs → sv2[i]? = some s → s = .un) ∧ RpL K P2 acc us ∧ goLc2 dg dt f1 dg1 dt1 fe vs vs1 Q (ds.drop i) sv2 acc
    refine ⟨fun i m H2 => m = ds.length - i ∧ i ≤ ds.length ∧ Out i H2, ⟨_, rfl, Nat.zero_le _, P1, _, [], [], rw1, Sub.refl P1, fun i s hi e => unAt_un hi e, rfl, q1⟩, ?_⟩
    rintro i m H2 ⟨rfl, hi, P2, sv2, acc, us, r2, s2, hu, ru, q2⟩
    by_cases hlt : i < ds.length
    · obtain ⟨g1', g2'⟩ := w.go i H2 P2 s2 r2.sub hlt
      refine .inr ⟨g1', Out (i + 1), fun H' z => ⟨ds.length - (i + 1), by omega, rfl, hlt, z⟩, fun x H' y => ?_⟩
      obtain ⟨P2', n1, n2, n3, n4, d, ed, rx⟩ := g2' x H' y
      replace r2 := Rel.grow r2 n1 n2 n3 n4
      replace s2 := s2.trans n1
      replace ru := RpL.mono n1 _ _ ru
      rw [drop_cons hlt ed] at q2
      refine h2 _ P2' _ _ sv2 d x _ _ r2 rx (fun σ3 sv3 e3 r3 q3 => ⟨e3.trans wipe_wipe, ?_⟩) q2
      have e3' : L2.wipe σ3 vs = L2.wipe σ vs := e3.trans wipe_wipe
      refine h3 (F.keep D us) P2' _ σ3 sv3 _ _ _ r3 (fun b H4 P4 sv4 r4 t4 q4 => ?_) (fun _ _ _ _ _ _ _ _ z => z) q3
      cases b with
      | false =>
        have q4 : goLc2 dg dt f1 dg1 dt1 fe vs vs1 Q (ds.drop (i + 1)) (unAt sv4 vs) acc := q4
        have := (show Rel K ((F.at W.z).keep D us) P4 H4 σ3 sv4 from r4).wipe vs
        rw [e3'] at this
        exact ⟨P4, unAt sv4 vs, acc, us, this, s2.trans t4, fun i s hi e => unAt_un hi e, RpL.mono t4 _ _ ru, q4⟩
      | true =>
        rw [if_pos rfl] at q4
        refine h5 (F.keep D us) P4 H4 σ3 sv4 _ _ _ r4 (fun J1 H5 P5 es sv5 r5 t5 w1 q5 => ?_) (fun _ _ _ _ _ _ _ _ z => z) q4
        have r5' := (show Rel K ((F.at W.z).keep D us) P5 H5 σ3 sv5 from r5).wipe vs1
        let In : Nat → Hp → Prop := fun j H6 => ∃ P6 sv6 acc6 us6, Rel K ((F.at W.z).keep D us6) P6 H6 (L2.wipe σ3 vs1) sv6 ∧ Sub P5 P6 ∧ (∀ (i : Nat) (s : Sl), i ∈ vs1 → sv6[i]? = some s → s = .un) ∧ RpL K P6 acc6 us6 ∧
          goLc dg1 dt1 fe vs1 (fun acc' sv4 => goLc2 dg dt f1 dg1 dt1 fe vs vs1 Q (ds.drop (i + 1)) (unAt sv4 vs) acc') (es.drop j) sv6 acc6
        refine ⟨fun j k' H6 => k' = es.length - j ∧ j ≤ es.length ∧ In j H6, ⟨_, rfl, Nat.zero_le _, P5, _, acc, us, r5', Sub.refl P5, fun i s hi e => unAt_un hi e, RpL.mono (t4.trans t5) _ _ ru, q5⟩, ?_⟩
        rintro j k' H6 ⟨rfl, hj, P6, sv6, acc6, us6, r6, s6, hu6, ru6, q6⟩
        by_cases hlt2 : j < es.length
        · obtain ⟨g3', g4'⟩ := w1.go j H6 P6 s6 r6.sub hlt2
          refine .inr ⟨g3', In (j + 1), fun H' z => ⟨es.length - (j + 1), by omega, rfl, hlt2, z⟩, fun x2 H' y2 => ?_⟩
          obtain ⟨P6', n1, n2, n3, n4, d2, ed2, rx2⟩ := g4' x2 H' y2
          replace r6 := Rel.grow r6 n1 n2 n3 n4
          replace s6 := s6.trans n1
          replace ru6 := RpL.mono n1 _ _ ru6
          rw [drop_cons hlt2 ed2] at q6
          refine h6 _ P6' _ _ sv6 d2 x2 _ _ r6 rx2 (fun σ7 sv7 e7 r7 q7 => ⟨e7.trans wipe_wipe, ?_⟩) q6
          have e7' : L2.wipe σ7 vs1 = L2.wipe σ3 vs1 := e7.trans wipe_wipe
          refine h7 (F.keep D us6) P6' _ σ7 sv7 _ _ _ r7 (fun b H8 P8 sv8 r8 t8 q8 => ?_) (fun _ _ _ _ _ _ _ _ z => z) q7
          cases b with
          | true =>
            rw [if_pos rfl] at q8
            refine h4 (F.keep D us6) P8 H8 σ7 sv8 _ _ _ r8 (fun y9 H9 P9 z9 sv9 r9 t9 rz9 q9 => ?_) (fun _ _ _ _ _ _ _ _ z => z) q8
            obtain ⟨hl, q9⟩ := q9
            obtain ⟨k1, k2, k3, k4⟩ := r9.kept D ⟨.lst us6, fun _ z => by cases z⟩ List.mem_cons_self
            refine ⟨us6, k1, Nat.lt_of_lt_of_le (by rw [ru6.length]; exact hl) (by decide), P9, unAt sv9 vs1, acc6 ++ [z9], us6 ++ [y9], ?_, s6.trans (t8.trans t9), fun i s hi e => unAt_un hi e, (RpL.mono (t8.trans t9) _ _ ru6).append ⟨y9, [], rfl, rz9, rfl⟩, q9⟩
            have := (Rel.keepTo (F := F.at W.z) (ws := us6 ++ [y9]) r9 hk).wipe vs1
            rw [e7'] at this
            exact this
          | false =>
            have q8 : goLc dg1 dt1 fe vs1 (fun acc' sv4 => goLc2 dg dt f1 dg1 dt1 fe vs vs1 Q (ds.drop (i + 1)) (unAt sv4 vs) acc') (es.drop (j + 1)) (unAt sv8 vs1) acc6 := q8
            have := (show Rel K ((F.at W.z).keep D us6) P8 H8 σ7 sv8 from r8).wipe vs1
            rw [e7'] at this
            exact ⟨P8, unAt sv8 vs1, acc6, us6, this, s6.trans t8, fun i s hi e => unAt_un hi e, RpL.mono t8 _ _ ru6, q8⟩
        · have e : j = es.length := by omega
          subst e
          rw [List.drop_length] at q6
          refine .inl ⟨w1.stop _ H6 P6 s6 r6.sub (Nat.le_refl _), ?_⟩
          have := r6.wipe vs
          rw [wipe_sub hv, e3'] at this
          exact ⟨P6, unAt sv6 vs, acc6, us6, this, s2.trans (t4.trans (t5.trans s6)), fun i s hi e => unAt_un hi e, ru6, q6⟩
    · have e : i = ds.length := by omega
      subst e
      rw [List.drop_length] at q2
      refine .inl ⟨w.stop _ H2 P2 s2 r2.sub (Nat.le_refl _), ?_⟩
      have n2 := r2.taken (Sub.refl P2) ru hk
      exact k D H2 P2 acc sv2 ((Rel.back (F := F.at W.z) r2).unwipe hu) (t1.trans s2) (n2.congr fun i s e ne => by rw [wipe_get, if_neg fun hi => ne (hu i s hi e)]) q2) kx q
section
variable {X : Cx} {W : Wz} {pos : Pos}
theorem pdl_lc2 {elt tg iter tg1 iter1 : Expr} {ifs ifs1 : List Expr} {scope : Scope} {own : List (Str × Nat)} {vs1 : List Nat} {f f1 : Dl} {dg dg1 : Dg} {dt dt1 : Dt} {fe : De} (hc : X.calm = true) (hN : X.N.Nodup) (ok : BlkOk X.N X.env.scope scope own) (hv : ∀ i ∈ vs1, i ∈ own.map (·.2)) (hi : PDI X W tg iter f)
    (hg : ∀ i : BI, PDGw (Cx.b X scope i) (own.map (·.2)) tg dg) (ht : ∀ i : BI, PDTs (Cx.b X scope i) (wNo W.z) ifs dt) (hi1 : ∀ i : BI, PDI (Cx.b X scope i) (wNo W.z) tg1 iter1 f1) (hg1 : ∀ i : BI, PDGw (Cx.b X scope i) vs1 tg1 dg1) (ht1 : ∀ i : BI, PDTs (Cx.b X scope i) (wNo W.z) ifs1 dt1)
    (he : ∀ i : BI, PD (Cx.b X scope i) (wNo W.z) elt fe) (hs : ∀ x, foldedSetIterable iter X.env x = pure x := by intro _; rfl) (hs1 : ∀ env x, foldedSetIterable iter1 env x = pure x := by intro _ _; rfl) :
    PDL X W (.ListComp elt [⟨tg, iter, ifs, 0⟩, ⟨tg1, iter1, ifs1, 0⟩] scope pos) (dLc2 f dg dt f1 dg1 dt1 fe (own.map (·.2)) vs1) := by
  obtain ⟨wi, p1, s1⟩ := hi
  obtain ⟨g, p2, s2⟩ := fam_gw (X := fun i => Cx.b X scope i) (fun _ => rfl) hg
  obtain ⟨tt, p3, s3⟩ := fam_ts (X := fun i => Cx.b X scope i) (fun _ => rfl) ht
  obtain ⟨wi1, p5, s5⟩ := fam_i (X := fun i => Cx.b X scope i) (fun _ => rfl) hi1
  obtain ⟨g1, p6, s6⟩ := fam_gw (X := fun i => Cx.b X scope i) (fun _ => rfl) hg1
  obtain ⟨tt1, p7, s7⟩ := fam_ts (X := fun i => Cx.b X scope i) (fun _ => rfl) ht1
  obtain ⟨te, p4, s4⟩ := fam_e (X := fun i => Cx.b X scope i) (fun _ => rfl) he
  exact ⟨_, pe_lc2 hc hN p1 ok hv (fun s H C cl fp => p2 (s, H, C, cl, fp)) (fun s H C cl fp => p3 (s, H, C, cl, fp)) (fun s H C cl fp => p5 (s, H, C, cl, fp)) (fun s H C cl fp => p6 (s, H, C, cl, fp)) (fun s H C cl fp => p7 (s, H, C, cl, fp)) (fun s H C cl fp => p4 (s, H, C, cl, fp)) hs hs1, snd_lc2 hv s1 s2 s3 s5 s6 s7 s4⟩
end
end Pd
end
section
set_option autoImplicit false
set_option Elab.async false
set_option linter.all false
set_option autoImplicit false
set_option maxRecDepth 100000
set_option maxHeartbeats 4000000
/-! Pd23: len(set(xs)) of a list of texts. -/
namespace Pd.Sx
open PySem PySem.Spec PyProof.Rows L2
/-- how many different ones stand among the first i -/
def many (xs : List Str) : Nat → Nat
  | 0 => 0
  | i + 1 => if (xs.take i).any (· == xs.getD i Str.empty) = true then many xs i else many xs i + 1
theorem many_le (xs : List Str) : ∀ i, many xs i ≤ i
  | 0 => Nat.le_refl _
  | i + 1 => by
    have := many_le xs i
    unfold many
    split <;> omega
theorem take_more {xs : List Str} {i : Nat} (h : i < xs.length) : xs.take (i + 1) = xs.take i ++ [xs.getD i Str.empty] := by
  rw [List.take_succ, List.getD_eq_getElem?_getD, List.getElem?_eq_getElem h]
  rfl
theorem many_all (xs : List Str) : ∀ i, i ≤ xs.length → (many xs i = i ↔ (xs.take i).Nodup)
  | 0, _ => by simp [many]
  | i + 1, h => by
    have ih := many_all xs i (by omega)
    have le := many_le xs i
    rw [take_more (by omega)]
    unfold many
    by_cases c : (xs.take i).any (· == xs.getD i Str.empty) = true
    · rw [if_pos c]
      refine ⟨fun e => by omega, fun nd => ?_⟩
      exfalso
      obtain ⟨y, hy, e⟩ := List.any_eq_true.mp c
      have ey : y = xs.getD i Str.empty := by simpa using e
      rw [List.nodup_append] at nd
      exact nd.2.2 y hy _ (List.mem_singleton.mpr rfl) ey
    · rw [if_neg c]
      have c2 : ∀ y ∈ xs.take i, y ≠ xs.getD i Str.empty := fun y hy e => c (List.any_eq_true.mpr ⟨y, hy, by simp [e]⟩)
      constructor
      · intro e
        rw [List.nodup_append]
        refine ⟨ih.mp (by omega), by simp, fun a ha b hb => ?_⟩
        rw [List.mem_singleton.mp hb]
        exact c2 a ha
      · intro nd
        rw [List.nodup_append] at nd
        have := ih.mpr nd.1
        omega
theorem many_lt (xs : List Str) : many xs xs.length < xs.length ↔ ¬ xs.Nodup := by
  have a := many_all xs xs.length (Nat.le_refl _)
  have b := many_le xs xs.length
  rw [List.take_length] at a
  constructor
  · intro h nd
    have := a.mpr nd
    omega
  · intro h
    rcases Nat.lt_or_ge (many xs xs.length) xs.length with c | c
    · exact c
    · exact absurd (a.mp (Nat.le_antisymm b c)) h
section
variable {prog : Program} {w : World} {A : Around} {R : Result → Shared → Prop} {I : Addr} {fp wr : List Addr} {G : Array GenState → Array GenState → Prop} {n : Nat} {P : Nat → Value → Prop} {St : Nat → Shared → Prop}
/-- one item more, of whatever kind: J i holds of the heap where i items are in -/
def Adds (prog : Program) (w : World) (A : Around) (S : Addr) (n : Nat) (P : Nat → Value → Prop) (J : Nat → Heap → Prop) : Prop :=
  ∀ (i : Nat) (v : Value) (s : Shared) (Q : Bool → Shared → Prop) (E : Value → Shared → Prop), i < n → P i v → J i s.heap →
    (∀ (b : Bool) (h' : Heap) (tk : Nat), Heap.SameBut S s.heap h' → J (i + 1) h' → s.toks ≤ tk → Q b { s with heap := h', toks := tk }) → wpAny (model prog w) A (setAdd S v) Q E s
/-- what is said of the set at S depends on it alone -/
def Own (S : Addr) (J : Nat → Heap → Prop) : Prop := ∀ (i : Nat) (h h' : Heap), (∀ o, h.get? S = some o → h'.get? S = some o) → J i h → J i h'
theorem loopJ (W : WalksS prog w A.in1 I fp wr G n P St) (S : Addr) (out : S ∉ fp) (J : Nat → Heap → Prop) (own : Own S J) (add : Adds prog w A.in1 S n P J) :
    ∀ (k i : Nat) (s : Shared), i + k = n → St i s → J i s.heap → (∀ s', Moved (S :: wr) G s s' → J n s'.heap → R (.ok (.ret .none)) s') →
      codeAny (model prog w) A (.builtin "set.update.loop" ⟨[.ref S, .ref I], []⟩) R s
  | 0, i, s, e, st, j, q => by
    obtain rfl : i = n := e
    have nw : S ∉ wr := fun z => out (W.sub _ z)
    refine codeAny_builtin PyProof.Rows.F.entry_set_update_loop ?_; rw [Around.under_plainId PyProof.Rows.F.plain_set_update_loop _]
    refine wpAny_bind (m := pyNext (.ref I)) (W.done s _ _ st fun s1 mv => ?_)
    exact wpAny_pure (q s1 (mv.mono fun b hb => List.mem_cons_of_mem _ hb) (own _ _ _ (fun o z => mv.heap S o nw z) j))
  | k + 1, i, s, e, st, j, q => by
    have nw : S ∉ wr := fun z => out (W.sub _ z)
    have lt : i < n := by omega
    refine codeAny_builtin PyProof.Rows.F.entry_set_update_loop ?_; rw [Around.under_plainId PyProof.Rows.F.plain_set_update_loop _]
    refine wpAny_bind (m := pyNext (.ref I)) (W.item i s _ _ lt st fun v s1 hv st1 mv => ?_)
    refine wpAny_bind (m := holding [v] (setAdd S v)) (wpAny_holding ?_)
    refine add i v s1 _ _ lt hv (own _ _ _ (fun o z => mv.heap S o nw z) j) fun b h1 tk sb j1 le => ?_
    have same : ∀ b o, b ≠ S → s1.heap.get? b = some o → h1.get? b = some o := fun b o ne z => by rw [sb.2 b ne]; exact z
    refine wpAny_pure ⟨plainId_quiet PyProof.Rows.F.plain_set_update_loop _, loopJ W S out J own add k (i + 1) _ (by omega) (W.frame _ s1 _ _ st1 le fun b hb o z => same b o (fun c => out (c ▸ hb)) z) j1 fun s2 mv2 j2 => q s2 ?_ j2⟩
    refine Moved.trans W.gtrans ((mv.mono fun b hb => List.mem_cons_of_mem _ hb).then_heap le fun b o hb z => same b o (fun c => hb (c ▸ List.mem_cons_self)) z) mv2
end
section
variable {prog : Program} {w : World} {A : Around} {E : Value → Shared → Prop} {s : Shared}
/-- a set that has just been made, empty -/
abbrev bare (led : Bool) : Obj := { cls := .type "set", dict := none, data := .set #[] 0 (.fresh 0 0 led) }
/-- set(xs) of a list, of items of whatever kind -/
theorem set_list {l : Addr} {items : Array Value} {Q : Value → Shared → Prop} (J : Nat → Heap → Prop) (hh : A.handled = none) (hl : s.heap.IsList l items) (own : Own s.heap.objs.size J)
    (j0 : ∀ (h : Heap) (led : Bool), h.get? s.heap.objs.size = some (bare led) → J 0 h) (add : ∀ A', A'.handled = none → Adds prog w A' s.heap.objs.size items.size (fun i v => items[i]? = some v) J)
    (q : ∀ (h' : Heap) (tk : Nat), J items.size h' → (∀ b o, s.heap.get? b = some o → h'.get? b = some o) → Q (.ref s.heap.objs.size) { s with heap := h', toks := tk }) :
    wpAny (model prog w) A (call (.type "set") [.ref l]) Q E s := by
  obtain ⟨_, _, m1⟩ := PySem.F.called_set.mro
  have m2 := PySem.F.called_set.made; have m3 := PySem.F.called_set.sub; have m4 := PySem.F.called_set.notType; have m5 := PySem.F.called_set.canCreate; have m6 := PySem.F.typeCall_set_1 (.ref l)
  refine wpAny_call (codeAny_of_tree ?_); show wpAny _ _ (callAny (.type "set") _) _ _ _
  refine wpAny_pure ⟨Code.quiet_builtin _ (by decide +kernel), codeAny_builtin PySem.F.entry_type_call ?_⟩; rw [Around.under_plain (weight_type_call_type "set" [.ref l] []) rfl]
  repeat (any_goals (first | assumption | wp_step))
  refine codeAny_mono (code_set_new_1 (.ref l) (E := E) (Q₁ := fun x s1 => ∃ led : Bool, x = .ref s.heap.objs.size ∧ s1 = { s with heap := s.heap.push (bare led) }) fun led => ⟨led, rfl, rfl⟩) fun r s1 hr => ?_
  match r, hr with
  | .error e, hr => exact hr
  | .ok .next, hr => exact hr.elim
  | .ok .brk, hr => exact hr.elim
  | .ok .cont, hr => exact hr.elim
  | .ok (.ret x), ⟨led, e1, e2⟩ =>
    subst e1; subst e2
    have at0 : (s.heap.push (bare led)).get? s.heap.objs.size = some (bare led) := Heap.get?_push_size _ rfl
    have ty : Shared.TypeIs { s with heap := s.heap.push (bare led) } (.ref s.heap.objs.size) "set" := ⟨_, at0, rfl⟩
    have i1 := PySem.F.called_set.init.lookup; have i2 := PySem.F.called_set.init.bind (.ref s.heap.objs.size)
    repeat (any_goals (first | assumption | wp_step))
    refine codeAny_mono (codeAny_call_builtin (R := wants (fun x s2 => x = .none ∧ ∃ h' tk, s2 = { s with heap := h', toks := tk } ∧ J items.size h' ∧ ∀ b o, s.heap.get? b = some o → h'.get? b = some o) E) PySem.F.called_set.init.plain PySem.F.entry_set_init (check_set_init_1 ty ?_)) fun r2 s2 hr2 => ?_
    · obtain ⟨⟨oc, od, ot, os⟩, ho, c1, nl, c2⟩ := hl
      simp only at c1 c2
      subst c1; subst c2
      have lL : (s.heap.push (bare led)).get? l = some { cls := .type "list", dict := od, data := .seq items nl, slots := os } := Heap.get?_push_of_some _ ho
      have n1 := PySem.F.sub_list_set; have n2 := PySem.F.sub_list_frozenset; have n3 : (Value.type "list" == Value.type "dict") = false := by decide
      have isl : (s.heap.push (bare led)).IsList l items := ⟨_, lL, rfl, nl, rfl⟩
      unfold Builtin.«set.__init__» noKeywords Builtin.Frozenset.updateFrom
      generalize hPI : pyIter = PI
      wp_walk
      subst hPI
      refine wpAny_pyIter_list isl (wpAny_bind (wpAny_runValue ?_))
      have lt : l < s.heap.objs.size := Heap.lt_size ho
      have hh3 : A.in1.in1.in1.handled = none := by simp [hh]
      have z1 : (s.heap.push (bare led)).objs.size = s.heap.objs.size + 1 := Heap.size_push ..
      have ne1 : l ≠ (s.heap.push (bare led)).objs.size := fun z => Nat.lt_irrefl l (by rw [z1] at z; exact Nat.lt_of_lt_of_le lt (by rw [z]; exact Nat.le_succ _))
      have ne2 : s.heap.objs.size ≠ (s.heap.push (bare led)).objs.size := fun z => Nat.ne_of_lt (Nat.lt_succ_self _) (z.trans z1)
      refine loopJ ((Walks.list hh3 _ l ne1 items).toS) s.heap.objs.size (by simp only [List.mem_cons, List.not_mem_nil, or_false, not_or]; exact ⟨ne2, Nat.ne_of_gt lt⟩) J own (add _ (by simp [hh])) items.size 0 _ (Nat.zero_add _) ⟨⟨_, Heap.get?_push_size _ rfl, rfl, rfl⟩, (isl.push _)⟩ ?z0 ?zR
      case z0 => exact j0 _ led (Heap.get?_push_of_some _ at0)
      case zR =>
        intro s3 mv j3
        obtain ⟨h3, g3, d3, t3, o3⟩ := s3
        obtain rfl : g3 = s.gens := mv.gens
        obtain rfl : d3 = s.drawn := mv.drawn
        obtain rfl : o3 = s.os := mv.os
        show wpAny _ _ _ _ _ _
        refine wpAny_pure ?_
        show wpAny _ _ (ret Value.none) _ _ _
        refine wpAny_pure ⟨rfl, h3, t3, rfl, j3, fun b o z => ?_⟩
        have bl : b < s.heap.objs.size := Heap.lt_size z
        refine mv.heap b o ?_ (Heap.get?_push_of_some _ (Heap.get?_push_of_some _ z))
        simp only [List.mem_cons, List.not_mem_nil, or_false, not_or]
        exact ⟨Nat.ne_of_lt bl, fun z => Nat.lt_irrefl b (Nat.lt_of_lt_of_le bl (by rw [z, z1]; exact Nat.le_succ _))⟩
    · match r2, hr2 with
      | .error e, hr2 => exact hr2
      | .ok .next, hr2 => exact hr2.elim
      | .ok .brk, hr2 => exact hr2.elim
      | .ok .cont, hr2 => exact hr2.elim
      | .ok (.ret x2), ⟨e1, h', tk, e2, j3, kp⟩ =>
        subst e1; subst e2
        repeat (any_goals (first | assumption | wp_step))
        exact q h' tk j3 kp
/-- of texts -/
theorem adds_str {A' : Around} {S : Addr} {items : Array Value} {xs : List Str} (hi : StrsAre items.toList xs) (hb : xs.length + 1 < scanBound) : Adds prog w A' S items.size (fun i v => items[i]? = some v) (fun i h => h.SetOf (PySem.strKind prog w) S (fun k => (xs.take i).any (· == k)) (many xs i)) := by
  intro i v s Q E lt hv j q
  have hl : items.size = xs.length := by rw [← StrsAre.len_eq hi, Array.length_toList]
  obtain ⟨t, rfl⟩ := SS.strs_at hi i v (by rw [Array.getElem?_toList]; exact hv)
  unfold setAdd
  refine wpAny_holding (wpAny_bind ((PySem.strKind prog w).pyHash (k := xs.getD i Str.empty) (strKind_is _ _ _ _) ?_))
  have lm := many_le xs i
  refine wpAny_setAddHashed_of (knd := PySem.strKind prog w) (s := { s with toks := s.toks + 1 }) (strKind_is _ _ _ _) rfl j (by omega) fun h' sb S2 => ?_
  refine q _ h' (s.toks + 1) sb (SetOf_congr S2 (fun k => ?_) rfl) (Nat.le_succ _)
  rw [take_more (by omega), List.any_append]
  congr 1
  simp only [List.any_cons, List.any_nil, Bool.or_false]
  by_cases e : k = xs.getD i Str.empty
  · subst e; simp
  · rw [decide_eq_false e]
    symm
    exact beq_eq_false_iff_ne.mpr fun z => e z.symm
end
end Pd.Sx
namespace Pd
open PySem PySem.Spec PyProof.Rows L2
section
variable {X : Cx} {W : Wz} {pos : Pos}
/-- len(set(xs)) of a list of texts -/
def tLenSetT (K : PySem.W.Frag) (ta : TE) : TE := fun σ H Q => ta σ H fun x H1 => ∃ l, ∃ xs : List Str, x = .ref l ∧ SqL K H1 l (xs.map V.str) ∧ xs.length ≤ 2000 ∧ Q (.int (Sx.many xs xs.length : Nat)) H1
theorem pe_lenSetT {a : Expr} {ta : TE} {p p2 q : Pos} (hc : X.calm = true) (hg : Gl X "len") (hm : X.mg "len" = none) (hg2 : Gl X "set") (hm2 : X.mg "set" = none) (ha : PE X a ta)
    (na : starEach [a] X.env = (false, eval a X.env) :: starEach [] X.env := by rfl) : PE X (.Call (.Name "len" p) [.Call (.Name "set" p2) [a] [] q] [] pos) (tLenSetT X.K ta) := by
  refine ⟨fun pins s σ H Q I h => Call_ (ld_blt I hg hm boot_len ?_)⟩
  refine PyProof.Rows.callWith_builtin1 (PyProof.Rows.args_cons ?_ rfl) rfl rfl
  refine Call_ (ld_blt I hg2 hm2 boot_set (PyProof.Rows.callWith_type1 (PyProof.Rows.args_cons (thn (ha.run pins s σ H _ I h) fun v s1 ⟨x, H1, I1, r1, q1⟩ => PyProof.Rows.args_nil ?_) na) na rfl))
  obtain ⟨l, xs, rfl, hq, h1, q1⟩ := q1
  cases r1
  obtain ⟨its, r, pl, hz⟩ := I1.list hq
  have hl : its.toArray.size = xs.length := by rw [List.size_toArray, ← r.length, List.length_map]
  have hi : StrsAre its.toArray.toList xs := by simpa using strsAre_of r
  have hb : xs.length + 1 < scanBound := by unfold scanBound; omega
  refine Sx.set_list (fun i h => h.SetOf (PySem.strKind X.prog X.w) s1.heap.objs.size (fun k => (xs.take i).any (· == k)) (Sx.many xs i)) (I1.ok.hd hc) pl.isList (fun i h h' k ⟨o, es, ep, t, ho, rest⟩ => ⟨o, es, ep, t, k o ho, rest⟩)
    (fun h led e => SetOf_congr ((setObjOf_fresh (knd := PySem.strKind X.prog X.w) led).setOf e (by unfold scanBound; omega)) (fun _ => rfl) rfl) (fun A' _ => Sx.adds_str hi hb) fun h' tk hS hk => ?_
  refine PyProof.Rows.args_nil ?_
  rw [hl] at hS
  obtain ⟨o, es, ep, t, ho, hex, hd, _, _, _, hf, hn⟩ := hS
  have I2 : Inv X pins σ H1 { s1 with heap := h', toks := tk } := I1.kept fun b o e => hk b o e
  have lm := Sx.many_le xs xs.length
  exact call_len_set ho hex hd hf (by rw [hn]; omega) ⟨.int (Sx.many xs xs.length : Nat), H1, I2.tok _, ⟨_, by rw [hn]⟩, q1⟩
def dLenSet (f : De) : De := fun sv Q E => f sv (fun d sv1 => ∃ ss : List Str, d = .lst (ss.map .str) ∧ ss.length ≤ 2000 ∧ Q (.int (Sx.many ss ss.length : Nat)) sv1) E
theorem rpl_strs2 {K : PySem.W.Frag} {P : Hp} : ∀ {ss : List Str} {vs : List V}, RpL K P (ss.map D.str) vs → vs = ss.map V.str
  | [], _, h => h
  | s :: ss, _, h => by
    obtain ⟨v, r, rfl, h1, h2⟩ := h
    obtain rfl := h1
    rw [rpl_strs2 h2]
    rfl
theorem pd_lenSet {a : Expr} {f : De} {p p2 q : Pos} (hc : X.calm = true) (hm : X.mg "len" = none) (hm2 : X.mg "set" = none) (ha : PD X W a f) (hg : Gl X "len" := by rfl) (hg2 : Gl X "set" := by rfl)
    (na : starEach [a] X.env = (false, eval a X.env) :: starEach [] X.env := by rfl) : PD X W (.Call (.Name "len" p) [.Call (.Name "set" p2) [a] [] q] [] pos) (dLenSet f) := by
  obtain ⟨t, p1, s1⟩ := ha
  refine ⟨_, pe_lenSetT hc hg hm hg2 hm2 p1 na, fun F P H σ sv Q E R re k kx q => s1 F P H σ sv _ E _ re (fun v H1 P1 d sv1 r1 sb rv ⟨ss, e, hl, q1⟩ => ?_) kx q⟩
  subst e
  obtain ⟨l, ys, rfl, e1, rl⟩ := rv
  obtain rfl := rpl_strs2 rl
  exact ⟨l, ss, rfl, SqL.of (r1.sub _ _ e1), hl, k _ H1 P1 (.int (Sx.many ss ss.length : Nat)) sv1 r1 sb rfl q1⟩
end
end Pd
end
section
set_option autoImplicit false
set_option Elab.async false
set_option linter.all false
set_option autoImplicit false
set_option maxRecDepth 100000
set_option maxHeartbeats 4000000
/-! Pd24: xs == [], xs != [] of a list of one's own; == and != where the left side is data or an instance of a class with an own __eq__. -/
namespace Pd
open PySem PySem.Spec PyProof.Rows L2
section
variable {X : Cx} {W : Wz} {pos : Pos}
def dOwnNil (g : Bool → Bool) (i : Nat) : De := fun sv Q _ => match sv[i]? with
  | some (.own ds) => (∃ ps, D.pyL ds = some ps) ∧ Q (.bl (g ds.isEmpty)) sv
  | some (.dat (.lst ds)) => (∃ ps, D.pyL ds = some ps) ∧ Q (.bl (g ds.isEmpty)) sv
  | _ => False
theorem eqv_nil : ∀ ps : List PyData, PyData.eqv (.list ps) (.list []) = ps.isEmpty
  | [] => rfl
  | p :: ps => rfl
theorem pyL_empty : ∀ {ds : List D} {ps : List PyData}, D.pyL ds = some ps → ps.isEmpty = ds.isEmpty
  | [], ps, h => by cases h; rfl
  | d :: ds, ps, h => by
    simp only [D.pyL] at h
    split at h
    · cases h; rfl
    · cases h
theorem own_dp {K : PySem.W.Frag} {F : Fr} {P H : Hp} {σ : L2.St} {sv : Sv} {i : Nat} (r : Rel K F P H σ sv) {ds : List D} {ps : List PyData} (e : D.pyL ds = some ps) (h : sv[i]? = some (.own ds) ∨ sv[i]? = some (.dat (.lst ds))) :
    ∃ a vs, σ[i]? = some (some (.ref a)) ∧ H a = some (.lst vs) ∧ ∀ H', Sub H H' → Dp K H' (.ref a) (.list ps) := by
  rcases h with h | h
  · obtain ⟨o, ho, p', vs, rfl, h1, h2, h3, h4⟩ := rel_get r h
    exact ⟨p', vs, ho, h1, fun H' s => .lst (SqL.of (s _ _ h1)) (RpL.dp ds ps vs e (RpL.mono (r.sub.trans s) ds vs h4))⟩
  · obtain ⟨o, ho, v, rfl, a, vs, rfl, h1, h4⟩ := rel_get r h
    exact ⟨a, vs, ho, r.sub _ _ h1, fun H' s => .lst (SqL.of (s _ _ (r.sub _ _ h1))) (RpL.dp ds ps vs e (RpL.mono (r.sub.trans s) ds vs h4))⟩
theorem ownNil_in {g : Bool → Bool} {i : Nat} {sv : Sv} {Q : D → Sv → Prop} {E : DX} (h : dOwnNil g i sv Q E) : ∃ ds ps, D.pyL ds = some ps ∧ (sv[i]? = some (.own ds) ∨ sv[i]? = some (.dat (.lst ds))) ∧ Q (.bl (g ds.isEmpty)) sv := by
  unfold dOwnNil at h
  split at h
  · rename_i ds e
    obtain ⟨⟨ps, e1⟩, q⟩ := h
    exact ⟨ds, ps, e1, .inl e, q⟩
  · rename_i ds e
    obtain ⟨⟨ps, e1⟩, q⟩ := h
    exact ⟨ds, ps, e1, .inr e, q⟩
  · exact h.elim
theorem snd_neNil {K : PySem.W.Frag} {i : Nat} : SndE K W (tOp (rNeP K) (tVar i) (tLst tNil)) (dOwnNil not i) := fun F P H σ sv Q E R re k kx q => by
  obtain ⟨ds, ps, e1, e2, q⟩ := ownNil_in q
  obtain ⟨a, vs, e3, e4, e5⟩ := own_dp re e1 e2
  refine ⟨_, e3, small_line (by simp), fun l hl => ?_⟩
  refine ⟨.list ps, .list [], e5 _ (sub_upd hl), .lst (SqL.of upd_same) .nil, D.pyL_plain ds ps e1, rfl, Nat.le_trans (Nat.min_le_right _ _) (by decide), ?_⟩
  rw [eqv_nil, pyL_empty e1]
  exact k (.bl (!ds.isEmpty)) _ P (.bl (!ds.isEmpty)) sv (re.layH hl) (Sub.refl P) rfl q
theorem pd_neNil {i : Nat} {x : Str} {p p2 : Pos} (hu : X.A.units + 64 < cLine) (hN : X.N[i]? = some x) (hv : Vis X.env.scope x) (hd : (x == ("__debug__" : Str)) = false := by decide) (hcd : (x == ("__classdict__" : Str)) = false := by decide) (hm : behindInMarks .NotEq (.List [] p2) = false := by rfl) :
    PD X W (.Compare (.Name x p) [.NotEq] [.List [] p2] pos) (dOwnNil not i) := ⟨_, pe_cmpR (op_neP hu) (pe_var hN hv hd hcd) (pe_lst pa_nil) hm, snd_neNil⟩
theorem pdt_neNil {i : Nat} {x : Str} {p p2 : Pos} (hu : X.A.units + 64 < cLine) (hN : X.N[i]? = some x) (hv : Vis X.env.scope x) (hd : (x == ("__debug__" : Str)) = false := by decide) (hcd : (x == ("__classdict__" : Str)) = false := by decide) (hm : behindInMarks .NotEq (.List [] p2) = false := by rfl) :
    PDT X W (.Compare (.Name x p) [.NotEq] [.List [] p2] pos) (dTest (dOwnNil not i)) := by
  refine ⟨_, pt_cmpR (op_neP hu) (pe_var hN hv hd hcd) (pe_lst pa_nil) hm, fun F P H σ sv Q E R re k kx q => snd_neNil _ P H σ sv _ E _ re (fun v H1 P1 d sv1 r1 s1' rv ⟨b, ed, q1⟩ => ?_) kx q⟩
  subst ed
  exact ⟨b, rv, k b H1 P1 sv1 r1 s1' q1⟩
theorem snd_eqNil {K : PySem.W.Frag} {i : Nat} : SndE K W (tOp (rEqP K) (tVar i) (tLst tNil)) (dOwnNil id i) := fun F P H σ sv Q E R re k kx q => by
  obtain ⟨ds, ps, e1, e2, q⟩ := ownNil_in q
  obtain ⟨a, vs, e3, e4, e5⟩ := own_dp re e1 e2
  refine ⟨_, e3, small_line (by simp), fun l hl => ?_⟩
  refine ⟨.list ps, .list [], e5 _ (sub_upd hl), .lst (SqL.of upd_same) .nil, D.pyL_plain ds ps e1, rfl, Nat.le_trans (Nat.min_le_right _ _) (by decide), ?_⟩
  rw [eqv_nil, pyL_empty e1]
  exact k (.bl ds.isEmpty) _ P (.bl ds.isEmpty) sv (re.layH hl) (Sub.refl P) rfl q
theorem pd_eqNil {i : Nat} {x : Str} {p p2 : Pos} (hu : X.A.units + 64 < cLine) (hN : X.N[i]? = some x) (hv : Vis X.env.scope x) (hd : (x == ("__debug__" : Str)) = false := by decide) (hcd : (x == ("__classdict__" : Str)) = false := by decide) (hm : behindInMarks .Eq (.List [] p2) = false := by rfl) :
    PD X W (.Compare (.Name x p) [.Eq] [.List [] p2] pos) (dOwnNil id i) := ⟨_, pe_cmpR (op_eqP hu) (pe_var hN hv hd hcd) (pe_lst pa_nil) hm, snd_eqNil⟩
theorem pdt_eqNil {i : Nat} {x : Str} {p p2 : Pos} (hu : X.A.units + 64 < cLine) (hN : X.N[i]? = some x) (hv : Vis X.env.scope x) (hd : (x == ("__debug__" : Str)) = false := by decide) (hcd : (x == ("__classdict__" : Str)) = false := by decide) (hm : behindInMarks .Eq (.List [] p2) = false := by rfl) :
    PDT X W (.Compare (.Name x p) [.Eq] [.List [] p2] pos) (dTest (dOwnNil id i)) := by
  refine ⟨_, pt_cmpR (op_eqP hu) (pe_var hN hv hd hcd) (pe_lst pa_nil) hm, fun F P H σ sv Q E R re k kx q => snd_eqNil _ P H σ sv _ E _ re (fun v H1 P1 d sv1 r1 s1' rv ⟨b, ed, q1⟩ => ?_) kx q⟩
  subst ed
  exact ⟨b, rv, k b H1 P1 sv1 r1 s1' q1⟩
/-- a class with an own __eq__ that keeps a promise -/
structure EqG (P : Program) (w : World) (K : PySem.W.Frag) (mg : Str → Option Value) (base : Heap) (k : Nat) (C : Addr) (ct : Ct) : Prop where
  mono : ∀ as Q Q' E E', (∀ d, Q d → Q' d) → (∀ x, E x → E' x) → ct.c as Q E → ct.c as Q' E'
  ex : ∃ (f : Addr) (fd : FuncData) (ps : List Str), EqCls K C f ∧ Fd P w K mg base k f fd ps (spC K 2 ct) ∧ Binds K fd ps []
def gEqO (K : PySem.W.Frag) (C : Addr) (ct : Ct) : G2 := fun d e Q => gEq d e Q ∨ gOwn K C ct id d e Q
def gNeO (K : PySem.W.Frag) (C : Addr) (ct : Ct) : G2 := fun d e Q => gNe d e Q ∨ gOwn K C ct not d e Q
theorem deqO {P : Program} {w : World} {K : PySem.W.Frag} {mg : Str → Option Value} {base : Heap} {k k' : Nat} {C : Addr} {ct : Ct} {a b : Expr} {f1 f2 : De} (T : EqG P w K mg base k C ct) (hr : Room k' X.A) (hk : k + 1 ≤ k') (hG : X.A.guards = some []) (ha : PD X W a f1) (hb : PD X W b f2)
    (h1 : X.prog = P := by rfl) (h2 : X.w = w := by rfl) (h3 : X.K = K := by rfl) (h4 : X.mg = mg := by rfl) (h5 : X.base = base := by rfl) (hm : behindInMarks .Eq b = false := by rfl) : PD X W (.Compare a [.Eq] [b] pos) (dOp (gEqO K C ct) f1 f2) := by
  subst h1 h2 h3 h4 h5
  obtain ⟨f, fd, ps, e, F, bb⟩ := T.ex
  exact pd_cmp (OpR.or (op_eqP (Room.units hr)) (op_eqOwn e F bb (hr.mono hk) hG)) (SndR.or snd_eq (snd_own T.mono)) ha hb hm
theorem dneO {P : Program} {w : World} {K : PySem.W.Frag} {mg : Str → Option Value} {base : Heap} {k k' : Nat} {C : Addr} {ct : Ct} {a b : Expr} {f1 f2 : De} (T : EqG P w K mg base k C ct) (hr : Room k' X.A) (hk : k + 1 ≤ k') (hG : X.A.guards = some []) (ha : PD X W a f1) (hb : PD X W b f2)
    (h1 : X.prog = P := by rfl) (h2 : X.w = w := by rfl) (h3 : X.K = K := by rfl) (h4 : X.mg = mg := by rfl) (h5 : X.base = base := by rfl) (hm : behindInMarks .NotEq b = false := by rfl) : PD X W (.Compare a [.NotEq] [b] pos) (dOp (gNeO K C ct) f1 f2) := by
  subst h1 h2 h3 h4 h5
  obtain ⟨f, fd, ps, e, F, bb⟩ := T.ex
  exact pd_cmp (OpR.or (op_neP (Room.units hr)) (op_neOwn e F bb (hr.mono hk) hG)) (SndR.or snd_ne (snd_own T.mono)) ha hb hm
theorem pdt_eqO {P : Program} {w : World} {K : PySem.W.Frag} {mg : Str → Option Value} {base : Heap} {k k' : Nat} {C : Addr} {ct : Ct} {a b : Expr} {f1 f2 : De} (T : EqG P w K mg base k C ct) (hr : Room k' X.A) (hk : k + 1 ≤ k') (hG : X.A.guards = some []) (ha : PD X W a f1) (hb : PD X W b f2)
    (h1 : X.prog = P := by rfl) (h2 : X.w = w := by rfl) (h3 : X.K = K := by rfl) (h4 : X.mg = mg := by rfl) (h5 : X.base = base := by rfl) (hm : behindInMarks .Eq b = false := by rfl) : PDT X W (.Compare a [.Eq] [b] pos) (dTest (dOp (gEqO K C ct) f1 f2)) := by
  subst h1 h2 h3 h4 h5
  obtain ⟨f, fd, ps, e, F, bb⟩ := T.ex
  exact pdt_cmp (OpR.or (op_eqP (Room.units hr)) (op_eqOwn e F bb (hr.mono hk) hG)) (SndR.or snd_eq (snd_own T.mono)) ha hb hm
theorem pdt_neO {P : Program} {w : World} {K : PySem.W.Frag} {mg : Str → Option Value} {base : Heap} {k k' : Nat} {C : Addr} {ct : Ct} {a b : Expr} {f1 f2 : De} (T : EqG P w K mg base k C ct) (hr : Room k' X.A) (hk : k + 1 ≤ k') (hG : X.A.guards = some []) (ha : PD X W a f1) (hb : PD X W b f2)
    (h1 : X.prog = P := by rfl) (h2 : X.w = w := by rfl) (h3 : X.K = K := by rfl) (h4 : X.mg = mg := by rfl) (h5 : X.base = base := by rfl) (hm : behindInMarks .NotEq b = false := by rfl) : PDT X W (.Compare a [.NotEq] [b] pos) (dTest (dOp (gNeO K C ct) f1 f2)) := by
  subst h1 h2 h3 h4 h5
  obtain ⟨f, fd, ps, e, F, bb⟩ := T.ex
  exact pdt_cmp (OpR.or (op_neP (Room.units hr)) (op_neOwn e F bb (hr.mono hk) hG)) (SndR.or snd_ne (snd_own T.mono)) ha hb hm
end
end Pd
end
section
set_option autoImplicit false
set_option Elab.async false
set_option linter.all false
set_option autoImplicit false
set_option maxRecDepth 100000
set_option maxHeartbeats 4000000
/-! Pe1: how much room data take; tame data can be shown and compared. -/
namespace Pd
open PySem PySem.Spec PyProof.Rows L2
mutual
/-- at least as long as its repr; not below a million where there is none -/
def D.wt : D → Nat
  | .non => 4
  | .bl _ => 5
  | .int i => if i.natAbs.log2 < 1920 then (PyData.shown (.int i)).length else 1000000
  | .str x => max x.length (PyData.shown (.str x)).length
  | .lst ds => D.wtL ds + 2
  | .tup ds => D.wtL ds + 3
  | .cst _ => 1000000
  | .ins _ _ _ => 1000000
  | .dk _ _ => 1000000
  | .dt _ _ => 1000000
  | .scr _ => 1000000
def D.wtL : List D → Nat
  | [] => 0
  | d :: ds => d.wt + 2 + D.wtL ds
end
mutual
def D.dep : D → Nat
  | .lst ds => D.depL ds + 1
  | .tup ds => D.depL ds + 1
  | _ => 0
def D.depL : List D → Nat
  | [] => 0
  | d :: ds => max d.dep (D.depL ds)
end
theorem textFrom_up : ∀ (ts : List Str) (k : Nat) (acc : Str) (n : Nat), (ts.map fun t => t.length + 2).sum ≤ n → (textFrom k acc ts).length ≤ acc.length + n
  | [], k, acc, n, h => by show acc.length ≤ _; omega
  | t :: r, k, acc, n, h => by
    rw [List.map_cons, List.sum_cons] at h
    have e : (acc ++ (if k > 0 then ", " else "" : String) ++ t).length = acc.length + (if k > 0 then 2 else 0) + t.length := by
      rw [strLen_append, strLen_append]
      split <;> rfl
    have ih := textFrom_up r (k + 1) (acc ++ (if k > 0 then ", " else "" : String) ++ t) (n - (t.length + 2)) (by omega)
    have ih2 : (textFrom k acc (t :: r)).length ≤ (acc ++ (if k > 0 then ", " else "" : String) ++ t).length + (n - (t.length + 2)) := ih
    rw [e] at ih2
    split at ih2 <;> omega
theorem join_up : ∀ ts : List Str, (Str.join ", " ts).length ≤ (ts.map fun t => t.length + 2).sum
  | [] => Nat.zero_le _
  | [x] => by show x.length ≤ _; simp
  | x :: y :: r => by
    have ih := join_up (y :: r)
    show (x ++ ", " ++ Str.join ", " (y :: r)).length ≤ _
    have e2 : ((", " : String) : Str).length = 2 := rfl
    rw [strLen_append, strLen_append, e2, List.map_cons, List.sum_cons]
    omega
/-- what tame data are -/
structure Tame (d : D) (p : PyData) : Prop where
  py : d.py = some p
  sh : p.showable = true
  dp : p.depth = d.dep
  ln : p.shown.length ≤ d.wt
structure TameL (ds : List D) (ps : List PyData) : Prop where
  py : D.pyL ds = some ps
  sh : PyData.showableAll ps = true
  dp : PyData.depthAll ps = D.depL ds
  ln : ((PyData.shownAll ps).map fun t => t.length + 2).sum ≤ D.wtL ds
mutual
theorem tame : ∀ d : D, d.wt < 1000000 → ∃ p, Tame d p
  | .non, h => ⟨.none, rfl, rfl, rfl, by decide⟩
  | .bl b, h => ⟨.bool b, rfl, rfl, rfl, by cases b <;> decide⟩
  | .int i, h => by
    simp only [D.wt] at h
    split at h
    · rename_i h1
      exact ⟨.int i, rfl, by simpa [PyData.showable] using h1, rfl, by simp only [D.wt, h1, if_true]; omega⟩
    · omega
  | .str x, h => ⟨.str x, rfl, rfl, rfl, by simp only [D.wt]; omega⟩
  | .lst ds, h => by
    simp only [D.wt] at h
    obtain ⟨ps, a, b, c, l⟩ := tameL ds (by omega)
    refine ⟨.list ps, by simp [D.py, a], by simpa [PyData.showable] using b, by simp [PyData.depth, D.dep, c], ?_⟩
    simp only [PyData.shown, D.wt]
    unfold listText
    rw [strLen_append]
    have e1 : ((("[" : String) : Str)).length = 1 := rfl
    have e2 : ((("]" : String) : Str)).length = 1 := rfl
    have u := textFrom_up (PyData.shownAll ps) 0 "[" _ l
    omega
  | .tup ds, h => by
    simp only [D.wt] at h
    obtain ⟨ps, a, b, c, l⟩ := tameL ds (by omega)
    refine ⟨.tuple ps, by simp [D.py, a], by simpa [PyData.showable] using b, by simp [PyData.depth, D.dep, c], ?_⟩
    simp only [PyData.shown, D.wt]
    unfold tupleText
    rw [strLen_append, strLen_append]
    have e1 : ((("(" : String) : Str)).length = 1 := rfl
    have e2 : (((if (PyData.shownAll ps).length == 1 then ",)" else ")" : String) : Str)).length ≤ 2 := by split <;> decide
    have u := join_up (PyData.shownAll ps)
    omega
  | .ins _ _ _, h => by simp only [D.wt] at h; omega
  | .dk _ _, h => by simp only [D.wt] at h; omega
  | .dt _ _, h => by simp only [D.wt] at h; omega
  | .scr _, h => by simp only [D.wt] at h; omega
  | .cst _, h => by simp only [D.wt] at h; omega
theorem tameL : ∀ ds : List D, D.wtL ds < 1000000 → ∃ ps, TameL ds ps
  | [], h => ⟨[], rfl, rfl, rfl, by simp [PyData.shownAll, D.wtL]⟩
  | d :: ds, h => by
    simp only [D.wtL] at h
    obtain ⟨p, t⟩ := tame d (by omega)
    obtain ⟨ps, ts⟩ := tameL ds (by omega)
    refine ⟨p :: ps, by simp [D.pyL, t.py, ts.py], by simp [PyData.showableAll, t.sh, ts.sh], by simp [PyData.depthAll, D.depL, t.dp, ts.dp], ?_⟩
    have a := t.ln
    have b := ts.ln
    simp only [PyData.shownAll, List.map_cons, List.sum_cons, D.wtL]
    omega
end
theorem Tame.shows {d : D} {p : PyData} (t : Tame d p) (h : d.wt < 1000000) (h2 : d.dep ≤ 60) : Shows p := ⟨t.sh, by rw [t.dp]; exact h2, by have := t.ln; rw [sizeLine_eq]; omega⟩
theorem wt_str {s : Str} (h : (D.str s).wt < 1000000) : s.length ≤ sizeLine := by
  simp only [D.wt] at h
  rw [sizeLine_eq]
  omega
theorem wt_mem {d : D} : ∀ {ds : List D}, d ∈ ds → d.wt + 2 ≤ D.wtL ds
  | e :: ds, h => by
    simp only [D.wtL]
    rcases List.mem_cons.mp h with z | z
    · subst z; omega
    · have := wt_mem z; omega
theorem wtL_le {n : Nat} : ∀ ds : List D, (∀ d ∈ ds, d.wt ≤ n) → D.wtL ds ≤ ds.length * (n + 2)
  | [], _ => by simp [D.wtL]
  | d :: ds, h => by
    have a := h d List.mem_cons_self
    have b := wtL_le ds fun e he => h e (List.mem_cons_of_mem _ he)
    have e : (ds.length + 1) * (n + 2) = ds.length * (n + 2) + (n + 2) := Nat.succ_mul _ _
    simp only [D.wtL, List.length_cons, e]
    omega
theorem wtL_6 {ds : List D} (h : ds.length ≤ 5) (hw : ∀ d ∈ ds, d.wt < 100000) : D.wtL ds < 600000 := by
  have a := wtL_le ds fun d hd => Nat.le_of_lt (hw d hd)
  refine Nat.lt_of_le_of_lt (Nat.le_trans a (Nat.mul_le_mul_right _ h)) (by decide)
theorem dep_mem {d : D} : ∀ {ds : List D}, d ∈ ds → d.dep ≤ D.depL ds
  | e :: ds, h => by
    simp only [D.depL]
    rcases List.mem_cons.mp h with z | z
    · subst z; omega
    · have := dep_mem z; omega
/-- what == is worth between tame data -/
theorem eqv_self {p : PyData} (h : p.plain = true) : PyData.eqv p p = true := PySem.SeqAt.eqv_refl_plain p h
/-- == with a text -/
def D.isStr (d : D) (s : Str) : Bool := match d with
  | .str x => x == s
  | _ => false
theorem eqv_str {d : D} {p : PyData} {s : Str} (h : d.py = some p) : PyData.eqv p (.str s) = d.isStr s := by
  cases d with
  | lst ds =>
    simp only [D.py, Option.map_eq_some_iff] at h
    obtain ⟨ps, _, rfl⟩ := h
    rfl
  | tup ds =>
    simp only [D.py, Option.map_eq_some_iff] at h
    obtain ⟨ps, _, rfl⟩ := h
    rfl
  | cst ds =>
    simp only [D.py, Option.map_eq_some_iff] at h
    obtain ⟨ps, _, rfl⟩ := h
    rfl
  | ins _ _ _ => cases h
  | dk _ _ => cases h
  | dt _ _ => cases h
  | scr _ => cases h
  | _ => cases h; rfl
@[simp] theorem depth_int (i : Int) : (PyData.int i).depth = 0 := rfl
@[simp] theorem depth_bool (b : Bool) : (PyData.bool b).depth = 0 := rfl
@[simp] theorem depth_none : PyData.none.depth = 0 := rfl
@[simp] theorem depth_str (s : Str) : (PyData.str s).depth = 0 := rfl
@[simp] theorem eqv_int (i j : Int) : PyData.eqv (.int i) (.int j) = (i == j) := rfl
@[simp] theorem eqv_strs (x y : Str) : PyData.eqv (.str x) (.str y) = (x == y) := rfl
@[simp] theorem eqv_bools (x y : Bool) : PyData.eqv (.bool x) (.bool y) = (x == y) := rfl
theorem str_depth (s : Str) : (PyData.str s).depth = 0 := rfl
/-- == between tame data and a text -/
theorem gEq_str {d : D} {s : Str} {Q : D → Prop} (h : d.wt < 1000000) (q : Q (.bl (d.isStr s))) : gEq d (.str s) Q := by
  obtain ⟨p, t⟩ := tame d h
  exact ⟨p, .str s, t.py, rfl, by rw [str_depth]; omega, by rw [eqv_str t.py]; exact q⟩
theorem eqv_str' {d : D} {p : PyData} {s : Str} (h : d.py = some p) : PyData.eqv (.str s) p = d.isStr s := by
  cases d with
  | lst ds =>
    simp only [D.py, Option.map_eq_some_iff] at h
    obtain ⟨ps, _, rfl⟩ := h
    rfl
  | tup ds =>
    simp only [D.py, Option.map_eq_some_iff] at h
    obtain ⟨ps, _, rfl⟩ := h
    rfl
  | cst ds =>
    simp only [D.py, Option.map_eq_some_iff] at h
    obtain ⟨ps, _, rfl⟩ := h
    rfl
  | ins _ _ _ => cases h
  | dk _ _ => cases h
  | dt _ _ => cases h
  | scr _ => cases h
  | str x =>
    cases h
    show (s == x) = (x == s)
    by_cases e : s = x
    · subst e; rfl
    · rw [beq_eq_false_iff_ne.mpr e, beq_eq_false_iff_ne.mpr fun z => e z.symm]
  | _ => cases h; rfl
theorem pyL_strs : ∀ ss : List Str, D.pyL (ss.map .str) = some (ss.map .str)
  | [] => rfl
  | s :: ss => by
    rw [List.map_cons, D.pyL, pyL_strs ss]
    rfl
theorem depth_strs : ∀ ss : List Str, PyData.depthAll (ss.map .str) = 0
  | [] => rfl
  | s :: ss => by
    rw [List.map_cons, PyData.depthAll, depth_strs ss]
    rfl
/-- d in (texts) -/
theorem isIn_strs {d : D} {ss : List Str} {Q : Bool → Prop} (h : d.wt < 1000000) (q : Q (ss.any fun s => d.isStr s)) : isIn d (.cst (ss.map .str)) Q := by
  obtain ⟨p, t⟩ := tame d h
  refine ⟨p, _, t.py, pyL_strs ss, by rw [depth_strs]; omega, ?_⟩
  rw [List.any_map]
  rw [show ((fun z => PyData.eqv z p) ∘ PyData.str) = fun s => d.isStr s from funext fun s => eqv_str' t.py]
  exact q
/-! ### promises -/
/-- a promise by what is passed, what must hold of it, what may come back, what may be raised -/
def Ct.ex {τ : Type} (cost : Nat) (args : τ → DA) (pre : τ → Prop) (post : τ → D → Prop) (exc : τ → Xd → Prop) : Ct := ⟨cost, fun as Q E => ∃ t, as = args t ∧ pre t ∧ (∀ d, post t d → Q d) ∧ ∀ x, exc t x → E x⟩
theorem Ct.ex_mono {τ : Type} {cost : Nat} {args : τ → DA} {pre : τ → Prop} {post : τ → D → Prop} {exc : τ → Xd → Prop} : ∀ as Q Q' E E', (∀ d, Q d → Q' d) → (∀ x, E x → E' x) → (Ct.ex cost args pre post exc).c as Q E → (Ct.ex cost args pre post exc).c as Q' E' :=
  fun as Q Q' E E' h1 h2 ⟨t, e, p, q, x⟩ => ⟨t, e, p, fun d hd => h1 d (q d hd), fun y hy => h2 y (x y hy)⟩
theorem Ct.exI {τ : Type} {cost : Nat} {args : τ → DA} {pre : τ → Prop} {post : τ → D → Prop} {exc : τ → Xd → Prop} {as : DA} {Q : D → Prop} {E : Xd → Prop} (t : τ) (h : as = args t) (p : pre t) (q : ∀ d, post t d → Q d) (x : ∀ y, exc t y → E y) : (Ct.ex cost args pre post exc).c as Q E := ⟨t, h, p, q, x⟩
theorem map_erase {α β : Type} (f : α → β) : ∀ (l : List α) (n : Nat), (l.map f).eraseIdx n = (l.eraseIdx n).map f
  | [], n => by simp
  | a :: l, 0 => by simp
  | a :: l, n + 1 => by simp [map_erase f l n]
theorem erase_perm {α : Type} : ∀ {l : List α} {n : Nat} (h : n < l.length), (l[n] :: l.eraseIdx n).Perm l
  | a :: l, 0, _ => by simp
  | a :: l, n + 1, h => by
    have ih := erase_perm (l := l) (n := n) (by simpa using h)
    simp only [List.getElem_cons_succ, List.eraseIdx_cons_succ]
    exact (List.Perm.swap _ _ _).trans (ih.cons a)
theorem dSeq_i {f g : Ds} {sv : Sv} {D : Ed} (h : f sv { D with nx := fun sv1 => g sv1 D }) : dSeq f g sv D := h
/-- what a caller needs of a def that keeps a promise -/
theorem fnG_of {P : Program} {w : World} {K : PySem.W.Frag} {mg : Str → Option Value} {base : Heap} {x qual : Str} {params : Arguments} {body : List Stmt} {scope : Scope} {f : Addr} {fd : FuncData} {N ps : List Str} {k : Nat} {ct : Ct}
    (F : FunD K x qual params body scope [] [] f fd) (S : FnScope N ps scope) (hm : mg x = some (.ref f)) (hF : Fd P w K mg base k f fd ps (spC K ps.length ct)) (b : Binds K fd ps [])
    (mono : ∀ as Q Q' E E', (∀ d, Q d → Q' d) → (∀ x, E x → E' x) → ct.c as Q E → ct.c as Q' E') : FnG P w K mg base k x ps.length ct := ⟨mono, f, fd, ps, rfl, hF, hm, F.kp, b⟩
end Pd
end
section
set_option autoImplicit false
set_option Elab.async false
set_option linter.all false
set_option autoImplicit false
set_option maxRecDepth 100000
set_option maxHeartbeats 4000000
/-! Pe2: classes whose objects are data; what == of data is. -/
namespace Pd
open PySem PySem.Spec PyProof.Rows L2
def kTypes : List String := ["NoneType", "bool", "int", "str", "list", "tuple"]
/-- what the top says of a class whose objects are data with these fields -/
structure ClsD (K : PySem.W.Frag) (C : Addr) (fs : List Str) : Prop where
  ity : InsTy K C
  ok : ∀ f ∈ fs, OkF K C f
  no : ∀ T ∈ kTypes, PySem.W.kitOne K (.type T) (.ref C) = some false
theorem kit_self {K : PySem.W.Frag} {C : Addr} : PySem.W.kitOne K (.ref C) (.ref C) = some true := by
  unfold PySem.W.kitOne
  rw [if_pos (by simp)]
theorem kit_no {K : PySem.W.Frag} {C : Addr} {fs : List Str} (T : ClsD K C fs) {d : D} (h : d.wt < 1000000) : PySem.W.kitOne K d.ty (.ref C) = some false := by
  cases d with
  | ins _ _ _ => simp [D.wt] at h
  | dk _ _ => simp [D.wt] at h
  | dt _ _ => simp [D.wt] at h
  | scr _ => simp [D.wt] at h
  | cst _ => simp [D.wt] at h
  | _ => exact T.no _ (by simp [kTypes])
theorem okTy_tame {K : PySem.W.Frag} {d : D} (h : d.wt < 1000000) : D.okTy K d := by
  cases d with
  | ins _ _ _ => simp [D.wt] at h
  | scr _ => simp [D.wt] at h
  | dt _ _ => simp [D.wt] at h
  | cst _ => simp [D.wt] at h
  | _ => trivial
def isBlD : D → Bool
  | .bl _ => true
  | _ => false
def isIntD : D → Bool
  | .int _ => true
  | _ => false
theorem kit_bool {K : PySem.W.Frag} {d : D} (h : d.wt < 1000000) : PySem.W.kitOne K d.ty (.type "bool") = some (isBlD d) := by
  cases d with
  | ins _ _ _ => simp [D.wt] at h
  | dk _ _ => simp [D.wt] at h
  | dt _ _ => simp [D.wt] at h
  | scr _ => simp [D.wt] at h
  | cst _ => simp [D.wt] at h
  | _ => rfl
theorem kit_int {K : PySem.W.Frag} {d : D} (h : d.wt < 1000000) : PySem.W.kitOne K d.ty (.type "int") = some (isIntD d || isBlD d) := by
  cases d with
  | ins _ _ _ => simp [D.wt] at h
  | dk _ _ => simp [D.wt] at h
  | dt _ _ => simp [D.wt] at h
  | scr _ => simp [D.wt] at h
  | cst _ => simp [D.wt] at h
  | _ => rfl
/-- a == b of data -/
def eqD (a b : D) : Bool := match a.py, b.py with
  | some p, some q => PyData.eqv p q
  | _, _ => false
theorem eqD_self {a : D} (h : a.wt < 1000000) : eqD a a = true := by
  obtain ⟨p, t⟩ := tame a h
  unfold eqD
  rw [t.py]
  exact eqv_self (D.py_plain a p t.py)
theorem gEq_tame {a b : D} {Q : D → Prop} (ha : a.wt < 1000000) (hb : b.wt < 1000000) (hd : a.dep ≤ 60) (q : Q (.bl (eqD a b))) : gEq a b Q := by
  obtain ⟨p, t⟩ := tame a ha
  obtain ⟨p', t'⟩ := tame b hb
  refine ⟨p, p', t.py, t'.py, by rw [t.dp]; omega, ?_⟩
  unfold eqD at q
  rw [t.py, t'.py] at q
  exact q
theorem gNe_tame {a b : D} {Q : D → Prop} (ha : a.wt < 1000000) (hb : b.wt < 1000000) (hd : a.dep ≤ 60) (q : Q (.bl (!eqD a b))) : gNe a b Q := by
  obtain ⟨p, t⟩ := tame a ha
  obtain ⟨p', t'⟩ := tame b hb
  refine ⟨p, p', t.py, t'.py, by rw [t.dp]; omega, ?_⟩
  unfold eqD at q
  rw [t.py, t'.py] at q
  exact q
/-- repr of tame data -/
def shD (a : D) : Str := match a.py with
  | some p => p.shown
  | none => ""
theorem gRepr_tame {a : D} {Q : D → Prop} (ha : a.wt < 1000000) (hd : a.dep ≤ 60) (q : Q (.str (shD a))) : gRepr [a] Q := by
  obtain ⟨p, t⟩ := tame a ha
  refine ⟨a, rfl, p, t.py, t.shows ha hd, ?_⟩
  unfold shD at q
  rw [t.py] at q
  exact q
end Pd
end
section
set_option autoImplicit false
set_option Elab.async false
set_option linter.all false
set_option autoImplicit false
set_option maxRecDepth 100000
set_option maxHeartbeats 4000000
/-! Pe3: what the top says, as one test; the end of a law whose defs ask that nothing is being shown. -/
namespace Pd
open PySem PySem.Spec PyProof.Rows L2
/-! ### tests -/
def oexB (K : PySem.W.Frag) (C : Addr) (newId : String) (bm : List Value) : Bool := match K.lookup C with
  | some ⟨.type t, _, .cls c, sl⟩ => decide (t = "type") && (match c.mro, sl.toList with
    | .ref D :: r, [_, _, _, _, some (.builtin n), _] => decide (D = C) && (decide (n = newId) && (c.hasDict && (!c.hasDel && decide (r = bm))))
    | _, _ => false)
  | _ => false
def exB (K : PySem.W.Frag) (C : Addr) (newId : String) (bm : List Value) : Bool := oexB K C newId bm && (decide (PySem.W.findIn K (.ref C) "__setattr__" = some (some (.builtin "object.__setattr__"))) &&
  (decide (PySem.W.subIn K (.ref C) (.type "BaseException") = some true) && (decide (PySem.W.typeIn K (.ref C) = some (.type "type")) && PySem.W.keepIn K (.ref C))))
theorem bb {a b : Bool} (h : (a && b) = true) : a = true ∧ b = true := Bool.and_eq_true_iff.mp h
theorem exB_ok {K : PySem.W.Frag} {C : Addr} {B newId initId : String} {bm : List Value} (b : ExB B newId initId bm) (h : exB K C newId bm = true) : OexG K C B newId initId bm := by
  obtain ⟨h1, h⟩ := bb h
  obtain ⟨h2, h⟩ := bb h
  obtain ⟨h3, h⟩ := bb h
  obtain ⟨h4, h5⟩ := bb h
  refine ⟨?_, b, of_decide_eq_true h2, of_decide_eq_true h3, of_decide_eq_true h4, h5⟩
  unfold oexB at h1
  split at h1
  · rename_i t dd c sl ho
    obtain ⟨e0, m1⟩ := bb h1
    clear h1
    have q0 := of_decide_eq_true e0
    clear e0
    subst q0
    split at m1
    · rename_i D r k0 k1 k2 k3 n k5 hm hs
      obtain ⟨e1, m2⟩ := bb m1
      obtain ⟨e2, m3⟩ := bb m2
      obtain ⟨e3, m4⟩ := bb m3
      obtain ⟨e4, e5⟩ := bb m4
      have q1 := of_decide_eq_true e1
      have q2 := of_decide_eq_true e2
      have q4 : c.hasDel = false := by simpa using e4
      have q5 := of_decide_eq_true e5
      clear m1 m2 m3 m4 e1 e2 e4 e5
      obtain ⟨nm, bs, mro, ns, qn, hd, sn, sb, ab, col, del⟩ := c
      dsimp only at hm e3 q4
      subst q1 q2 e3 q4 q5 hm
      obtain ⟨l⟩ := sl
      dsimp only at hs
      subst hs
      exact ⟨nm, qn, ns, bs, sn, sb, ab, col, dd, k0, k1, k2, k3, k5, ho⟩
    · cases m1
  · cases h1
def xB (K : PySem.W.Frag) (D : Addr) : Bool := decide (PySem.W.findIn K (.ref D) "__getattribute__" = some (some (.builtin "BaseException.__getattribute__"))) && (decide (PySem.W.findIn K (.ref D) "__getattr__" = some none) &&
  (decide (PySem.W.subIn K (.ref D) (.type "BaseException") = some true) && (PySem.W.hasDictIn K D && (decide (PySem.W.findIn K (.ref D) "__class__" = some (some (.builtin "object.__class__"))) && (decide (PySem.W.specialIn K (.builtin "object.__class__") "__get__" = some (some (.builtin "getset_descriptor.__get__"))) &&
  (decide (PySem.W.takesIn K (.builtin "object.__class__") = some true) && decide (PySem.W.mroIn K D (.type "object") = some true)))))))
theorem xB_ok {K : PySem.W.Frag} {D : Addr} (h : xB K D = true) : XfC K D ∧ ExcC K D := by
  obtain ⟨h1, h⟩ := bb h
  obtain ⟨h2, h⟩ := bb h
  obtain ⟨h3, h⟩ := bb h
  obtain ⟨h4, h⟩ := bb h
  obtain ⟨h5, h⟩ := bb h
  obtain ⟨h6, h⟩ := bb h
  obtain ⟨h7, h8⟩ := bb h
  exact ⟨⟨of_decide_eq_true h1, of_decide_eq_true h2, of_decide_eq_true h3, h4⟩, ⟨of_decide_eq_true h1, of_decide_eq_true h2, of_decide_eq_true h3, h4, of_decide_eq_true h5, of_decide_eq_true h6, of_decide_eq_true h7, of_decide_eq_true h8⟩⟩
/-- the class's own __init__ is a def -/
def inB (K : PySem.W.Frag) (C f : Addr) : Bool := decide (PySem.W.findIn K (.ref C) "__init__" = some (some (.ref f))) && decide (PySem.W.typeIn K (.ref f) = some (.type "function"))
def noB (K : PySem.W.Frag) (C : Addr) (fs : List Str) : Bool := fs.all fun f => decide (PySem.W.findIn K (.ref C) f = some none)
theorem noB_ok {K : PySem.W.Frag} {C : Addr} {fs : List Str} (h : noB K C fs = true) {f : Str} (hf : f ∈ fs) : PySem.W.findIn K (.ref C) f = some none := of_decide_eq_true (List.all_eq_true.mp h f hf)
def clB (K : PySem.W.Frag) (C : Addr) : Bool := PySem.W.plainGet K C Str.empty && (PySem.W.hasDictIn K C && (PySem.W.plainOver K C && decide (PySem.W.findIn K (.ref C) "__setattr__" = some (some (.builtin "object.__setattr__")))))
theorem clB_ok {K : PySem.W.Frag} {C : Addr} (h : clB K C = true) : Cls K C := by
  obtain ⟨h1, h⟩ := bb h
  obtain ⟨h2, h⟩ := bb h
  obtain ⟨h3, h4⟩ := bb h
  exact ⟨h1, h2, h3, of_decide_eq_true h4⟩
def itB (K : PySem.W.Frag) (C : Addr) : Bool := clB K C && (decide (PySem.W.findIn K (.ref C) "__class__" = some (some (.builtin "object.__class__"))) && (decide (PySem.W.specialIn K (.builtin "object.__class__") "__get__" = some (some (.builtin "getset_descriptor.__get__"))) &&
  (decide (PySem.W.takesIn K (.builtin "object.__class__") = some true) && decide (PySem.W.mroIn K C (.type "object") = some true))))
theorem itB_ok {K : PySem.W.Frag} {C : Addr} (h : itB K C = true) : InsTy K C := by
  obtain ⟨h1, h⟩ := bb h
  obtain ⟨h2, h⟩ := bb h
  obtain ⟨h3, h⟩ := bb h
  obtain ⟨h4, h5⟩ := bb h
  exact ⟨clB_ok h1, of_decide_eq_true h2, of_decide_eq_true h3, of_decide_eq_true h4, of_decide_eq_true h5⟩
def cdB (K : PySem.W.Frag) (C : Addr) (fs : List Str) : Bool := itB K C && (noB K C fs && kTypes.all fun T => decide (PySem.W.kitOne K (.type T) (.ref C) = some false))
theorem cdB_ok {K : PySem.W.Frag} {C : Addr} {fs : List Str} (h : cdB K C fs = true) : ClsD K C fs := by
  obtain ⟨h1, h⟩ := bb h
  obtain ⟨h2, h3⟩ := bb h
  have i := itB_ok h1
  exact ⟨i, fun f hf => ⟨i.cl, noB_ok h2 hf⟩, fun T hT => of_decide_eq_true (List.all_eq_true.mp h3 T hT)⟩
def mkB (K : PySem.W.Frag) (C f : Addr) : Bool := PySem.W.makesIn K C && (decide (PySem.W.findIn K (.ref C) "__init__" = some (some (.ref f))) && (PySem.W.isFn K (.ref f) && PySem.W.keepIn K (.ref C)))
theorem mkB_ok {K : PySem.W.Frag} {C f : Addr} (h : mkB K C f = true) : Mk K C f := by
  obtain ⟨h1, h⟩ := bb h
  obtain ⟨h2, h⟩ := bb h
  obtain ⟨h3, h4⟩ := bb h
  exact ⟨h1, of_decide_eq_true h2, h3, h4⟩
def eqB (K : PySem.W.Frag) (C f : Addr) : Bool := decide (PySem.W.findIn K (.ref C) "__eq__" = some (some (.ref f))) && (PySem.W.isFn K (.ref f) && (decide (PySem.W.findIn K (.ref C) "__ne__" = some (some (.builtin "object.__ne__"))) && decide (PySem.W.mroIn K C (.type "object") = some true)))
theorem eqB_ok {K : PySem.W.Frag} {C f : Addr} (h : eqB K C f = true) : EqCls K C f := by
  obtain ⟨h1, h⟩ := bb h
  obtain ⟨h2, h⟩ := bb h
  obtain ⟨h3, h4⟩ := bb h
  exact ⟨of_decide_eq_true h1, h2, of_decide_eq_true h3, of_decide_eq_true h4⟩
/-- C.f is a tuple of texts -/
def ctB (K : PySem.W.Frag) (C : Addr) (f : Str) (ss : List Str) : Bool := PySem.W.readsIn K C (.type "type") && (decide (PySem.W.specialIn K (.ref C) "__getattribute__" = some (some (.builtin "type.__getattribute__"))) && (match PySem.W.findCls K (.ref C) (.type "type") f with
  | some (.val (.ref a)) => (match K.lookup a with
    | some ⟨.type c, _, .seq its _, _⟩ => decide (c = "tuple") && (decide (its.size ≤ sizeLine) && He.relAll (ss.map V.str) its.toList)
    | _ => false)
  | _ => false))
theorem ctB_ok {K : PySem.W.Frag} {C : Addr} {f : Str} {ss : List Str} (h : ctB K C f ss = true) : ClsT K C f ss := by
  obtain ⟨h1, g2⟩ := bb h
  obtain ⟨h2, g3⟩ := bb g2
  split at g3
  · rename_i a ea
    split at g3
    · rename_i c dd its n sl ho
      obtain ⟨e1, g4⟩ := bb g3
      obtain ⟨e2, g5⟩ := bb g4
      have q1 := of_decide_eq_true e1
      subst q1
      exact ⟨.type "type", a, ⟨h1, of_decide_eq_true h2⟩, ⟨ea, rfl⟩, fun P => .inr ⟨_, its, n, ho, rfl, rfl, of_decide_eq_true e2, He.relAll_ok g5⟩⟩
    · cases g3
  · cases g3
/-! ### the Hook: the facts by names, the defs, one more test -/
abbrev AlY : Type := He.AlD × Bool
/-- what is looked at: what the module's names lead to, and the statics -/
def asY (n : Nat) (g : Addr → Option Obj) : List Addr := cStatics :: He.asD g n
def obY (n : Nat) (fa : List He.Fa) (fn : List He.DefD) (ex : PySem.W.Frag → Bool) (g : Addr → Option Obj) : AlY := (He.obsD fa fn (He.frG g (asY n g)), ex (He.frG g (asY n g)))
def hookY (n : Nat) (fa : List He.Fa) (fn : List He.DefD) (ex : PySem.W.Frag → Bool) : PySem.W.Hook where
  α := AlY
  obs := fun z => obY n fa fn ex z.heap.get?
  val := fun _ => (He.valD fn, true)
  says := fun _ h => ∃ K : PySem.W.Frag, K.In h ∧ He.SaysD fa fn K ∧ ex K = true
  of := fun _ _ e => ⟨_, He.frG_in, congrArg (fun z : AlY => z.1) e, congrArg (fun z : AlY => z.2) e⟩
  keeps := fun _ _ _ ⟨K, i, c, x⟩ k => ⟨K, PySem.W.Frag.In.keeps i k, c, x⟩
theorem obY_eq {n : Nat} {fa : List He.Fa} {fn : List He.DefD} {ex : PySem.W.Frag → Bool} {g : Addr → Option Obj} {z : Shared} (h : ∀ a, g a = z.heap.get? a) : obY n fa fn ex g = (hookY n fa fn ex).obs z := by
  have e : g = z.heap.get? := funext h
  subst e; rfl
/-! ### the end -/
section
variable {P : Program} {w : World} {K : PySem.W.Frag} {mg mb : Str → Option Value} {k : Nat} {f a : Addr} {fd : FuncData} {x : Str} {sp : Sp} {s : Shared} {us : List Value} {ns : List Int}
abbrev scr (us : List Value) : Obj := { cls := .type "list", data := .seq us.toArray }
/-- over a heap H in which at most the script is known -/
theorem run_at (hr : Room k callerA) (KX : K.In s.heap) (g1 : s.heap.Ns mainGlobals mg) (g2 : s.heap.Ns builtinsNs mb) (g3 : ∀ y : Str, y ≠ "__name__" → mb y = bootBuiltins y) (g4 : s.heap.NoLimit) (g5 : s.gens = #[])
    (ha : s.heap.get? a = some (scr us)) (F : ∀ base : Heap, K.In base → base.Ns mainGlobals mg → Fd P w K mg base k f fd [x] sp) (hb : ∀ (z : Shared) (u : Value), BindsTo z fd ⟨[u], []⟩ [(x, u)])
    (H : Hp) (only : ∀ b u, H b = some u → b = a ∧ ∃ o xs, u = .frz o (.lst xs)) (ok : HOk P w H s.heap) (out : H a ≠ none → K.lookup a = none) (q : sp [.ref a] H (fun v _ => v = .bl true) fun _ _ _ => False) :
    codeAny (model P w) callerA (.call (.ref f) ⟨[.ref a], []⟩) (fun r z => r = .ok (.ret (.bool true)) ∧ OldK s.heap z.heap ∧ z.os = s.os ∧ AllBare z.gens) s := by
  have free : ∀ {b : Addr} {o : Obj}, s.heap.get? b = some o → (∀ v n, o.data ≠ .seq v n) → H b = none := fun {b o} e nd => by
    cases c : H b with
    | none => rfl
    | some u =>
      obtain ⟨rfl, _⟩ := only b u c
      rw [ha] at e
      cases e
      exact absurd rfl (nd _ _)
  have toB : ∀ {b : Addr} {o : Obj}, s.heap.get? b = some o → H b = none → (hidT s.heap H).get? b = some o := fun e n => hidT_get e n
  have nsB : ∀ {b : Addr} {m : Str → Option Value}, s.heap.Ns b m → (hidT s.heap H).Ns b m := fun {b m} ⟨o, es, ep, e, d, r⟩ => ⟨o, es, ep, toB e (free e fun v n z => by rw [z] at d; cases d), d, r⟩
  have KB : K.In (hidT s.heap H) := fun b o e => toB (KX b o e) (by
    cases c : H b with
    | none => rfl
    | some u =>
      obtain ⟨rfl, _⟩ := only b u c
      rw [out (by rw [c]; simp)] at e
      cases e)
  obtain ⟨mc, l1, l2⟩ := g4
  have M : Mod K mg (hidT s.heap H) := ⟨KB, nsB g1, ⟨mb, nsB g2, g3⟩, mc, nsB l1, l2⟩
  have E : Env0 P w K mg (hidT s.heap H) callerA [] s H := ⟨rfl, M, fun b o e => of_hidT e, Nat.le_of_eq (hidT_size _ _), trivial, (fun b z => nomatch (show b ∈ ([] : List Addr) from z)), ok, .of_eq g5⟩
  refine codeAny_mono ((F _ KB (nsB g1)).run callerA [] s H ⟨[.ref a], []⟩ [.ref a] [.ref a] _ (fun _ _ _ => False) hr rfl E (hb s (.ref a)) (.cons rfl .nil) q) fun r z h => ?_
  match r, h with
  | .error e, ⟨_, _, _, _, _, _, _, _, _, _, _, _, z⟩ => exact z.elim
  | .ok .next, h => exact h.elim
  | .ok .brk, h => exact h.elim
  | .ok .cont, h => exact h.elim
  | .ok (.ret u), ⟨v, H', os, bare, un, ok', rv, e⟩ =>
    have e : v = .bl true := e
    subst e
    obtain rfl : u = Value.bool true := rv
    refine ⟨rfl, OldK.of_keep fun b o e => ?_, os, bare⟩
    cases c : H b with
    | none => exact un.keep b o e c (fun y => nomatch (show b ∈ ([] : List Addr) from y)) (by simp)
    | some u =>
      obtain ⟨_, ob, xs, rfl⟩ := only b u c
      have e1 := (ok b _ c).1
      have e2 := (ok' b _ (un.frzs b ob _ c)).1
      rw [e] at e1
      cases e1
      exact e2
theorem run_law (hr : Room k callerA) (KX : K.In s.heap) (g1 : s.heap.Ns mainGlobals mg) (g2 : s.heap.Ns builtinsNs mb) (g3 : ∀ y : Str, y ≠ "__name__" → mb y = bootBuiltins y) (g4 : s.heap.NoLimit) (g5 : s.gens = #[])
    (ha : s.heap.get? a = some (scr us)) (hi : IntsAre us ns) (hl : ns.length ≤ sizeLine) (F : ∀ base : Heap, K.In base → base.Ns mainGlobals mg → Fd P w K mg base k f fd [x] sp) (hb : ∀ (z : Shared) (u : Value), BindsTo z fd ⟨[u], []⟩ [(x, u)])
    (q : ∀ H : Hp, SqL K H a (ns.map V.int) → sp [.ref a] H (fun v _ => v = .bl true) fun _ _ _ => False) :
    codeAny (model P w) callerA (.call (.ref f) ⟨[.ref a], []⟩) (fun r z => r = .ok (.ret (.bool true)) ∧ OldK s.heap z.heap ∧ z.os = s.os ∧ AllBare z.gens) s := by
  have rv := L2.vals_ints hi
  cases c : K.lookup a with
  | some o =>
    have e := KX a o c
    rw [ha] at e
    cases e
    refine run_at hr KX g1 g2 g3 g4 g5 ha F hb (fun _ => none) (fun b u z => nomatch (show (none : Option HO) = some u from z)) (fun b u z => nomatch (show (none : Option HO) = some u from z)) (fun z => absurd rfl z) (q _ (.inr ⟨_, us.toArray, _, c, rfl, rfl, rfl, by rw [List.size_toArray, hi.length]; exact hl, by simpa using rv⟩))
  | none =>
    let H : Hp := fun b => if b = a then some (.frz (scr us) (.lst (ns.map V.int))) else none
    have hH : ∀ b u, H b = some u → b = a ∧ u = .frz (scr us) (.lst (ns.map V.int)) := fun b u z => by
      by_cases h : b = a
      · have z : (if b = a then some (HO.frz (scr us) (.lst (ns.map V.int))) else none) = some u := z
        rw [if_pos h] at z
        cases z
        exact ⟨h, rfl⟩
      · have z : (if b = a then some (HO.frz (scr us) (.lst (ns.map V.int))) else none) = some u := z
        rw [if_neg h] at z
        cases z
    refine run_at hr KX g1 g2 g3 g4 g5 ha F hb H (fun b u z => ⟨(hH b u z).1, _, _, (hH b u z).2⟩) (fun b u z => ?_) (fun _ => c) (q H (.inl (.inr ⟨_, if_pos rfl⟩)))
    obtain ⟨rfl, rfl⟩ := hH b u z
    exact ⟨ha, by rw [List.length_map]; exact hl, us, _, rv, ha⟩
end
theorem walkG {l : PySem.W.OpenLaw} {n k : Nat} {q : Program} {loose : List Str} {XP : (Str → Option Value) → Heap → Prop} {YP : World → Heap → Prop} {d : DefRec} {x : Str} (hn : l.most = some n) (hz : n ≤ sizeLine) (hdf : d.params.defaults = []) (hr : Room k callerA)
    (F : ∀ (w : World) (mg : Str → Option Value) (f : Addr) (h : Heap), YP w h → h.Ns mainGlobals mg → mg d.name = some (.ref f) → ∃ (K : PySem.W.Frag) (fd : FuncData) (sp : Sp), K.In h ∧ (∀ (z : Shared) (u : Value), BindsTo z fd ⟨[u], []⟩ [(x, u)]) ∧
      (∀ (H : Hp) (a : Addr) (ns : List Int), ns.length ≤ n → SqL K H a (ns.map V.int) → sp [.ref a] H (fun v _ => v = .bl true) fun _ _ _ => False) ∧ ∀ base : Heap, K.In base → base.Ns mainGlobals mg → Fd l.prog w K mg base k f fd [x] sp) :
    PySem.W.WalkO q loose XP YP l.row.toRowW d [] (fun f vs => PySem.call f vs) :=
  Att.attach_call hn hdf fun w z0 z1 mg mb f o pm cd doc a us ns G Y h1 h2 h3 h4 h5 h6 h7 h8 => by
    obtain ⟨K, fd, sp, KX, b, s1, s2⟩ := F w mg f _ Y G.T.g h4
    exact run_law hr KX G.T.g G.T.b G.T.builtins G.T.nolimit h8 h5 h6 (Nat.le_trans h7 hz) s2 b fun H hS => s1 H a ns h7 hS
end Pd
end
section
set_option autoImplicit false
set_option Elab.async false
set_option linter.all false
set_option autoImplicit false
set_option maxRecDepth 100000
set_option maxHeartbeats 4000000
/-! Pd25: == of lists and of tuples item by item, true or false. -/
namespace PdB
open PySem PySem.SeqAt
open AutoSeq1 (wpAny_loadPart')
open MeetsSeq MeetsSeq2 MeetsSeq3 SeqRoads2
section
variable {prog : Program} {w : World} {A : Around} {R : Result → Shared → Prop}
/-- at each turn the two lists are read anew: N items each; the i-th two are equal, or it ends there -/
def TwoL (prog : Program) (w : World) (A : Around) (E : Value → Shared → Prop) (l b : Addr) (N : Nat) (I : Nat → Shared → Prop) (S : Shared → Prop) : Prop :=
  ∀ i s, I i s → ∃ (items items2 : Array Value) (n n2 : Nat), s.heap.get? l = some { cls := .type "list", data := .seq items n } ∧ s.heap.get? b = some { cls := .type "list", data := .seq items2 n2 } ∧ items.size = N ∧ items2.size = N ∧
    ∀ (h1 : i < items.size) (h2 : i < items2.size), wpAny (model prog w) A.in1 (eqBool items[i] items2[i]) (fun r s' => (r = true ∧ I (i + 1) s') ∨ (r = false ∧ S s')) E s
theorem loop2 (l b : Addr) (N : Nat) (I : Nat → Shared → Prop) (S : Shared → Prop) (hl : TwoL prog w A (fun e s' => R (.error e) s') l b N I S)
    (hS : ∀ s, S s → ∃ (items items2 : Array Value) (n n2 : Nat), s.heap.get? l = some { cls := .type "list", data := .seq items n } ∧ s.heap.get? b = some { cls := .type "list", data := .seq items2 n2 } ∧ items.size = N ∧ items2.size = N)
    (fin : ∀ s, I N s → R (.ok (.ret (.bool true))) s) (ff : ∀ s, S s → R (.ok (.ret (.bool false))) s) (k : Nat) :
    ∀ i : Nat, N - i = k → i ≤ N → ∀ s, I i s →
      wpAny (model prog w) A.in1 (Builtin.«list.__eq__.loop» ⟨[.ref l, .ref b, rawInt i, rawInt 2], []⟩) (GQ.FinOf prog w A R) (fun e s' => R (.error e) s') s := by
  induction k with
  | zero =>
    intro i hk hi s h
    obtain ⟨items, items2, n, n2, hl1, hb1, hs1, hs2, _⟩ := hl _ _ h
    have hi' : i = N := by omega
    have hR : R (.ok (.ret (.bool true))) s := fin s (hi' ▸ h)
    obtain ⟨hp, g, d, tk, os⟩ := s
    wp_walk using wpAny_loadPart' hl1, wpAny_loadPart' hb1
    have hi1 : items[((i : Nat) : Int).toNat]? = none := by simp; omega
    have hi2 : items2[((i : Nat) : Int).toNat]? = none := by simp; omega
    rw [hi1, hi2]
    wp_walk using wpAny_loadPart' hl1, wpAny_loadPart' hb1
    show R (.ok (.ret (.bool (items.size == items2.size)))) _
    rw [hs1, hs2]
    simpa using hR
  | succ k ih =>
    intro i hk hi s h
    obtain ⟨items, items2, n, n2, hl1, hb1, hs1, hs2, turn⟩ := hl _ _ h
    have hlt : i < items.size := by omega
    have hlt2 : i < items2.size := by omega
    have ht := turn hlt hlt2
    obtain ⟨hp, g, d, tk, os⟩ := s
    wp_walk using wpAny_loadPart' hl1, wpAny_loadPart' hb1
    have hi1 : items[((i : Nat) : Int).toNat]? = some items[i] := by simp [hlt]
    have hi2 : items2[((i : Nat) : Int).toNat]? = some items2[i] := by simp [hlt2]
    have hc : ((i : Int) + 1) = ((i + 1 : Nat) : Int) := by omega
    rw [hi1, hi2]
    refine wpAny_bind (wpAny_mono ht (fun r s2 h2 => ?_) fun _ _ x => x)
    rcases h2 with ⟨hr, h2⟩ | ⟨hr, h2⟩
    · subst hr
      have hrec := ih (i + 1) (by omega) (by omega) s2 h2
      obtain ⟨hp2, g2, d2, tk2, os2⟩ := s2
      wp_walk
      rw [hc]
      exact ⟨plainId_quiet plain_eq_loop _, codeAny_builtin entry_eq_loop (by
        rw [Around.under_plainId plain_eq_loop _]
        exact hrec)⟩
    · subst hr
      have hR := ff s2 h2
      obtain ⟨items3, items4, n3, n4, hl3, hb3, hs3, hs4⟩ := hS _ h2
      obtain ⟨hp2, g2, d2, tk2, os2⟩ := s2
      wp_walk using wpAny_loadPart' hl3, wpAny_loadPart' hb3
      have hi1 : items3[((i : Nat) : Int).toNat]? = some (items3[i]'(by omega)) := by simp
      have hi2 : items4[((i : Nat) : Int).toNat]? = some (items4[i]'(by omega)) := by simp
      rw [hi1, hi2]
      wp_walk
      exact hR
theorem list2 (l b : Addr) (N : Nat) (I : Nat → Shared → Prop) (S : Shared → Prop) (hl : TwoL prog w A (fun e s' => R (.error e) s') l b N I S)
    (hS : ∀ s, S s → ∃ (items items2 : Array Value) (n n2 : Nat), s.heap.get? l = some { cls := .type "list", data := .seq items n } ∧ s.heap.get? b = some { cls := .type "list", data := .seq items2 n2 } ∧ items.size = N ∧ items2.size = N)
    (fin : ∀ s, I N s → R (.ok (.ret (.bool true))) s) (ff : ∀ s, S s → R (.ok (.ret (.bool false))) s) {s : Shared} (h : I 0 s) :
    wpAny (model prog w) A.in1 (Builtin.«list.__eq__» ⟨[.ref l, .ref b], []⟩) (GQ.FinOf prog w A R) (fun e s' => R (.error e) s') s := by
  obtain ⟨items, items2, n, n2, hl1, hb1, hs1, hs2, _⟩ := hl _ _ h
  have hrec := loop2 (A := A) (R := R) l b N I S hl hS fin ff _ 0 rfl (Nat.zero_le _) s h
  obtain ⟨hp, g, d, tk, os⟩ := s
  have f3 := AutoSeq1.sub_list_list
  have hne : ¬ (items.size != items2.size) = true := by simp [hs1, hs2]
  wp_walk using wpAny_loadPart' hl1, wpAny_loadPart' hb1
  exact ⟨plainId_quiet plain_eq_loop _, codeAny_builtin entry_eq_loop (by
    rw [Around.under_plainId plain_eq_loop _]
    exact hrec)⟩
theorem list0 (l b : Addr) (items items2 : Array Value) (n n2 : Nat) (hsz : items.size ≠ items2.size) {s : Shared} (hl1 : s.heap.get? l = some { cls := .type "list", data := .seq items n }) (hb1 : s.heap.get? b = some { cls := .type "list", data := .seq items2 n2 })
    (ff : R (.ok (.ret (.bool false))) s) :
    wpAny (model prog w) A.in1 (Builtin.«list.__eq__» ⟨[.ref l, .ref b], []⟩) (GQ.FinOf prog w A R) (fun e s' => R (.error e) s') s := by
  obtain ⟨hp, g, d, tk, os⟩ := s
  have f3 := AutoSeq1.sub_list_list
  have hne : (items.size != items2.size) = true := by simpa using hsz
  wp_walk using wpAny_loadPart' hl1, wpAny_loadPart' hb1
  exact ff
theorem tup2 (l b : Addr) (items items2 : Array Value) (n n2 : Nat) (dd dd2 : Option Addr) (sl sl2 : Array (Option Value)) (I : Nat → Shared → Prop) (S : Shared → Prop)
    (turn : ∀ i (h1 : i < items.size) (h2 : i < items2.size) s, I i s → wpAny (model prog w) A.in1 (eqBool items[i] items2[i]) (fun r s' => (r = true ∧ I (i + 1) s') ∨ (r = false ∧ S s')) (fun e s' => R (.error e) s') s)
    (fin : ∀ s, I (min items.size items2.size) s → R (.ok (.ret (.bool (items.size == items2.size)))) s) (ff : ∀ s, S s → R (.ok (.ret (.bool false))) s) {s : Shared} (hl1 : s.heap.get? l = some { cls := .type "tuple", dict := dd, data := .seq items n, slots := sl }) (hb1 : s.heap.get? b = some { cls := .type "tuple", dict := dd2, data := .seq items2 n2, slots := sl2 }) (h : I 0 s) :
    wpAny (model prog w) A.in1 (Builtin.«tuple.__eq__» ⟨[.ref l, .ref b], []⟩) (GQ.FinOf prog w A R) (fun e s' => R (.error e) s') s := by
  have f2 := AutoSeq1.sub_tuple_tuple
  have hZ : (items.toList.zip items2.toList).length = min items.size items2.size := by simp
  have h0 := h
  obtain ⟨hp, g, d, tk, os⟩ := s
  wp_walk using wpAny_loadPart' hl1, wpAny_loadPart' hb1, wpAny_forIn_list _ (fun rest b s' => b.1 = none ∧ ∃ i, rest = (items.toList.zip items2.toList).drop i ∧ i ≤ min items.size items2.size ∧ I i s') _
  case turn =>
    rintro ⟨y, x⟩ rest b s' ⟨hb', i, hz, hi, hI⟩
    have hlt : i < (items.toList.zip items2.toList).length := by
      rcases Nat.lt_or_ge i (items.toList.zip items2.toList).length with h' | h'
      · exact h'
      · rw [List.drop_of_length_le h'] at hz; cases hz
    have h1 : i < items.size := by omega
    have h2 : i < items2.size := by omega
    rw [List.drop_eq_getElem_cons hlt] at hz
    injection hz with hyx hrest
    have hy : y = items[i] := by have := congrArg Prod.fst hyx; simpa using this
    have hx : x = items2[i] := by have := congrArg Prod.snd hyx; simpa using this
    subst hy hx
    refine wpAny_bind (wpAny_mono (turn i h1 h2 s' hI) (fun r s2 q2 => ?_) fun _ _ x => x)
    rcases q2 with ⟨hr, q2⟩ | ⟨hr, q2⟩
    · subst hr
      wp_walk
      exact ⟨rfl, i + 1, hrest, by omega, q2⟩
    · subst hr
      have hR := ff s2 q2
      wp_walk
      exact hR
  case fin =>
    rintro ⟨b1, b2⟩ s' ⟨hb', i, hz, hi, hI⟩
    simp only at hb'
    subst hb'
    have hge : min items.size items2.size ≤ i := by
      rcases Nat.lt_or_ge i (items.toList.zip items2.toList).length with h' | h'
      · rw [List.drop_eq_getElem_cons h'] at hz; cases hz
      · omega
    have hi' : i = min items.size items2.size := by omega
    have hR := fin s' (hi' ▸ hI)
    wp_walk
    exact hR
  case h => exact ⟨rfl, 0, rfl, Nat.zero_le _, h0⟩
end
section
variable {prog : Program} {w : World} {A : Around} {E : Value → Shared → Prop} {s : Shared}
theorem rc_list2 {l b : Addr} {N : Nat} {Q : Value → Shared → Prop} (hu : A.units < cLine) (I : Nat → Shared → Prop) (S : Shared → Prop) (hl : TwoL prog w A E l b N I S)
    (hS : ∀ s, S s → ∃ (items items2 : Array Value) (n n2 : Nat), s.heap.get? l = some { cls := .type "list", data := .seq items n } ∧ s.heap.get? b = some { cls := .type "list", data := .seq items2 n2 } ∧ items.size = N ∧ items2.size = N)
    (fin : ∀ s, I N s → Q (.bool true) s) (ff : ∀ s, S s → Q (.bool false) s) (h : I 0 s) : wpAny (model prog w) A (richCompare .Eq (.ref l) (.ref b)) Q E s := by
  obtain ⟨items, items2, n, n2, hl1, hb1, _, _, _⟩ := hl _ _ h
  refine wpAny_richCompare_same_room (op := .Eq) ⟨_, hl1, rfl⟩ ⟨_, hb1, rfl⟩ F.slot_list_eq (GQ.call_here F.slot_list_eq ⟨_, hl1, rfl⟩ F.entry_list_eq (F.args_list_eq_2 _ _) ?_) hu
  exact list2 (R := wants (fun v s' => v ≠ .notImplemented ∧ Q v s') E) l b N I S hl hS (fun s' q => ⟨(fun x => nomatch x), fin s' q⟩) (fun s' q => ⟨(fun x => nomatch x), ff s' q⟩) h
theorem rc_list0 {l b : Addr} {items items2 : Array Value} {n n2 : Nat} {Q : Value → Shared → Prop} (hu : A.units < cLine) (hl1 : s.heap.get? l = some { cls := .type "list", data := .seq items n }) (hb1 : s.heap.get? b = some { cls := .type "list", data := .seq items2 n2 }) (hsz : items.size ≠ items2.size)
    (h : Q (.bool false) s) : wpAny (model prog w) A (richCompare .Eq (.ref l) (.ref b)) Q E s := by
  refine wpAny_richCompare_same_room (op := .Eq) ⟨_, hl1, rfl⟩ ⟨_, hb1, rfl⟩ F.slot_list_eq (GQ.call_here F.slot_list_eq ⟨_, hl1, rfl⟩ F.entry_list_eq (F.args_list_eq_2 _ _) ?_) hu
  exact list0 (R := wants (fun v s' => v ≠ .notImplemented ∧ Q v s') E) l b items items2 n n2 hsz hl1 hb1 ⟨(fun x => nomatch x), h⟩
theorem rc_tup2 {l b : Addr} {items items2 : Array Value} {Q : Value → Shared → Prop} (hu : A.units < cLine) (I : Nat → Shared → Prop) (S : Shared → Prop)
    (hl : s.heap.IsTuple l items) (hb : s.heap.IsTuple b items2)
    (turn : ∀ i (h1 : i < items.size) (h2 : i < items2.size) s, I i s → wpAny (model prog w) A.in1 (eqBool items[i] items2[i]) (fun r s' => (r = true ∧ I (i + 1) s') ∨ (r = false ∧ S s')) E s)
    (fin : ∀ s, I (min items.size items2.size) s → Q (.bool (items.size == items2.size)) s) (ff : ∀ s, S s → Q (.bool false) s) (h : I 0 s) : wpAny (model prog w) A (richCompare .Eq (.ref l) (.ref b)) Q E s := by
  obtain ⟨⟨cls, dd, data, sl⟩, ho, hc, n, hd⟩ := id hl
  obtain ⟨⟨cls2, dd2, data2, sl2⟩, ho2, hc2, n2, hd2⟩ := id hb
  simp only at hc hd hc2 hd2
  subst hc hd hc2 hd2
  refine wpAny_richCompare_same_room (op := .Eq) ⟨_, ho, rfl⟩ ⟨_, ho2, rfl⟩ F.slot_tuple_eq (GQ.call_here F.slot_tuple_eq ⟨_, ho, rfl⟩ F.entry_tuple_eq (F.args_tuple_eq_2 _ _) ?_) hu
  exact tup2 (R := wants (fun v s' => v ≠ .notImplemented ∧ Q v s') E) l b items items2 n n2 dd dd2 sl sl2 I S turn (fun s' q => ⟨(fun x => nomatch x), fin s' q⟩) (fun s' q => ⟨(fun x => nomatch x), ff s' q⟩) ho ho2 h
end
end PdB
end
section
set_option autoImplicit false
set_option Elab.async false
set_option linter.all false
set_option autoImplicit false
set_option maxRecDepth 100000
set_option maxHeartbeats 4000000
/-! Pd26: == of data deep down, instances with their own __eq__ among it. -/
namespace Pd
open PySem PySem.Spec PyProof.Rows L2
mutual
@[simp] def D.nsc : D → Bool
  | .lst ds => D.nscL ds
  | .tup ds => D.nscL ds
  | .ins _ _ xs => D.nscL xs
  | .dk _ xs => D.nscL xs
  | .dt _ xs => D.nscL xs
  | .scr _ => false
  | .cst _ => false
  | _ => true
@[simp] def D.nscL : List D → Bool
  | [] => true
  | d :: ds => d.nsc && D.nscL ds
end
section
variable {X : Cx} {pins : List (Addr × Obj)} {σ : L2.St} {H P : Hp} {s : Shared} {a : Addr}
theorem no_lt (I : Inv X pins σ H s) {xs ys : List V} (h : H a = some (.lst xs)) (g : SqT X.K H a ys) : False := by
  obtain ⟨its, r, ⟨o, e, c, _⟩, _⟩ := I.tuple g
  obtain ⟨_, its2, n, _, e2⟩ := I.hok a _ h
  rw [e] at e2
  cases e2
  exact absurd c (by simp)
theorem no_it (I : Inv X pins σ H s) {C dx : Addr} {fs : List (Str × V)} {ys : List V} (h : H a = some (.ins C dx fs)) (g : SqT X.K H a ys) : False := by
  obtain ⟨its, r, ⟨o, e, c, _⟩, _⟩ := I.tuple g
  obtain ⟨_, _, _, e2, _⟩ := I.hok a _ h
  rw [e] at e2
  cases e2
  exact absurd c (by simp [PySem.W.instObj])
theorem no_kt (I : Inv X pins σ H s) (h : IsD H a) {ys : List V} (g : SqT X.K H a ys) : False := by
  obtain ⟨its, r, ⟨o, e, c, _⟩, _⟩ := I.tuple g
  obtain ⟨o', e2, c2⟩ := (isD_at I h).1
  rw [e] at e2
  cases e2
  exact absurd (c.symm.trans c2) (by simp)
theorem zip_inj {α β : Type} : ∀ {ns ms : List α} {xs ys : List β}, xs.length = ns.length → ys.length = ms.length → ns.zip xs = ms.zip ys → ns = ms ∧ xs = ys
  | [], [], xs, ys, h, g, _ => by
    cases xs <;> cases ys <;> simp_all
  | [], m :: ms, xs, ys, h, g, e => by
    cases ys with
    | nil => simp at g
    | cons y ys => cases xs <;> simp at e
  | n :: ns, [], xs, ys, h, g, e => by
    cases xs with
    | nil => simp at h
    | cons x xs => cases ys <;> simp at e
  | n :: ns, m :: ms, xs, ys, h, g, e => by
    cases xs with
    | nil => simp at h
    | cons x xs =>
      cases ys with
      | nil => simp at g
      | cons y ys =>
        simp only [List.zip_cons_cons, List.cons.injEq, Prod.mk.injEq] at e
        obtain ⟨⟨rfl, rfl⟩, e⟩ := e
        obtain ⟨rfl, rfl⟩ := zip_inj (by simpa using h) (by simpa using g) e
        exact ⟨rfl, rfl⟩
mutual
/-- what stands at a place is one thing -/
theorem Rp.inj (I : Inv X pins σ H s) (S : Sub P H) : ∀ (d e : D) (v : V), d.nsc = true → e.nsc = true → Rp X.K P d v → Rp X.K P e v → d = e
  | .non, e, v, _, he, h1, h2 => by
    cases h1
    cases e <;> simp_all [Rp]
  | .bl _, e, v, _, he, h1, h2 => by
    cases h1
    cases e <;> simp_all [Rp]
  | .int _, e, v, _, he, h1, h2 => by
    cases h1
    cases e <;> simp_all [Rp]
  | .str _, e, v, _, he, h1, h2 => by
    cases h1
    cases e <;> simp_all [Rp]
  | .lst ds, e, v, hd, he, h1, h2 => by
    obtain ⟨a, xs, rfl, ha, hl⟩ := h1
    cases e with
    | lst es =>
      obtain ⟨b, ys, e1, hb, hl2⟩ := h2
      cases e1
      rw [ha] at hb
      cases hb
      rw [RpL.inj I S ds es xs hd he hl hl2]
    | tup es =>
      obtain ⟨b, ys, e1, hb, hl2⟩ := h2
      cases e1
      exact (no_lt I (S _ _ ha) (sqT_of (S _ _ hb))).elim
    | ins C ns es =>
      obtain ⟨b, dx, ys, e1, hb, _⟩ := h2
      cases e1
      rw [ha] at hb
      cases hb
    | dk ks es =>
      obtain ⟨b, ys, o, e1, hb, _⟩ := h2
      cases e1
      rw [ha] at hb
      cases hb
    | dt ks es =>
      obtain ⟨b, ys, o, e1, hb, _⟩ := h2
      cases e1
      rw [ha] at hb
      cases hb
    | scr _ => simp at he
    | cst _ => simp at he
    | _ => simp [Rp] at h2
  | .tup ds, e, v, hd, he, h1, h2 => by
    obtain ⟨a, xs, rfl, ha, hl⟩ := h1
    cases e with
    | lst es =>
      obtain ⟨b, ys, e1, hb, hl2⟩ := h2
      cases e1
      exact (no_lt I (S _ _ hb) (sqT_of (S _ _ ha))).elim
    | tup es =>
      obtain ⟨b, ys, e1, hb, hl2⟩ := h2
      cases e1
      have e2 := I.tuple_inj (sqT_of (S _ _ ha)) (sqT_of (S _ _ hb))
      subst e2
      rw [RpL.inj I S ds es xs hd he hl hl2]
    | ins C ns es =>
      obtain ⟨b, dx, ys, e1, hb, _⟩ := h2
      cases e1
      exact (no_it I (S _ _ hb) (sqT_of (S _ _ ha))).elim
    | dk ks es =>
      obtain ⟨b, ys, o, e1, hb, _⟩ := h2
      cases e1
      exact (no_kt I (.inl ⟨_, .inr ⟨o, S _ _ hb⟩⟩) (sqT_of (S _ _ ha))).elim
    | dt ks es =>
      obtain ⟨b, ys, o, e1, hb, _⟩ := h2
      cases e1
      exact (no_kt I (.inr ⟨_, .inr ⟨o, S _ _ hb⟩⟩) (sqT_of (S _ _ ha))).elim
    | scr _ => simp at he
    | cst _ => simp at he
    | _ => simp [Rp] at h2
  | .ins C ns ds, e, v, hd, he, h1, h2 => by
    obtain ⟨a, dx, xs, rfl, ha, hn, hl⟩ := h1
    cases e with
    | lst es =>
      obtain ⟨b, ys, e1, hb, hl2⟩ := h2
      cases e1
      rw [ha] at hb
      cases hb
    | tup es =>
      obtain ⟨b, ys, e1, hb, hl2⟩ := h2
      cases e1
      exact (no_it I (S _ _ ha) (sqT_of (S _ _ hb))).elim
    | ins C' ns' es =>
      obtain ⟨b, dx', ys, e1, hb, hn', hl2⟩ := h2
      cases e1
      rw [ha] at hb
      injection hb with hb
      injection hb with h1 h2 h3
      subst h1
      obtain ⟨rfl, rfl⟩ := zip_inj hn hn' h3
      rw [RpL.inj I S ds es xs hd he hl hl2]
    | dk ks es =>
      obtain ⟨b, ys, o, e1, hb, _⟩ := h2
      cases e1
      rw [ha] at hb
      cases hb
    | dt ks es =>
      obtain ⟨b, ys, o, e1, hb, _⟩ := h2
      cases e1
      rw [ha] at hb
      cases hb
    | scr _ => simp at he
    | cst _ => simp at he
    | _ => simp [Rp] at h2
  | .dk ks ds, e, v, hd, he, h1, h2 => by
    obtain ⟨a, xs, o1, rfl, ha, hn, hl⟩ := h1
    cases e with
    | lst es =>
      obtain ⟨b, ys, e1, hb, hl2⟩ := h2
      cases e1
      rw [ha] at hb
      cases hb
    | tup es =>
      obtain ⟨b, ys, e1, hb, hl2⟩ := h2
      cases e1
      exact (no_kt I (.inl ⟨_, .inr ⟨o1, S _ _ ha⟩⟩) (sqT_of (S _ _ hb))).elim
    | ins C' ns' es =>
      obtain ⟨b, dx', ys, e1, hb, hn', hl2⟩ := h2
      cases e1
      rw [ha] at hb
      cases hb
    | dk ks' es =>
      obtain ⟨b, ys, o2, e1, hb, hn', hl2⟩ := h2
      cases e1
      rw [ha] at hb
      injection hb with hb
      injection hb with h0 hb
      injection hb with h3
      obtain ⟨rfl, rfl⟩ := zip_inj hn hn' h3
      rw [RpL.inj I S ds es xs hd he hl hl2]
    | dt ks' es =>
      obtain ⟨b, ys, o2, e1, hb, hn', hl2⟩ := h2
      cases e1
      rw [ha] at hb
      cases hb
    | scr _ => simp at he
    | cst _ => simp at he
    | _ => simp [Rp] at h2
  | .dt ks ds, e, v, hd, he, h1, h2 => by
    obtain ⟨a, xs, o1, rfl, ha, hn, hl⟩ := h1
    cases e with
    | lst es =>
      obtain ⟨b, ys, e1, hb, hl2⟩ := h2
      cases e1
      rw [ha] at hb
      cases hb
    | tup es =>
      obtain ⟨b, ys, e1, hb, hl2⟩ := h2
      cases e1
      exact (no_kt I (.inr ⟨_, .inr ⟨o1, S _ _ ha⟩⟩) (sqT_of (S _ _ hb))).elim
    | ins C' ns' es =>
      obtain ⟨b, dx', ys, e1, hb, hn', hl2⟩ := h2
      cases e1
      rw [ha] at hb
      cases hb
    | dt ks' es =>
      obtain ⟨b, ys, o2, e1, hb, hn', hl2⟩ := h2
      cases e1
      rw [ha] at hb
      injection hb with hb
      injection hb with h0 hb
      injection hb with h3
      obtain ⟨rfl, rfl⟩ := zip_inj hn hn' h3
      rw [RpL.inj I S ds es xs hd he hl hl2]
    | dk ks' es =>
      obtain ⟨b, ys, o2, e1, hb, hn', hl2⟩ := h2
      cases e1
      rw [ha] at hb
      cases hb
    | scr _ => simp at he
    | cst _ => simp at he
    | _ => simp [Rp] at h2
  | .scr _, e, v, hd, he, h1, h2 => by simp at hd
  | .cst _, e, v, hd, he, h1, h2 => by simp at hd
theorem RpL.inj (I : Inv X pins σ H s) (S : Sub P H) : ∀ (ds es : List D) (vs : List V), D.nscL ds = true → D.nscL es = true → RpL X.K P ds vs → RpL X.K P es vs → ds = es
  | [], es, vs, _, he, h1, h2 => by
    cases h1
    cases es with
    | nil => rfl
    | cons e es =>
      obtain ⟨v, r, e1, _⟩ := h2
      cases e1
  | d :: ds, es, vs, hd, he, h1, h2 => by
    obtain ⟨v, r, rfl, g1, g2⟩ := h1
    cases es with
    | nil => cases h2
    | cons e es =>
      obtain ⟨v', r', e1, k1, k2⟩ := h2
      cases e1
      simp at hd he
      rw [Rp.inj I S d e v hd.1 he.1 g1 k1, RpL.inj I S ds es r hd.2 he.2 g2 k2]
end
end
/-! ### == by data -/
mutual
/-- == of d and e is b; G tells it of instances; n levels are left -/
inductive EqD (G : Nat → D → D → Bool → Prop) : Nat → D → D → Bool → Prop
  | plain {n : Nat} {d e : D} {p q : PyData} : d.py = some p → e.py = some q → min p.depth q.depth ≤ 60 → EqD G n d e (PyData.eqv p q)
  | own {n : Nat} {d e : D} {b : Bool} : G n d e b → EqD G n d e b
  | lst {n : Nat} {ds es : List D} {b : Bool} : ds.length = es.length → EqT G n ds es b → EqD G (n + 1) (.lst ds) (.lst es) b
  | len {n : Nat} {ds es : List D} : ds.length ≠ es.length → EqD G n (.lst ds) (.lst es) false
  | tup {n : Nat} {ds es : List D} {b : Bool} : EqT G n ds es b → EqD G (n + 1) (.tup ds) (.tup es) b
inductive EqT (G : Nat → D → D → Bool → Prop) : Nat → List D → List D → Bool → Prop
  | nn {n : Nat} : EqT G n [] [] true
  | nc {n : Nat} {e : D} {es : List D} : EqT G n [] (e :: es) false
  | cn {n : Nat} {d : D} {ds : List D} : EqT G n (d :: ds) [] false
  | ff {n : Nat} {d e : D} {ds es : List D} : EqD G n d e false → EqT G n (d :: ds) (e :: es) false
  | tt {n : Nat} {d e : D} {ds es : List D} {b : Bool} : EqD G n d e true → EqT G n ds es b → EqT G n (d :: ds) (e :: es) b
end
section
variable {G : Nat → D → D → Bool → Prop}
mutual
theorem EqD.refl (hG : ∀ n d b, G n d d b → b = true) : ∀ {n : Nat} {d e : D} {b : Bool}, EqD G n d e b → d = e → b = true
  | _, _, _, _, .plain (p := p) (q := q) h1 h2 _, e => by
    subst e
    rw [h1] at h2
    cases h2
    exact PySem.SeqAt.eqv_refl_plain p (D.py_plain _ p h1)
  | _, _, _, _, .own h, e => by
    subst e
    exact hG _ _ _ h
  | _, _, _, _, .lst _ h, e => by
    injection e with e
    exact EqT.refl hG h e
  | _, _, _, _, .len h, e => by
    injection e with e
    exact absurd (congrArg List.length e) h
  | _, _, _, _, .tup h, e => by
    injection e with e
    exact EqT.refl hG h e
theorem EqT.refl (hG : ∀ n d b, G n d d b → b = true) : ∀ {n : Nat} {ds es : List D} {b : Bool}, EqT G n ds es b → ds = es → b = true
  | _, _, _, _, .nn, _ => rfl
  | _, _, _, _, .nc, e => by cases e
  | _, _, _, _, .cn, e => by cases e
  | _, _, _, _, .ff h, e => by
    injection e with e1 e2
    exact EqD.refl hG h e1
  | _, _, _, _, .tt h g, e => by
    injection e with e1 e2
    exact EqT.refl hG g e2
end
end
end Pd
end
section
set_option autoImplicit false
set_option Elab.async false
set_option linter.all false
set_option autoImplicit false
set_option maxRecDepth 100000
set_option maxHeartbeats 4000000
/-! Pd27: a == b, a != b where instances with their own __eq__ stand deep inside of lists and tuples. -/
namespace Pd
open PySem PySem.Spec PyProof.Rows L2
/-- somewhere below the running body, with room -/
structure Dn (X : Cx) (n : Nat) (A : Around) : Prop where
  room : Room n A
  fr : A.frames = X.A.frames
  gd : A.guards = some []
theorem Dn.in1 {X : Cx} {n : Nat} {A : Around} (h : Dn X (n + 1) A) : Dn X n A.in1 := ⟨h.room.in1, h.fr, h.gd⟩
/-- what is told of instances: each class has its promise -/
def GOf (K : PySem.W.Frag) (k : Nat) (l : List (Addr × Ct)) (n : Nat) (d e : D) (b : Bool) : Prop :=
  k ≤ n ∧ d.nsc = true ∧ e.nsc = true ∧ ∃ C ct ns xs, (C, ct) ∈ l ∧ d = .ins C ns xs ∧ D.okTy K e ∧ PySem.W.notFirst K C e.ty = true ∧ ct.c [some d, some e] (fun z => z = .bl b) fun _ => False
/-- classes with own __eq__ that keep their promises, an instance is equal to itself -/
structure Gs (P : Program) (w : World) (K : PySem.W.Frag) (mg : Str → Option Value) (base : Heap) (k : Nat) (l : List (Addr × Ct)) : Prop where
  eq : ∀ C ct, (C, ct) ∈ l → EqG P w K mg base k C ct
  same : ∀ C ct, (C, ct) ∈ l → ∀ ns xs b, ct.c [some (.ins C ns xs), some (.ins C ns xs)] (fun z => z = .bl b) (fun _ => False) → b = true
section
variable {X : Cx} {k : Nat} {l : List (Addr × Ct)} {pins : List (Addr × Obj)} {σ : L2.St} {s : Shared} {H P : Hp}
theorem GOf.refl {K : PySem.W.Frag} {w : World} {Pr : Program} {mg : Str → Option Value} {base : Heap} (T : Gs Pr w K mg base k l) : ∀ n d b, GOf K k l n d d b → b = true := fun n d b ⟨_, _, _, C, ct, ns, xs, h1, e, _, _, h⟩ => by
  subst e
  exact T.same C ct h1 ns xs b h
/-- in a builtin: the same thing, or by the rich comparison -/
theorem eqBool_of {A : Around} {a : Addr} {v : Value} {b : Bool} {Q : Bool → Shared → Prop} {E : Value → Shared → Prop} {pr : Program} {w : World} (q0 : Value.ref a = v → Q true s) (h : wpAny (model pr w) A (richCompare .Eq (.ref a) v) (fun r s' => r = .bool b ∧ Q b s') E s) :
    wpAny (model pr w) A (eqBool (.ref a) v) Q E s := by
  by_cases e : (Value.ref a == v) = true
  · have e' := eq_of_beq e
    subst e'
    exact SeqAt.EqAt.same (A := A) (s := s) (.ref a) pr w E _ (q0 rfl)
  · unfold eqBool
    refine wpAny_holding ?_
    refine wpAny_ite_split (fun hab => absurd hab e) (fun _ => ?_)
    have fin : wpAny (model pr w) A (do let r ← richCompare .Eq (.ref a) v; truthOfDropped r) Q E s := by
      refine wpAny_bind (wpAny_mono h (fun v s' hv => ?_) fun _ _ x => x)
      obtain ⟨rfl, q⟩ := hv
      exact wpAny_truthy_bool q
    cases v <;> exact fin
/-- what the loop over the items keeps -/
def Lp (X : Cx) (pins : List (Addr × Obj)) (σ : L2.St) (H : Hp) (s : Shared) : Prop := ∃ H', Inv X pins σ H' s ∧ Sub H H'
theorem rc_own (T : Gs X.prog X.w X.K X.mg X.base k l) {n : Nat} {d e : D} {b : Bool} (h : GOf X.K k l n d e b) {A : Around} (D' : Dn X n A) (I : Inv X pins σ H s) (S : Sub P H) {x y : V} {u v : Value} (rx : RelV x u) (ry : RelV y v) (hx : Rp X.K P d x) (hy : Rp X.K P e y) :
    wpAny (model X.prog X.w) A (richCompare .Eq u v) (fun r s' => r = .bool b ∧ Lp X pins σ H s') X.xe s := by
  obtain ⟨hk, _, _, C, ct, ns, xs, hm, rfl, ot, hn, q⟩ := h
  have TE := T.eq C ct hm
  obtain ⟨f, fd, ps, te, F, bb⟩ := TE.ex
  obtain ⟨a, dx, vs, rfl, h1, h2, h3⟩ := id hx
  obtain rfl : u = Value.ref a := rx
  have ha := S _ _ h1
  obtain ⟨mA, J, _⟩ := ins_get I.hok ha
  obtain ⟨od, J, _⟩ := J.look
  obtain ⟨m, hF⟩ := I.fr
  obtain ⟨Pq, KX, hP, _⟩ := kit_of I ry (tyx_of (Rp.mono S e y hy) ot)
  have hu : A.units < cLine := by have := D'.room.units; omega
  have sp : spC X.K 2 ct [.ref a, y] H (fun z H' => z = .bl b ∧ Sub H H') (fun _ _ _ => False) := by
    refine ⟨P, fun _ => False, 0, [some (.ins C ns xs), some e], S, by decide, ⟨_, _, rfl, hx, _, _, rfl, hy, rfl⟩, rfl, trivial, fun a z => z.elim, ?_⟩
    exact TE.mono _ _ _ _ _ (fun z qz v H' P' po rv => by
      subst qz
      exact ⟨rv, fun a o e => po.keep a o e fun z => z⟩) (fun _ z => z.elim) q
  refine PySem.W.cmp_K (op := .Eq) hu hF I.ok.mod.kin J (KX.ty _ _ I.kIn hP) hn te.eq te.fn (thn (run_own D'.fr (D'.room.mono hk) D'.gd F bb I (.cons (show RelV (V.ref a) (Value.ref a) from rfl) (.cons ry .nil)) sp) fun r s' q => ?_)
  obtain ⟨w, H', I', rw', ew, q⟩ := q
  subst ew
  cases rw'
  exact ⟨rfl, H', I', q⟩
end
end Pd
end
section
set_option autoImplicit false
set_option Elab.async false
set_option linter.all false
set_option autoImplicit false
set_option maxRecDepth 100000
set_option maxHeartbeats 4000000
/-! Pd28: the loops of == over data. -/
namespace Pd
open PySem PySem.Spec PyProof.Rows L2
theorem nscL_get : ∀ {ds : List D} {i : Nat} {d : D}, D.nscL ds = true → ds[i]? = some d → d.nsc = true
  | [], _, _, _, e => by simp at e
  | d :: ds, 0, _, h, e => by
    simp at e h
    subst e
    exact h.1
  | d :: ds, i + 1, _, h, e => by
    simp at h
    exact nscL_get h.2 (by simpa using e)
/-- where a loop over two lists ends -/
theorem EqT.ends {G : Nat → D → D → Bool → Prop} {n : Nat} : ∀ {ds es : List D} {b : Bool}, EqT G n ds es b →
    ∃ m : Nat, m ≤ min ds.length es.length ∧ (∀ (i : Nat) (d e : D), i < m → ds[i]? = some d → es[i]? = some e → EqD G n d e true) ∧
      ((b = true ∧ m = ds.length ∧ ds.length = es.length) ∨ (b = false ∧ m = min ds.length es.length ∧ ds.length ≠ es.length) ∨ (b = false ∧ ∃ d e, ds[m]? = some d ∧ es[m]? = some e ∧ EqD G n d e false))
  | _, _, _, .nn => ⟨0, by simp, fun i d e h => by omega, .inl ⟨rfl, rfl, rfl⟩⟩
  | _, _, _, .nc => ⟨0, by simp, fun i d e h => by omega, .inr (.inl ⟨rfl, by simp, by simp⟩)⟩
  | _, _, _, .cn => ⟨0, by simp, fun i d e h => by omega, .inr (.inl ⟨rfl, by simp, by simp⟩)⟩
  | _, _, _, .ff h => ⟨0, by simp, fun i d e h => by omega, .inr (.inr ⟨rfl, _, _, rfl, rfl, h⟩)⟩
  | _, _, _, .tt (ds := ds) (es := es) h g => by
    obtain ⟨m, h1, h2, h3⟩ := EqT.ends g
    refine ⟨m + 1, by simp; omega, fun i d e hi e1 e2 => ?_, ?_⟩
    · cases i with
      | zero =>
        simp at e1 e2
        subst e1 e2
        exact h
      | succ i => exact h2 i d e (by omega) (by simpa using e1) (by simpa using e2)
    · rcases h3 with ⟨a, b, c⟩ | ⟨a, b, c⟩ | ⟨a, d, e, b, c, z⟩
      · exact .inl ⟨a, by simp [b], by simp [c]⟩
      · exact .inr (.inl ⟨a, by simp; omega, by simpa using c⟩)
      · exact .inr (.inr ⟨a, d, e, by simpa using b, by simpa using c, z⟩)
section
variable {X : Cx} {k : Nat} {l : List (Addr × Ct)} {pins : List (Addr × Obj)} {σ : L2.St}
/-- == in a builtin, of data, at the n-th level -/
def Bq (X : Cx) (G : Nat → D → D → Bool → Prop) (n : Nat) : Prop := ∀ (d e : D) (b : Bool), EqD G n d e b → ∀ (A : Around) (pins : List (Addr × Obj)) (σ : L2.St) (s : Shared) (H P : Hp) (x y : V) (u v : Value), Dn X n A → Inv X pins σ H s → Sub P H → RelV x u → RelV y v → Rp X.K P d x → Rp X.K P e y → d.nsc = true → e.nsc = true →
  wpAny (model X.prog X.w) A (eqBool u v) (fun r s' => r = b ∧ Lp X pins σ H s') X.xe s
def Rq (X : Cx) (G : Nat → D → D → Bool → Prop) (n : Nat) : Prop := ∀ (d e : D) (b : Bool), EqD G n d e b → ∀ (A : Around) (pins : List (Addr × Obj)) (σ : L2.St) (s : Shared) (H P : Hp) (x y : V) (u v : Value), Dn X n A → Inv X pins σ H s → Sub P H → RelV x u → RelV y v → Rp X.K P d x → Rp X.K P e y → d.nsc = true → e.nsc = true →
  wpAny (model X.prog X.w) A (richCompare .Eq u v) (fun r s' => r = .bool b ∧ Lp X pins σ H s') X.xe s
theorem turnD {G : Nat → D → D → Bool → Prop} {n : Nat} (B : Bq X G n) {A : Around} (dn : Dn X (n + 1) A) {H P : Hp} {ds es : List D} {xs ys : List V} {its its2 : List Value} {b : Bool} {m : Nat} (S : Sub P H) (h1 : RpL X.K P ds xs) (h2 : RpL X.K P es ys) (n1 : D.nscL ds = true) (n2 : D.nscL es = true)
    (r1 : Vals xs its) (r2 : Vals ys its2) (h3 : ∀ (i : Nat) (d e : D), i < m → ds[i]? = some d → es[i]? = some e → EqD G n d e true)
    (h4 : (b = true ∧ m = ds.length ∧ ds.length = es.length) ∨ (b = false ∧ m = min ds.length es.length ∧ ds.length ≠ es.length) ∨ (b = false ∧ ∃ d e, ds[m]? = some d ∧ es[m]? = some e ∧ EqD G n d e false))
    (i : Nat) (k1 : i < its.toArray.size) (k2 : i < its2.toArray.size) (s' : Shared) (q : i ≤ m ∧ Lp X pins σ H s') :
    wpAny (model X.prog X.w) A.in1 (eqBool its.toArray[i] its2.toArray[i]) (fun r s2 => (r = true ∧ (i + 1 ≤ m ∧ Lp X pins σ H s2)) ∨ (r = false ∧ (b = false ∧ Lp X pins σ H s2))) X.xe s' := by
  obtain ⟨hi, H1, I1, e1⟩ := q
  have g1 : its[i]? = some its.toArray[i] := by
    have h1' : i < its.length := by simpa using k1
    rw [List.getElem?_eq_getElem h1'] <;> simp
  have g2 : its2[i]? = some its2.toArray[i] := by
    have h2' : i < its2.length := by simpa using k2
    rw [List.getElem?_eq_getElem h2'] <;> simp
  have l1 := h1.length
  have l2 := h2.length
  have j1 : i < xs.length := by rw [r1.length]; simpa using k1
  have j2 : i < ys.length := by rw [r2.length]; simpa using k2
  obtain ⟨u, hu, ru⟩ := r1.get (List.getElem?_eq_getElem j1)
  obtain ⟨v, hv, rv⟩ := r2.get (List.getElem?_eq_getElem j2)
  obtain ⟨d, hd, rd⟩ := h1.get (List.getElem?_eq_getElem j1)
  obtain ⟨e, he, re⟩ := h2.get (List.getElem?_eq_getElem j2)
  rw [g1] at hu
  rw [g2] at hv
  rw [Option.some.inj hu, Option.some.inj hv]
  have c1 := nscL_get n1 hd
  have c2 := nscL_get n2 he
  by_cases z : i < m
  · refine wpAny_mono (B d e true (h3 i d e z hd he) A.in1 pins σ s' H1 P _ _ u v dn.in1 I1 (S.trans e1) ru rv rd re c1 c2) (fun r s2 q => ?_) fun _ _ x => x
    obtain ⟨hr, H2, I2, e2⟩ := q
    exact .inl ⟨hr, z, H2, I2, e1.trans e2⟩
  · have em : i = m := by omega
    subst em
    rcases h4 with ⟨_, c, _⟩ | ⟨_, c, _⟩ | ⟨hb, d', e', hd', he', hq⟩
    · omega
    · omega
    · rw [hd] at hd'
      rw [he] at he'
      cases hd'
      cases he'
      refine wpAny_mono (B d e false hq A.in1 pins σ s' H1 P _ _ u v dn.in1 I1 (S.trans e1) ru rv rd re c1 c2) (fun r s2 q => ?_) fun _ _ x => x
      obtain ⟨hr, H2, I2, e2⟩ := q
      exact .inr ⟨hr, hb, H2, I2, e1.trans e2⟩
theorem list_at {s : Shared} {H : Hp} {a : Addr} {xs : List V} (I : Inv X pins σ H s) (h : H a = some (.lst xs)) : ∃ (its : List Value) (n : Nat), Vals xs its ∧ s.heap.get? a = some { cls := .type "list", data := .seq its.toArray n } := by
  obtain ⟨z, its, n, r, e⟩ := I.hok a _ h
  exact ⟨its, n, r, e⟩
theorem rq_lst {G : Nat → D → D → Bool → Prop} {n : Nat} (B : Bq X G n) {A : Around} (dn : Dn X (n + 1) A) {s : Shared} {H P : Hp} {ds es : List D} {b : Bool} (hl : ds.length = es.length) (ht : EqT G n ds es b) (I : Inv X pins σ H s) (S : Sub P H) {x y : V} {u v : Value} (rx : RelV x u) (ry : RelV y v) (hx : Rp X.K P (.lst ds) x) (hy : Rp X.K P (.lst es) y) (n1 : D.nscL ds = true) (n2 : D.nscL es = true) :
    wpAny (model X.prog X.w) A (richCompare .Eq u v) (fun r s' => r = .bool b ∧ Lp X pins σ H s') X.xe s := by
  obtain ⟨a, xs, rfl, ha, h1⟩ := hx
  obtain ⟨c, ys, rfl, hc, h2⟩ := hy
  cases rx
  cases ry
  obtain ⟨m, hm, h3, h4⟩ := ht.ends
  have hu : A.units < cLine := by have := dn.room.units; omega
  have l1 := h1.length
  have l2 := h2.length
  refine PdB.rc_list2 (N := ds.length) hu (fun i s' => i ≤ m ∧ Lp X pins σ H s') (fun s' => b = false ∧ Lp X pins σ H s') (fun i s' q => ?_) (fun s' q => ?_) (fun s' q => ?_) (fun s' q => ?_) ⟨Nat.zero_le _, H, I, fun _ _ h => h⟩
  · obtain ⟨hi, H1, I1, e1⟩ := id q
    obtain ⟨its, k, r, e⟩ := list_at I1 (e1 _ _ (S _ _ ha))
    obtain ⟨its2, k2, r2, e2⟩ := list_at I1 (e1 _ _ (S _ _ hc))
    refine ⟨its.toArray, its2.toArray, k, k2, e, e2, by rw [List.size_toArray, ← r.length, l1], by rw [List.size_toArray, ← r2.length, l2, hl], fun k1 k2 => ?_⟩
    exact turnD B dn S h1 h2 n1 n2 r r2 h3 h4 i k1 k2 s' q
  · obtain ⟨hb, H1, I1, e1⟩ := q
    obtain ⟨its, k, r, e⟩ := list_at I1 (e1 _ _ (S _ _ ha))
    obtain ⟨its2, k2, r2, e2⟩ := list_at I1 (e1 _ _ (S _ _ hc))
    exact ⟨its.toArray, its2.toArray, k, k2, e, e2, by rw [List.size_toArray, ← r.length, l1], by rw [List.size_toArray, ← r2.length, l2, hl]⟩
  · rcases h4 with ⟨hb, _, _⟩ | ⟨_, _, c⟩ | ⟨_, d, e, c1, _, _⟩
    · exact ⟨by rw [hb], q.2⟩
    · exact absurd hl c
    · have := (List.getElem?_eq_some_iff.mp c1).1
      have := q.1
      omega
  · exact ⟨by rw [q.1], q.2⟩
theorem rq_tup {G : Nat → D → D → Bool → Prop} {n : Nat} (B : Bq X G n) {A : Around} (dn : Dn X (n + 1) A) {s : Shared} {H P : Hp} {ds es : List D} {b : Bool} (ht : EqT G n ds es b) (I : Inv X pins σ H s) (S : Sub P H) {x y : V} {u v : Value} (rx : RelV x u) (ry : RelV y v) (hx : Rp X.K P (.tup ds) x) (hy : Rp X.K P (.tup es) y) (n1 : D.nscL ds = true) (n2 : D.nscL es = true) :
    wpAny (model X.prog X.w) A (richCompare .Eq u v) (fun r s' => r = .bool b ∧ Lp X pins σ H s') X.xe s := by
  obtain ⟨a, xs, rfl, ha, h1⟩ := hx
  obtain ⟨c, ys, rfl, hc, h2⟩ := hy
  cases rx
  cases ry
  obtain ⟨m, hm, h3, h4⟩ := ht.ends
  have hu : A.units < cLine := by have := dn.room.units; omega
  have l1 := h1.length
  have l2 := h2.length
  obtain ⟨its, r, e, z⟩ := I.tuple (sqT_of (S _ _ ha))
  obtain ⟨its2, r2, e2, z2⟩ := I.tuple (sqT_of (S _ _ hc))
  have q1 : its.toArray.size = ds.length := by rw [List.size_toArray, ← r.length, l1]
  have q2 : its2.toArray.size = es.length := by rw [List.size_toArray, ← r2.length, l2]
  refine PdB.rc_tup2 hu (fun i s' => i ≤ m ∧ Lp X pins σ H s') (fun s' => b = false ∧ Lp X pins σ H s') e e2 (fun i k1 k2 s' q => turnD B dn S h1 h2 n1 n2 r r2 h3 h4 i k1 k2 s' q) (fun s' q => ?_) (fun s' q => ?_) ⟨Nat.zero_le _, H, I, fun _ _ h => h⟩
  · rw [q1, q2] at q ⊢
    rcases h4 with ⟨hb, _, c⟩ | ⟨hb, _, c⟩ | ⟨_, d, e, c1, c2, _⟩
    · exact ⟨by rw [hb, c]; simp, q.2⟩
    · exact ⟨by rw [hb]; simpa using c, q.2⟩
    · have := (List.getElem?_eq_some_iff.mp c1).1
      have := (List.getElem?_eq_some_iff.mp c2).1
      have := q.1
      omega
  · exact ⟨by rw [q.1], q.2⟩
theorem rq_len {A : Around} {n : Nat} (dn : Dn X n A) {s : Shared} {H P : Hp} {ds es : List D} (hl : ds.length ≠ es.length) (I : Inv X pins σ H s) (S : Sub P H) {x y : V} {u v : Value} (rx : RelV x u) (ry : RelV y v) (hx : Rp X.K P (.lst ds) x) (hy : Rp X.K P (.lst es) y) :
    wpAny (model X.prog X.w) A (richCompare .Eq u v) (fun r s' => r = .bool false ∧ Lp X pins σ H s') X.xe s := by
  obtain ⟨a, xs, rfl, ha, h1⟩ := hx
  obtain ⟨c, ys, rfl, hc, h2⟩ := hy
  cases rx
  cases ry
  have hu : A.units < cLine := by have := dn.room.units; omega
  have l1 := h1.length
  have l2 := h2.length
  obtain ⟨its, k, r, e⟩ := list_at I (S _ _ ha)
  obtain ⟨its2, k2, r2, e2⟩ := list_at I (S _ _ hc)
  have q1 : its.toArray.size = ds.length := by rw [List.size_toArray, ← r.length, l1]
  have q2 : its2.toArray.size = es.length := by rw [List.size_toArray, ← r2.length, l2]
  exact PdB.rc_list0 hu e e2 (by rw [q1, q2]; exact hl) ⟨rfl, H, I, fun _ _ h => h⟩
theorem rq_of (T : Gs X.prog X.w X.K X.mg X.base k l) {n : Nat} (B : ∀ m, m < n → Bq X (GOf X.K k l) m) : Rq X (GOf X.K k l) n := by
  intro d e b h A pins σ s H P x y u v dn I S rx ry hx hy n1 n2
  cases h with
  | plain h1 h2 h3 =>
    rename_i p q
    obtain ⟨as, r1⟩ := Dp.reads I p x u (Rp.dp d p x h1 (Rp.mono S d x hx)) rx
    obtain ⟨bs, r2⟩ := Dp.reads I q y v (Rp.dp e q y h2 (Rp.mono S e y hy)) ry
    have hu := dn.room.units
    exact PySem.SeqAt.eq_plain r1 r2 (D.py_plain _ _ h1) (D.py_plain _ _ h2) (by omega) ⟨rfl, H, I, fun _ _ h => h⟩
  | own h => exact rc_own T h dn I S rx ry hx hy
  | lst hl h => exact rq_lst (B _ (Nat.lt_succ_self _)) dn hl h I S rx ry hx hy (by simpa using n1) (by simpa using n2)
  | len hl => exact rq_len dn hl I S rx ry hx hy
  | tup h => exact rq_tup (B _ (Nat.lt_succ_self _)) dn h I S rx ry hx hy (by simpa using n1) (by simpa using n2)
theorem bq_of (T : Gs X.prog X.w X.K X.mg X.base k l) {n : Nat} (R : Rq X (GOf X.K k l) n) : Bq X (GOf X.K k l) n := by
  intro d e b h A pins σ s H P x y u v dn I S rx ry hx hy n1 n2
  have main : (∃ a, u = .ref a) → wpAny (model X.prog X.w) A (eqBool u v) (fun r s' => r = b ∧ Lp X pins σ H s') X.xe s := fun ⟨a, ea⟩ => by
    subst ea
    refine eqBool_of (b := b) (fun ev => ⟨?_, H, I, fun _ _ h => h⟩) (wpAny_mono (R d e b h A pins σ s H P x y _ v dn I S rx ry hx hy n1 n2) (fun r s' q => ⟨q.1, rfl, q.2⟩) fun _ _ z => z)
    have exy : x = y := rx.inj (by rw [ev]; exact ry)
    subst exy
    exact (h.refl (GOf.refl T) (Rp.inj I S d e x n1 n2 hx hy)).symm
  cases h with
  | plain h1 h2 h3 =>
    rename_i p q
    obtain ⟨as, r1⟩ := Dp.reads I p x u (Rp.dp d p x h1 (Rp.mono S d x hx)) rx
    obtain ⟨bs, r2⟩ := Dp.reads I q y v (Rp.dp e q y h2 (Rp.mono S e y hy)) ry
    have hu := dn.room.units
    exact PySem.SeqAt.eqAt_plain p q A s u v as bs r1 r2 (D.py_plain _ _ h1) (D.py_plain _ _ h2) (by omega) X.prog X.w X.xe _ ⟨rfl, H, I, fun _ _ h => h⟩
  | own h =>
    obtain ⟨_, _, _, C, ct, ns, xs, _, rfl, _⟩ := h
    obtain ⟨a, dx, vs, rfl, _⟩ := hx
    exact main ⟨a, rx⟩
  | lst hl h =>
    obtain ⟨a, xs, rfl, _⟩ := hx
    exact main ⟨a, rx⟩
  | len hl =>
    obtain ⟨a, xs, rfl, _⟩ := hx
    exact main ⟨a, rx⟩
  | tup h =>
    obtain ⟨a, xs, rfl, _⟩ := hx
    exact main ⟨a, rx⟩
theorem bq_all (T : Gs X.prog X.w X.K X.mg X.base k l) : ∀ n, ∀ m, m < n → Bq X (GOf X.K k l) m
  | 0, m, h => absurd h (Nat.not_lt_zero _)
  | n + 1, m, h => bq_of T (rq_of T fun j hj => bq_all T n j (by omega))
theorem rq_all (T : Gs X.prog X.w X.K X.mg X.base k l) (n : Nat) : Rq X (GOf X.K k l) n := rq_of T (bq_all T n)
end
end Pd
end
section
set_option autoImplicit false
set_option Elab.async false
set_option linter.all false
set_option autoImplicit false
set_option maxRecDepth 100000
set_option maxHeartbeats 4000000
/-! Pd29: the same of !=. -/
namespace PdN
open PySem PySem.SeqAt
open AutoSeq1 (wpAny_loadPart')
open MeetsSeq MeetsSeq2 MeetsSeq3 SeqRoads2
section
variable {prog : Program} {w : World} {A : Around} {R : Result → Shared → Prop}
theorem loop2 (l b : Addr) (N : Nat) (I : Nat → Shared → Prop) (S : Shared → Prop) (hl : PdB.TwoL prog w A (fun e s' => R (.error e) s') l b N I S)
    (hS : ∀ s, S s → ∃ (items items2 : Array Value) (n n2 : Nat), s.heap.get? l = some { cls := .type "list", data := .seq items n } ∧ s.heap.get? b = some { cls := .type "list", data := .seq items2 n2 } ∧ items.size = N ∧ items2.size = N)
    (fin : ∀ s, I N s → R (.ok (.ret (.bool false))) s) (ff : ∀ s, S s → R (.ok (.ret (.bool true))) s) (k : Nat) :
    ∀ i : Nat, N - i = k → i ≤ N → ∀ s, I i s →
      wpAny (model prog w) A.in1 (Builtin.«list.__eq__.loop» ⟨[.ref l, .ref b, rawInt i, rawInt 3], []⟩) (GQ.FinOf prog w A R) (fun e s' => R (.error e) s') s := by
  induction k with
  | zero =>
    intro i hk hi s h
    obtain ⟨items, items2, n, n2, hl1, hb1, hs1, hs2, _⟩ := hl _ _ h
    have hi' : i = N := by omega
    have hR : R (.ok (.ret (.bool false))) s := fin s (hi' ▸ h)
    obtain ⟨hp, g, d, tk, os⟩ := s
    wp_walk using wpAny_loadPart' hl1, wpAny_loadPart' hb1
    have hi1 : items[((i : Nat) : Int).toNat]? = none := by simp; omega
    have hi2 : items2[((i : Nat) : Int).toNat]? = none := by simp; omega
    rw [hi1, hi2]
    wp_walk using wpAny_loadPart' hl1, wpAny_loadPart' hb1
    show R (.ok (.ret (.bool (items.size != items2.size)))) _
    rw [hs1, hs2]
    simpa using hR
  | succ k ih =>
    intro i hk hi s h
    obtain ⟨items, items2, n, n2, hl1, hb1, hs1, hs2, turn⟩ := hl _ _ h
    have hlt : i < items.size := by omega
    have hlt2 : i < items2.size := by omega
    have ht := turn hlt hlt2
    obtain ⟨hp, g, d, tk, os⟩ := s
    wp_walk using wpAny_loadPart' hl1, wpAny_loadPart' hb1
    have hi1 : items[((i : Nat) : Int).toNat]? = some items[i] := by simp [hlt]
    have hi2 : items2[((i : Nat) : Int).toNat]? = some items2[i] := by simp [hlt2]
    have hc : ((i : Int) + 1) = ((i + 1 : Nat) : Int) := by omega
    rw [hi1, hi2]
    refine wpAny_bind (wpAny_mono ht (fun r s2 h2 => ?_) fun _ _ x => x)
    rcases h2 with ⟨hr, h2⟩ | ⟨hr, h2⟩
    · subst hr
      have hrec := ih (i + 1) (by omega) (by omega) s2 h2
      obtain ⟨hp2, g2, d2, tk2, os2⟩ := s2
      wp_walk
      rw [hc]
      exact ⟨plainId_quiet plain_eq_loop _, codeAny_builtin entry_eq_loop (by
        rw [Around.under_plainId plain_eq_loop _]
        exact hrec)⟩
    · subst hr
      have hR := ff s2 h2
      obtain ⟨items3, items4, n3, n4, hl3, hb3, hs3, hs4⟩ := hS _ h2
      obtain ⟨hp2, g2, d2, tk2, os2⟩ := s2
      wp_walk using wpAny_loadPart' hl3, wpAny_loadPart' hb3
      have hi1 : items3[((i : Nat) : Int).toNat]? = some (items3[i]'(by omega)) := by simp
      have hi2 : items4[((i : Nat) : Int).toNat]? = some (items4[i]'(by omega)) := by simp
      rw [hi1, hi2]
      wp_walk
      exact hR
theorem list2 (l b : Addr) (N : Nat) (I : Nat → Shared → Prop) (S : Shared → Prop) (hl : PdB.TwoL prog w A (fun e s' => R (.error e) s') l b N I S)
    (hS : ∀ s, S s → ∃ (items items2 : Array Value) (n n2 : Nat), s.heap.get? l = some { cls := .type "list", data := .seq items n } ∧ s.heap.get? b = some { cls := .type "list", data := .seq items2 n2 } ∧ items.size = N ∧ items2.size = N)
    (fin : ∀ s, I N s → R (.ok (.ret (.bool false))) s) (ff : ∀ s, S s → R (.ok (.ret (.bool true))) s) {s : Shared} (h : I 0 s) :
    wpAny (model prog w) A.in1 (Builtin.«list.__ne__» ⟨[.ref l, .ref b], []⟩) (GQ.FinOf prog w A R) (fun e s' => R (.error e) s') s := by
  obtain ⟨items, items2, n, n2, hl1, hb1, hs1, hs2, _⟩ := hl _ _ h
  have hrec := loop2 (A := A) (R := R) l b N I S hl hS fin ff _ 0 rfl (Nat.zero_le _) s h
  obtain ⟨hp, g, d, tk, os⟩ := s
  have f3 := AutoSeq1.sub_list_list
  have hne : ¬ (items.size != items2.size) = true := by simp [hs1, hs2]
  wp_walk using wpAny_loadPart' hl1, wpAny_loadPart' hb1
  exact ⟨plainId_quiet plain_eq_loop _, codeAny_builtin entry_eq_loop (by
    rw [Around.under_plainId plain_eq_loop _]
    exact hrec)⟩
theorem list0 (l b : Addr) (items items2 : Array Value) (n n2 : Nat) (hsz : items.size ≠ items2.size) {s : Shared} (hl1 : s.heap.get? l = some { cls := .type "list", data := .seq items n }) (hb1 : s.heap.get? b = some { cls := .type "list", data := .seq items2 n2 })
    (ff : R (.ok (.ret (.bool true))) s) :
    wpAny (model prog w) A.in1 (Builtin.«list.__ne__» ⟨[.ref l, .ref b], []⟩) (GQ.FinOf prog w A R) (fun e s' => R (.error e) s') s := by
  obtain ⟨hp, g, d, tk, os⟩ := s
  have f3 := AutoSeq1.sub_list_list
  have hne : (items.size != items2.size) = true := by simpa using hsz
  wp_walk using wpAny_loadPart' hl1, wpAny_loadPart' hb1
  exact ff
theorem tup2 (l b : Addr) (items items2 : Array Value) (n n2 : Nat) (dd dd2 : Option Addr) (sl sl2 : Array (Option Value)) (I : Nat → Shared → Prop) (S : Shared → Prop)
    (turn : ∀ i (h1 : i < items.size) (h2 : i < items2.size) s, I i s → wpAny (model prog w) A.in1 (eqBool items[i] items2[i]) (fun r s' => (r = true ∧ I (i + 1) s') ∨ (r = false ∧ S s')) (fun e s' => R (.error e) s') s)
    (fin : ∀ s, I (min items.size items2.size) s → R (.ok (.ret (.bool (items.size != items2.size)))) s) (ff : ∀ s, S s → R (.ok (.ret (.bool true))) s) {s : Shared} (hl1 : s.heap.get? l = some { cls := .type "tuple", dict := dd, data := .seq items n, slots := sl }) (hb1 : s.heap.get? b = some { cls := .type "tuple", dict := dd2, data := .seq items2 n2, slots := sl2 }) (h : I 0 s) :
    wpAny (model prog w) A.in1 (Builtin.«tuple.__ne__» ⟨[.ref l, .ref b], []⟩) (GQ.FinOf prog w A R) (fun e s' => R (.error e) s') s := by
  have f2 := AutoSeq1.sub_tuple_tuple
  have hZ : (items.toList.zip items2.toList).length = min items.size items2.size := by simp
  have h0 := h
  obtain ⟨hp, g, d, tk, os⟩ := s
  wp_walk using wpAny_loadPart' hl1, wpAny_loadPart' hb1, wpAny_forIn_list _ (fun rest b s' => b.1 = none ∧ ∃ i, rest = (items.toList.zip items2.toList).drop i ∧ i ≤ min items.size items2.size ∧ I i s') _
  case turn =>
    rintro ⟨y, x⟩ rest b s' ⟨hb', i, hz, hi, hI⟩
    have hlt : i < (items.toList.zip items2.toList).length := by
      rcases Nat.lt_or_ge i (items.toList.zip items2.toList).length with h' | h'
      · exact h'
      · rw [List.drop_of_length_le h'] at hz; cases hz
    have h1 : i < items.size := by omega
    have h2 : i < items2.size := by omega
    rw [List.drop_eq_getElem_cons hlt] at hz
    injection hz with hyx hrest
    have hy : y = items[i] := by have := congrArg Prod.fst hyx; simpa using this
    have hx : x = items2[i] := by have := congrArg Prod.snd hyx; simpa using this
    subst hy hx
    refine wpAny_bind (wpAny_mono (turn i h1 h2 s' hI) (fun r s2 q2 => ?_) fun _ _ x => x)
    rcases q2 with ⟨hr, q2⟩ | ⟨hr, q2⟩
    · subst hr
      wp_walk
      exact ⟨rfl, i + 1, hrest, by omega, q2⟩
    · subst hr
      have hR := ff s2 q2
      wp_walk
      exact hR
  case fin =>
    rintro ⟨b1, b2⟩ s' ⟨hb', i, hz, hi, hI⟩
    simp only at hb'
    subst hb'
    have hge : min items.size items2.size ≤ i := by
      rcases Nat.lt_or_ge i (items.toList.zip items2.toList).length with h' | h'
      · rw [List.drop_eq_getElem_cons h'] at hz; cases hz
      · omega
    have hi' : i = min items.size items2.size := by omega
    have hR := fin s' (hi' ▸ hI)
    wp_walk
    exact hR
  case h => exact ⟨rfl, 0, rfl, Nat.zero_le _, h0⟩
end
section
variable {prog : Program} {w : World} {A : Around} {E : Value → Shared → Prop} {s : Shared}
theorem rc_list2 {l b : Addr} {N : Nat} {Q : Value → Shared → Prop} (hu : A.units < cLine) (I : Nat → Shared → Prop) (S : Shared → Prop) (hl : PdB.TwoL prog w A E l b N I S)
    (hS : ∀ s, S s → ∃ (items items2 : Array Value) (n n2 : Nat), s.heap.get? l = some { cls := .type "list", data := .seq items n } ∧ s.heap.get? b = some { cls := .type "list", data := .seq items2 n2 } ∧ items.size = N ∧ items2.size = N)
    (fin : ∀ s, I N s → Q (.bool false) s) (ff : ∀ s, S s → Q (.bool true) s) (h : I 0 s) : wpAny (model prog w) A (richCompare .NotEq (.ref l) (.ref b)) Q E s := by
  obtain ⟨items, items2, n, n2, hl1, hb1, _, _, _⟩ := hl _ _ h
  refine wpAny_richCompare_same_room (op := .NotEq) ⟨_, hl1, rfl⟩ ⟨_, hb1, rfl⟩ F.slot_list_ne (GQ.call_here F.slot_list_ne ⟨_, hl1, rfl⟩ F.entry_list_ne (F.args_list_ne_2 _ _) ?_) hu
  exact list2 (R := wants (fun v s' => v ≠ .notImplemented ∧ Q v s') E) l b N I S hl hS (fun s' q => ⟨(fun x => nomatch x), fin s' q⟩) (fun s' q => ⟨(fun x => nomatch x), ff s' q⟩) h
theorem rc_list0 {l b : Addr} {items items2 : Array Value} {n n2 : Nat} {Q : Value → Shared → Prop} (hu : A.units < cLine) (hl1 : s.heap.get? l = some { cls := .type "list", data := .seq items n }) (hb1 : s.heap.get? b = some { cls := .type "list", data := .seq items2 n2 }) (hsz : items.size ≠ items2.size)
    (h : Q (.bool true) s) : wpAny (model prog w) A (richCompare .NotEq (.ref l) (.ref b)) Q E s := by
  refine wpAny_richCompare_same_room (op := .NotEq) ⟨_, hl1, rfl⟩ ⟨_, hb1, rfl⟩ F.slot_list_ne (GQ.call_here F.slot_list_ne ⟨_, hl1, rfl⟩ F.entry_list_ne (F.args_list_ne_2 _ _) ?_) hu
  exact list0 (R := wants (fun v s' => v ≠ .notImplemented ∧ Q v s') E) l b items items2 n n2 hsz hl1 hb1 ⟨(fun x => nomatch x), h⟩
theorem rc_tup2 {l b : Addr} {items items2 : Array Value} {Q : Value → Shared → Prop} (hu : A.units < cLine) (I : Nat → Shared → Prop) (S : Shared → Prop)
    (hl : s.heap.IsTuple l items) (hb : s.heap.IsTuple b items2)
    (turn : ∀ i (h1 : i < items.size) (h2 : i < items2.size) s, I i s → wpAny (model prog w) A.in1 (eqBool items[i] items2[i]) (fun r s' => (r = true ∧ I (i + 1) s') ∨ (r = false ∧ S s')) E s)
    (fin : ∀ s, I (min items.size items2.size) s → Q (.bool (items.size != items2.size)) s) (ff : ∀ s, S s → Q (.bool true) s) (h : I 0 s) : wpAny (model prog w) A (richCompare .NotEq (.ref l) (.ref b)) Q E s := by
  obtain ⟨⟨cls, dd, data, sl⟩, ho, hc, n, hd⟩ := id hl
  obtain ⟨⟨cls2, dd2, data2, sl2⟩, ho2, hc2, n2, hd2⟩ := id hb
  simp only at hc hd hc2 hd2
  subst hc hd hc2 hd2
  refine wpAny_richCompare_same_room (op := .NotEq) ⟨_, ho, rfl⟩ ⟨_, ho2, rfl⟩ F.slot_tuple_ne (GQ.call_here F.slot_tuple_ne ⟨_, ho, rfl⟩ F.entry_tuple_ne (F.args_tuple_ne_2 _ _) ?_) hu
  exact tup2 (R := wants (fun v s' => v ≠ .notImplemented ∧ Q v s') E) l b items items2 n n2 dd dd2 sl sl2 I S turn (fun s' q => ⟨(fun x => nomatch x), fin s' q⟩) (fun s' q => ⟨(fun x => nomatch x), ff s' q⟩) ho ho2 h
end
end PdN
end
section
set_option autoImplicit false
set_option Elab.async false
set_option linter.all false
set_option autoImplicit false
set_option maxRecDepth 100000
set_option maxHeartbeats 4000000
/-! Pd30: the words: a == b, a != b of any data with instances inside. -/
namespace Pd
open PySem PySem.Spec PyProof.Rows L2
section
variable {X : Cx} {k : Nat} {l : List (Addr × Ct)} {pins : List (Addr × Obj)} {σ : L2.St}
theorem rn_lst {G : Nat → D → D → Bool → Prop} {n : Nat} (B : Bq X G n) {A : Around} (dn : Dn X (n + 1) A) {s : Shared} {H P : Hp} {ds es : List D} {b : Bool} (hl : ds.length = es.length) (ht : EqT G n ds es b) (I : Inv X pins σ H s) (S : Sub P H) {x y : V} {u v : Value} (rx : RelV x u) (ry : RelV y v) (hx : Rp X.K P (.lst ds) x) (hy : Rp X.K P (.lst es) y) (n1 : D.nscL ds = true) (n2 : D.nscL es = true) :
    wpAny (model X.prog X.w) A (richCompare .NotEq u v) (fun r s' => r = .bool (!b) ∧ Lp X pins σ H s') X.xe s := by
  obtain ⟨a, xs, rfl, ha, h1⟩ := hx
  obtain ⟨c, ys, rfl, hc, h2⟩ := hy
  cases rx
  cases ry
  obtain ⟨m, hm, h3, h4⟩ := ht.ends
  have hu : A.units < cLine := by have := dn.room.units; omega
  have l1 := h1.length
  have l2 := h2.length
  refine PdN.rc_list2 (N := ds.length) hu (fun i s' => i ≤ m ∧ Lp X pins σ H s') (fun s' => b = false ∧ Lp X pins σ H s') (fun i s' q => ?_) (fun s' q => ?_) (fun s' q => ?_) (fun s' q => ?_) ⟨Nat.zero_le _, H, I, fun _ _ h => h⟩
  · obtain ⟨hi, H1, I1, e1⟩ := id q
    obtain ⟨its, k, r, e⟩ := list_at I1 (e1 _ _ (S _ _ ha))
    obtain ⟨its2, k2, r2, e2⟩ := list_at I1 (e1 _ _ (S _ _ hc))
    refine ⟨its.toArray, its2.toArray, k, k2, e, e2, by rw [List.size_toArray, ← r.length, l1], by rw [List.size_toArray, ← r2.length, l2, hl], fun k1 k2 => ?_⟩
    exact turnD B dn S h1 h2 n1 n2 r r2 h3 h4 i k1 k2 s' q
  · obtain ⟨hb, H1, I1, e1⟩ := q
    obtain ⟨its, k, r, e⟩ := list_at I1 (e1 _ _ (S _ _ ha))
    obtain ⟨its2, k2, r2, e2⟩ := list_at I1 (e1 _ _ (S _ _ hc))
    exact ⟨its.toArray, its2.toArray, k, k2, e, e2, by rw [List.size_toArray, ← r.length, l1], by rw [List.size_toArray, ← r2.length, l2, hl]⟩
  · rcases h4 with ⟨hb, _, _⟩ | ⟨_, _, c⟩ | ⟨_, d, e, c1, _, _⟩
    · exact ⟨by rw [hb]; rfl, q.2⟩
    · exact absurd hl c
    · have := (List.getElem?_eq_some_iff.mp c1).1
      have := q.1
      omega
  · exact ⟨by rw [q.1]; rfl, q.2⟩
theorem rn_tup {G : Nat → D → D → Bool → Prop} {n : Nat} (B : Bq X G n) {A : Around} (dn : Dn X (n + 1) A) {s : Shared} {H P : Hp} {ds es : List D} {b : Bool} (ht : EqT G n ds es b) (I : Inv X pins σ H s) (S : Sub P H) {x y : V} {u v : Value} (rx : RelV x u) (ry : RelV y v) (hx : Rp X.K P (.tup ds) x) (hy : Rp X.K P (.tup es) y) (n1 : D.nscL ds = true) (n2 : D.nscL es = true) :
    wpAny (model X.prog X.w) A (richCompare .NotEq u v) (fun r s' => r = .bool (!b) ∧ Lp X pins σ H s') X.xe s := by
  obtain ⟨a, xs, rfl, ha, h1⟩ := hx
  obtain ⟨c, ys, rfl, hc, h2⟩ := hy
  cases rx
  cases ry
  obtain ⟨m, hm, h3, h4⟩ := ht.ends
  have hu : A.units < cLine := by have := dn.room.units; omega
  have l1 := h1.length
  have l2 := h2.length
  obtain ⟨its, r, e, z⟩ := I.tuple (sqT_of (S _ _ ha))
  obtain ⟨its2, r2, e2, z2⟩ := I.tuple (sqT_of (S _ _ hc))
  have q1 : its.toArray.size = ds.length := by rw [List.size_toArray, ← r.length, l1]
  have q2 : its2.toArray.size = es.length := by rw [List.size_toArray, ← r2.length, l2]
  refine PdN.rc_tup2 hu (fun i s' => i ≤ m ∧ Lp X pins σ H s') (fun s' => b = false ∧ Lp X pins σ H s') e e2 (fun i k1 k2 s' q => turnD B dn S h1 h2 n1 n2 r r2 h3 h4 i k1 k2 s' q) (fun s' q => ?_) (fun s' q => ?_) ⟨Nat.zero_le _, H, I, fun _ _ h => h⟩
  · rw [q1, q2] at q ⊢
    rcases h4 with ⟨hb, _, c⟩ | ⟨hb, _, c⟩ | ⟨_, d, e, c1, c2, _⟩
    · exact ⟨by rw [hb, c]; simp, q.2⟩
    · exact ⟨by rw [hb]; simpa using c, q.2⟩
    · have := (List.getElem?_eq_some_iff.mp c1).1
      have := (List.getElem?_eq_some_iff.mp c2).1
      have := q.1
      omega
  · exact ⟨by rw [q.1]; rfl, q.2⟩
theorem rn_len {A : Around} {n : Nat} (dn : Dn X n A) {s : Shared} {H P : Hp} {ds es : List D} (hl : ds.length ≠ es.length) (I : Inv X pins σ H s) (S : Sub P H) {x y : V} {u v : Value} (rx : RelV x u) (ry : RelV y v) (hx : Rp X.K P (.lst ds) x) (hy : Rp X.K P (.lst es) y) :
    wpAny (model X.prog X.w) A (richCompare .NotEq u v) (fun r s' => r = .bool true ∧ Lp X pins σ H s') X.xe s := by
  obtain ⟨a, xs, rfl, ha, h1⟩ := hx
  obtain ⟨c, ys, rfl, hc, h2⟩ := hy
  cases rx
  cases ry
  have hu : A.units < cLine := by have := dn.room.units; omega
  have l1 := h1.length
  have l2 := h2.length
  obtain ⟨its, k, r, e⟩ := list_at I (S _ _ ha)
  obtain ⟨its2, k2, r2, e2⟩ := list_at I (S _ _ hc)
  have q1 : its.toArray.size = ds.length := by rw [List.size_toArray, ← r.length, l1]
  have q2 : its2.toArray.size = es.length := by rw [List.size_toArray, ← r2.length, l2]
  exact PdN.rc_list0 hu e e2 (by rw [q1, q2]; exact hl) ⟨rfl, H, I, fun _ _ h => h⟩
theorem rn_own (T : Gs X.prog X.w X.K X.mg X.base k l) {n : Nat} {d e : D} {b : Bool} (h : GOf X.K k l n d e b) {A : Around} {s : Shared} {H P : Hp} (D' : Dn X (n + 1) A) (I : Inv X pins σ H s) (S : Sub P H) {x y : V} {u v : Value} (rx : RelV x u) (ry : RelV y v) (hx : Rp X.K P d x) (hy : Rp X.K P e y) :
    wpAny (model X.prog X.w) A (richCompare .NotEq u v) (fun r s' => r = .bool (!b) ∧ Lp X pins σ H s') X.xe s := by
  obtain ⟨hk, _, _, C, ct, ns, xs, hm, rfl, ot, hn, q⟩ := h
  have TE := T.eq C ct hm
  obtain ⟨f, fd, ps, te, F, bb⟩ := TE.ex
  obtain ⟨a, dx, vs, rfl, h1, h2, h3⟩ := id hx
  obtain rfl : u = Value.ref a := rx
  have ha := S _ _ h1
  obtain ⟨mA, J, _⟩ := ins_get I.hok ha
  obtain ⟨od, J, _⟩ := J.look
  obtain ⟨Pq, KX, hP, _⟩ := kit_of I ry (tyx_of (Rp.mono S e y hy) ot)
  have hu : A.units + 1 < cLine := by have := D'.room.units; omega
  have sp : spC X.K 2 ct [.ref a, y] H (fun z H' => z = .bl b ∧ Sub H H') (fun _ _ _ => False) := by
    refine ⟨P, fun _ => False, 0, [some (.ins C ns xs), some e], S, by decide, ⟨_, _, rfl, hx, _, _, rfl, hy, rfl⟩, rfl, trivial, fun a z => z.elim, ?_⟩
    exact TE.mono _ _ _ _ _ (fun z qz v H' P' po rv => by
      subst qz
      exact ⟨rv, fun a o e => po.keep a o e fun z => z⟩) (fun _ z => z.elim) q
  refine rc_ne_own hu I.kIn J te (KX.ty _ _ I.kIn hP) hn (thn (run_own D'.in1.fr (D'.in1.room.mono hk) D'.in1.gd F bb I (.cons (show RelV (V.ref a) (Value.ref a) from rfl) (.cons ry .nil)) sp) fun r s' q => ?_)
  obtain ⟨w, H', I', rw', ew, q⟩ := q
  subst ew
  cases rw'
  exact ⟨b, rfl, rfl, H', I', q⟩
theorem rn_of (T : Gs X.prog X.w X.K X.mg X.base k l) {n : Nat} {d e : D} {b : Bool} (h : EqD (GOf X.K k l) n d e b) {A : Around} {s : Shared} {H P : Hp} {x y : V} {u v : Value} (dn : Dn X (n + 1) A) (I : Inv X pins σ H s) (S : Sub P H) (rx : RelV x u) (ry : RelV y v) (hx : Rp X.K P d x) (hy : Rp X.K P e y) (n1 : d.nsc = true) (n2 : e.nsc = true) :
    wpAny (model X.prog X.w) A (richCompare .NotEq u v) (fun r s' => r = .bool (!b) ∧ Lp X pins σ H s') X.xe s := by
  have dn' : Dn X n A := ⟨dn.room.mono (Nat.le_succ n), dn.fr, dn.gd⟩
  cases h with
  | plain h1 h2 h3 =>
    rename_i p q
    obtain ⟨as, r1⟩ := Dp.reads I p x u (Rp.dp d p x h1 (Rp.mono S d x hx)) rx
    obtain ⟨bs, r2⟩ := Dp.reads I q y v (Rp.dp e q y h2 (Rp.mono S e y hy)) ry
    have hu := dn.room.units
    exact PySem.SeqAt.ne_plain r1 r2 (D.py_plain _ _ h1) (D.py_plain _ _ h2) (by omega) ⟨rfl, H, I, fun _ _ h => h⟩
  | own h => exact rn_own T h dn I S rx ry hx hy
  | lst hl h => exact rn_lst (bq_all T _ _ (Nat.lt_succ_self _)) dn' hl h I S rx ry hx hy (by simpa using n1) (by simpa using n2)
  | len hl => exact rn_len dn' hl I S rx ry hx hy
  | tup h => exact rn_tup (bq_all T _ _ (Nat.lt_succ_self _)) dn' h I S rx ry hx hy (by simpa using n1) (by simpa using n2)
/-! ### words -/
/-- x == y by what they stand for -/
def rDeep (K : PySem.W.Frag) (k : Nat) (l : List (Addr × Ct)) (n : Nat) (g : Bool → Bool) : R2 := fun x y H Q => ∃ P d e b, Sub P H ∧ Rp K P d x ∧ Rp K P e y ∧ d.nsc = true ∧ e.nsc = true ∧ EqD (GOf K k l) n d e b ∧ ∀ H', Sub H H' → Q (.bl (g b)) H'
def gDeep (K : PySem.W.Frag) (k : Nat) (l : List (Addr × Ct)) (n : Nat) (g : Bool → Bool) : G2 := fun d e Q => d.nsc = true ∧ e.nsc = true ∧ ∃ b, EqD (GOf K k l) n d e b ∧ Q (.bl (g b))
theorem op_eqDeep (T : Gs X.prog X.w X.K X.mg X.base k l) {n : Nat} (hr : Room n X.A) (hG : X.A.guards = some []) : OpR X (compareOp .Eq) (rDeep X.K k l n id) := by
  intro pins s σ H x y v u Q I rx ry h
  obtain ⟨P, d, e, b, S, hx, hy, n1, n2, q, z⟩ := h
  show wpAny (model X.prog X.w) X.A (richCompare .Eq v u) (EP X pins σ Q) X.xe s
  refine wpAny_mono (rq_all T n d e b q X.A pins σ s H P x y v u ⟨hr, rfl, hG⟩ I S rx ry hx hy n1 n2) (fun r s' q => ?_) fun _ _ x => x
  obtain ⟨rfl, H', I', e'⟩ := q
  exact ⟨.bl b, H', I', rfl, z H' e'⟩
theorem op_neDeep (T : Gs X.prog X.w X.K X.mg X.base k l) {n : Nat} (hr : Room (n + 1) X.A) (hG : X.A.guards = some []) : OpR X (compareOp .NotEq) (rDeep X.K k l n not) := by
  intro pins s σ H x y v u Q I rx ry h
  obtain ⟨P, d, e, b, S, hx, hy, n1, n2, q, z⟩ := h
  show wpAny (model X.prog X.w) X.A (richCompare .NotEq v u) (EP X pins σ Q) X.xe s
  refine wpAny_mono (rn_of T q ⟨hr, rfl, hG⟩ I S rx ry hx hy n1 n2) (fun r s' q => ?_) fun _ _ x => x
  obtain ⟨rfl, H', I', e'⟩ := q
  exact ⟨.bl (!b), H', I', rfl, z H' e'⟩
theorem snd_deep {K : PySem.W.Frag} {n : Nat} {g : Bool → Bool} : SndR K (rDeep K k l n g) (gDeep K k l n g) := fun F P H σ sv x y d e Q R re rx ry kk q => by
  obtain ⟨n1, n2, b, h, q⟩ := q
  exact ⟨P, d, e, b, re.sub, rx, ry, n1, n2, h, fun H' S => kk (.bl (g b)) H' P (.bl (g b)) (re.grow (Sub.refl P) (fun _ _ e => .inl e) S (re.sub.trans S)) (Sub.refl P) rfl q⟩
variable {W : Wz} {pos : Pos}
theorem deqD {P : Program} {w : World} {K : PySem.W.Frag} {mg : Str → Option Value} {base : Heap} {k' : Nat} {a b : Expr} {f1 f2 : De} (n : Nat) (T : Gs P w K mg base k l) (hr : Room k' X.A) (hk : n + 1 ≤ k') (hG : X.A.guards = some []) (ha : PD X W a f1) (hb : PD X W b f2)
    (h1 : X.prog = P := by rfl) (h2 : X.w = w := by rfl) (h3 : X.K = K := by rfl) (h4 : X.mg = mg := by rfl) (h5 : X.base = base := by rfl) (hm : behindInMarks .Eq b = false := by rfl) : PD X W (.Compare a [.Eq] [b] pos) (dOp (gDeep K k l n id) f1 f2) := by
  subst h1 h2 h3 h4 h5
  exact pd_cmp (op_eqDeep T (hr.mono (Nat.le_of_succ_le hk)) hG) snd_deep ha hb hm
theorem dneD {P : Program} {w : World} {K : PySem.W.Frag} {mg : Str → Option Value} {base : Heap} {k' : Nat} {a b : Expr} {f1 f2 : De} (n : Nat) (T : Gs P w K mg base k l) (hr : Room k' X.A) (hk : n + 1 ≤ k') (hG : X.A.guards = some []) (ha : PD X W a f1) (hb : PD X W b f2)
    (h1 : X.prog = P := by rfl) (h2 : X.w = w := by rfl) (h3 : X.K = K := by rfl) (h4 : X.mg = mg := by rfl) (h5 : X.base = base := by rfl) (hm : behindInMarks .NotEq b = false := by rfl) : PD X W (.Compare a [.NotEq] [b] pos) (dOp (gDeep K k l n not) f1 f2) := by
  subst h1 h2 h3 h4 h5
  exact pd_cmp (op_neDeep T (hr.mono hk) hG) snd_deep ha hb hm
theorem pdt_eqD {P : Program} {w : World} {K : PySem.W.Frag} {mg : Str → Option Value} {base : Heap} {k' : Nat} {a b : Expr} {f1 f2 : De} (n : Nat) (T : Gs P w K mg base k l) (hr : Room k' X.A) (hk : n + 1 ≤ k') (hG : X.A.guards = some []) (ha : PD X W a f1) (hb : PD X W b f2)
    (h1 : X.prog = P := by rfl) (h2 : X.w = w := by rfl) (h3 : X.K = K := by rfl) (h4 : X.mg = mg := by rfl) (h5 : X.base = base := by rfl) (hm : behindInMarks .Eq b = false := by rfl) : PDT X W (.Compare a [.Eq] [b] pos) (dTest (dOp (gDeep K k l n id) f1 f2)) := by
  subst h1 h2 h3 h4 h5
  exact pdt_cmp (op_eqDeep T (hr.mono (Nat.le_of_succ_le hk)) hG) snd_deep ha hb hm
theorem pdt_neD {P : Program} {w : World} {K : PySem.W.Frag} {mg : Str → Option Value} {base : Heap} {k' : Nat} {a b : Expr} {f1 f2 : De} (n : Nat) (T : Gs P w K mg base k l) (hr : Room k' X.A) (hk : n + 1 ≤ k') (hG : X.A.guards = some []) (ha : PD X W a f1) (hb : PD X W b f2)
    (h1 : X.prog = P := by rfl) (h2 : X.w = w := by rfl) (h3 : X.K = K := by rfl) (h4 : X.mg = mg := by rfl) (h5 : X.base = base := by rfl) (hm : behindInMarks .NotEq b = false := by rfl) : PDT X W (.Compare a [.NotEq] [b] pos) (dTest (dOp (gDeep K k l n not) f1 f2)) := by
  subst h1 h2 h3 h4 h5
  exact pdt_cmp (op_neDeep T (hr.mono hk) hG) snd_deep ha hb hm
end
end Pd
end
section
set_option autoImplicit false
set_option Elab.async false
set_option linter.all false
set_option autoImplicit false
set_option maxRecDepth 100000
set_option maxHeartbeats 4000000
/-! Pd31: isinstance(e, (A, B, C)) of the caught error. -/
namespace Pd
open PySem PySem.Spec PyProof.Rows L2
section
variable {X : Cx} {a : Addr} {oe : Obj} {cls : Value} {dd : Option Addr} {pn : List (Addr × Obj)}
def rIsXT (K : PySem.W.Frag) (a : Addr) (cls : Value) (dd : Option Addr) : List V → Hp → VK → Prop := fun xs H Q => ∃ (D tp : Addr) (cs : List V) (us : List Value) (b : Bool), xs = [.ref a, .ref tp] ∧ H tp = some (.tup cs) ∧ Paired ClsV cs us ∧ cls = .ref D ∧ ExcC K D ∧ (dd = none ∨ ∃ d fs, dd = some d ∧ H d = some (.xd fs)) ∧ PySem.W.kitAny K (.ref D) us = some b ∧ Q (.bl b) H
theorem call_isXT (hz : Zc cls dd oe) (hf : ∃ vs, oe.data = .fields vs) : CallR (X.suite a ((a, oe) :: pn)) (.builtin "isinstance") (rIsXT X.K a cls dd) := by
  intro pins s σ H xs us Q I r h
  obtain ⟨D, tp, cs, ws, b, rfl, hT, hcv, ecl, C, hd, e, q⟩ := h
  subst ecl
  obtain ⟨u1, u2, rfl, r1, r2⟩ := vals2 r
  cases r1
  cases (show u2 = Value.ref tp from r2)
  obtain ⟨hget, _⟩ := I.pin (a, oe) (List.mem_append.mpr (.inl List.mem_cons_self))
  obtain ⟨vs, hv⟩ := hf
  have J : ∃ od, PySem.W.InstAt s.heap a oe D od := by
    obtain ⟨oc, od, oda, osl⟩ := oe
    obtain ⟨h1, h2⟩ := hz
    dsimp only at h1 h2 hv
    subst h1 h2 hv
    rcases hd with rfl | ⟨d, fs, rfl, hd⟩
    · exact ⟨none, hget, rfl, rfl, trivial⟩
    · obtain ⟨mA, ⟨o, es, ep, ho, _⟩, _⟩ := (show ObjOk X.prog X.w H s.heap d (.xd fs) from I.hok d _ hd)
      exact ⟨some o, hget, rfl, rfl, ho⟩
  obtain ⟨_, its, rv, o, h1, h2, n, h3⟩ := (show ObjOk X.prog X.w H s.heap tp (.tup cs) from I.hok tp _ hT)
  have e3 := ClsV.all hcv rv
  subst e3
  obtain ⟨oc, od, dt, sl⟩ := o
  simp only at h2 h3
  subst h2 h3
  exact PySem.W.kia_tup (kitx_excO C oe) I.kIn J h1 e (fun z => nomatch z) fun tk => ⟨.bl b, H, I.kept (t' := tk) fun _ _ z => z, rfl, q⟩
@[simp] def dXi3 (K : PySem.W.Frag) (i : Nat) (c1 c2 c3 : Addr) : De := fun sv Q _ => ∃ x, sv[i]? = some (.exc x) ∧ ExcC K x.C ∧ ∃ b, PySem.W.kitAny K (.ref x.C) [.ref c1, .ref c2, .ref c3] = some b ∧ Q (.bl b) sv
theorem snd_xi3 {K : PySem.W.Frag} {w : WX} {i : Nat} {c1 c2 c3 : Addr} : SndE K ⟨w, some (a, cls, dd)⟩ (tCB (rIsXT K a cls dd) (tCons (tVar i) (tCons (tTup (tCons (tC (.ref c1)) (tCons (tC (.ref c2)) (tCons (tC (.ref c3)) tNil)))) tNil))) (dXi3 K i c1 c2 c3) := fun F P H σ sv Q E R re k _ q => by
  obtain ⟨x, e, hC, b, eb, q⟩ := q
  obtain ⟨o, ho, a', cls', dd', hX, rfl, h1, h2⟩ := rel_get re e
  cases hX
  refine ⟨_, ho, (by decide : (3 : Nat) ≤ sizeLine), fun p hp => ⟨x.C, p, _, _, b, rfl, upd_same, .cons (.own c1) (.cons (.own c2) (.cons (.own c3) .nil)), h1, hC, ?_, eb, k _ _ P (.bl b) sv (re.layH hp) (Sub.refl P) rfl q⟩⟩
  rcases h2 with ⟨_, h2⟩ | ⟨d, fs, h2, h3, _⟩
  · exact .inl h2
  · exact .inr ⟨d, fs, h2, sub_upd hp _ _ (re.sub _ _ h3)⟩
section
variable {w : WX} {n x1 x2 x3 : Str} {p p2 p3 p4 p5 p6 pos : Pos} {kk : Nat} {c1 c2 c3 : Addr}
theorem dxi3 (K : PySem.W.Frag) (i : Nat) (m1 : X.mg x1 = some (.ref c1)) (m2 : X.mg x2 = some (.ref c2)) (m3 : X.mg x3 = some (.ref c3)) (hm : X.mg "isinstance" = none) (hz : Zc cls dd oe) (hf : ∃ vs, oe.data = .fields vs) (hN : X.N[i]? = some n := by rfl) (hv : Vis X.env.scope n := by first | exact Or.inl rfl | exact Or.inr (Or.inl rfl) | exact Or.inr (Or.inr rfl)) (hK : X.K = K := by rfl) (hg : Gl X "isinstance" := by rfl)
    (g1 : Gl X x1 := by rfl) (g2 : Gl X x2 := by rfl) (g3 : Gl X x3 := by rfl) (d1 : (x1 == ("__debug__" : Str)) = false := by decide) (d2 : (x2 == ("__debug__" : Str)) = false := by decide) (d3 : (x3 == ("__debug__" : Str)) = false := by decide)
    (hd : (n == ("__debug__" : Str)) = false := by decide) (hcd : (n == ("__classdict__" : Str)) = false := by decide)
    (e1 : starEach [.Name x1 p4, .Name x2 p5, .Name x3 p6] X.env = (false, eval (.Name x1 p4) X.env) :: starEach [.Name x2 p5, .Name x3 p6] X.env := by rfl) (e2 : starEach [.Name x2 p5, .Name x3 p6] X.env = (false, eval (.Name x2 p5) X.env) :: starEach [.Name x3 p6] X.env := by rfl) (e3 : starEach [.Name x3 p6] X.env = (false, eval (.Name x3 p6) X.env) :: starEach [] X.env := by rfl)
    (he : starEach [.Name n p2, .Tuple [.Name x1 p4, .Name x2 p5, .Name x3 p6] kk p3] X.env = (false, eval (.Name n p2) X.env) :: starEach [.Tuple [.Name x1 p4, .Name x2 p5, .Name x3 p6] kk p3] X.env := by rfl) (he2 : starEach [.Tuple [.Name x1 p4, .Name x2 p5, .Name x3 p6] kk p3] X.env = (false, eval (.Tuple [.Name x1 p4, .Name x2 p5, .Name x3 p6] kk p3) X.env) :: starEach [] X.env := by rfl) (hpl : (backTo pos (starEach [.Tuple [.Name x1 p4, .Name x2 p5, .Name x3 p6] kk p3] X.env)).any (·.1) = false := by rfl) :
    PD (X.suite a ((a, oe) :: pn)) ⟨w, some (a, cls, dd)⟩ (.Call (.Name "isinstance" p) [.Name n p2, .Tuple [.Name x1 p4, .Name x2 p5, .Name x3 p6] kk p3] [] pos) (dXi3 K i c1 c2 c3) := by
  subst hK
  exact ⟨_, pe_callB (X := X.suite a ((a, oe) :: pn)) (call_isXT hz hf) hg hm boot_isi' (pa_cons (pe_var (X := X.suite a ((a, oe) :: pn)) hN hv hd hcd) (pa_cons (pe_tup (pa_cons (pe_glob (X := X.suite a ((a, oe) :: pn)) (v := .ref c1) g1 m1 rfl d1) (pa_cons (pe_glob (X := X.suite a ((a, oe) :: pn)) (v := .ref c2) g2 m2 rfl d2) (pa_cons (pe_glob (X := X.suite a ((a, oe) :: pn)) (v := .ref c3) g3 m3 rfl d3) pa_nil e3) e2) e1)) pa_nil he2) he) (by decide) (by decide) he hpl, snd_xi3⟩
end
end
end Pd
end
section
set_option autoImplicit false
set_option Elab.async false
set_option linter.all false
set_option autoImplicit false
set_option maxRecDepth 100000
set_option maxHeartbeats 4000000
/-! Pd32: t + u and t[lo:hi] of tuples. -/
namespace Pd
open PySem PySem.Spec PyProof.Rows L2
section
variable {X : Cx} {W : Wz} {pos : Pos}
@[simp] def gCatT : G2 := fun d e Q => ∃ xs ys, d = .tup xs ∧ e = .tup ys ∧ xs.length + ys.length ≤ 100000 ∧ Q (.tup (xs ++ ys))
theorem snd_catT {K : PySem.W.Frag} : SndR K (rCatA K) gCatT := fun F P H σ sv x y d e Q R re rx ry k q => by
  obtain ⟨ds, es, rfl, rfl, hl, q⟩ := q
  obtain ⟨a, xs, rfl, ha, h1⟩ := id rx
  obtain ⟨b, ys, rfl, hb, h2⟩ := id ry
  have l1 := h1.length
  have l2 := h2.length
  refine ⟨a, b, xs, ys, rfl, rfl, sqT_of (re.sub _ _ ha), sqT_of (re.sub _ _ hb), small_line (by omega), fun hx => ?_, fun hx hy => ?_, fun hx hy p hp => ?_⟩
  · subst hx
    obtain rfl : ds = [] := List.eq_nil_of_length_eq_zero (by simpa using l1.symm)
    exact k _ H P _ re (Sub.refl P) ry q
  · subst hy
    obtain rfl : es = [] := List.eq_nil_of_length_eq_zero (by simpa using l2.symm)
    rw [List.append_nil] at q
    exact k _ H P _ re (Sub.refl P) rx q
  · exact k (.ref p) _ _ (.tup (ds ++ es)) (re.lay hp) (sub_upd (re.free hp)) ⟨p, xs ++ ys, rfl, upd_same, RpL.mono (sub_upd (re.free hp)) _ _ (h1.append h2)⟩ q
theorem pd_addT {a b : Expr} {f1 f2 : De} (h1 : PD X W a f1) (h2 : PD X W b f2) : PD X W (.BinOp a .Add b pos) (dOp gCatT f1 f2) := pd_op op_catA snd_catT h1 h2
@[simp] def dSlT (f : De) (lo hi : Do) : De := fun sv Q E => f sv (fun d sv1 => lo sv1 (fun l sv2 => hi sv2 (fun u sv3 => ∃ ds, d = .tup ds ∧ Q (.tup (cutD ds l u)) sv3) E) E) E
theorem pd_slT {e : Expr} {lo hi : Option Expr} {p2 : Pos} {f : De} {g h : Do} (h1 : PD X W e f) (h2 : PDO X W lo g) (h3 : PDO X W hi h) : PD X W (.Subscript e (.Slice lo hi none p2) pos) (dSlT f g h) := by
  obtain ⟨ta, p1, s1⟩ := h1
  obtain ⟨tb, p2, s2⟩ := h2
  obtain ⟨tc, p3, s3⟩ := h3
  refine ⟨_, pe_slice sl_tupA p1 p2 p3, fun F P H σ sv Q E R re k kx q => s1 F P H σ sv _ E _ re (fun v H1 P1 d sv1 r1 s1' rv q1 => s2 F P1 H1 σ sv1 _ E _ r1 (fun l H2 P2 sv2 r2 s2' q2 => s3 F P2 H2 σ sv2 _ E _ r2 (fun u H3 P3 sv3 r3 s3' q3 => ?_) kx q2) kx q1) kx q⟩
  obtain ⟨ds, rfl, q3⟩ := q3
  have rv' := Rp.mono (s2'.trans s3') (.tup ds) v rv
  obtain ⟨a, vs, rfl, e1, rl⟩ := id rv'
  have ll := rl.length
  refine ⟨a, vs, rfl, sqT_of (r3.sub _ _ e1), fun hw => ?_, fun _ p hp => ?_⟩
  · have ec : cutD ds l u = ds := by
      unfold cutD
      rw [← ll, hw.1, hw.2, ll]
      simp
    rw [ec] at q3
    exact k _ H3 P3 _ sv3 r3 ((s1'.trans s2').trans s3') rv' q3
  · exact k (.ref p) _ _ (.tup (cutD ds l u)) sv3 (r3.lay hp) (((s1'.trans s2').trans s3').trans (sub_upd (r3.free hp))) ⟨p, _, rfl, upd_same, RpL.mono (sub_upd (r3.free hp)) _ _ (cut_rel l u rl)⟩ q3
end
end Pd
end
section
set_option autoImplicit false
set_option Elab.async false
set_option linter.all false
set_option autoImplicit false
set_option maxRecDepth 100000
set_option maxHeartbeats 4000000
/-! Pf1: dict comprehensions of any number of clauses, keys texts and numbers or tuples of them. -/
namespace Pf
open PySem PySem.Spec PyProof.Rows L2 Pd
theorem turn_last (kx vx : Expr) (gens : List Comprehension) (scope : Scope) (pos : Pos) (d : Nat) (it : Value) (D : Addr) (env : Env) {tg iter : Expr} {ifs : List Expr} (hg : gens[d]? = some ⟨tg, iter, ifs, 0⟩) (hn : gens[d + 1]? = none) :
    compTurn (.DictComp kx vx gens scope pos) d it (.ref D) env = (do
      standAt iter.pos
      match ← pyNext it with
      | none => pure (.done .next)
      | some v =>
        letOwnedTupleGo tg it v
        assign tg env v
        let mut ok := true
        for c in ifs do
          if ok then ok ← isTrue c env (eval c env)
        if ok then
          (do
            let kv ← eval kx env
            let vv ← holding [kv] (eval vx env)
            standAt { kx.pos with endLine := vx.pos.endLine, endCol := vx.pos.endCol }
            holding [kv, vv] (dictSet D kv vv))
        again (.compLoop (.DictComp kx vx gens scope pos) d it (.ref D) env)) := by
  unfold compTurn
  dsimp only
  rw [hg, hn]
  rfl
theorem turn_next (kx vx : Expr) (gens : List Comprehension) (scope : Scope) (pos : Pos) (d : Nat) (it : Value) (D : Addr) (env : Env) {tg iter t1 i1 : Expr} {ifs ifs1 : List Expr} (hg : gens[d]? = some ⟨tg, iter, ifs, 0⟩) (hn : gens[d + 1]? = some ⟨t1, i1, ifs1, 0⟩) :
    compTurn (.DictComp kx vx gens scope pos) d it (.ref D) env = (do
      standAt iter.pos
      match ← pyNext it with
      | none => pure (.done .next)
      | some v =>
        letOwnedTupleGo tg it v
        assign tg env v
        let mut ok := true
        for c in ifs do
          if ok then ok ← isTrue c env (eval c env)
        if ok then
          let x ← eval i1 env
          standAt i1.pos
          let x ← foldedSetIterable i1 env x
          let _ ← runOwn (.compStart (.DictComp kx vx gens scope pos) (d + 1) (← holding [x] (pyIter x)) (.ref D) env) env
        again (.compLoop (.DictComp kx vx gens scope pos) d it (.ref D) env)) := by
  unfold compTurn
  dsimp only
  rw [hg, hn]
  rfl
section
variable {prog : Program} {w : World} {A : Around} {R : Result → Shared → Prop} {s : Shared} {kx vx tg iter t1 i1 : Expr} {ifs ifs1 : List Expr} {gens : List Comprehension} {scope : Scope} {pos : Pos} {it : Value} {D : Addr} {env : Env} {d : Nat}
/-- what an item of the clause at d leads to, behind its tests -/
def Body (prog : Program) (w : World) (A : Around) (kx vx : Expr) (gens : List Comprehension) (scope : Scope) (pos : Pos) (d : Nat) (D : Addr) (env : Env) (Q : Shared → Prop) (E : Value → Shared → Prop) (s : Shared) : Prop := match gens[d + 1]? with
  | some g => wpAny (model prog w) A (eval g.iter env) (fun x s₄ => wpAny (model prog w) A (pyIter x) (fun it1 s₅ =>
              codeAny (model prog w) A (.compStart (.DictComp kx vx gens scope pos) (d + 1) it1 (.ref D) env) (fun r s' => match r with
                | .ok _ => Q s'
                | .error _ => False) s₅) E s₄) E s
  | none => wpAny (model prog w) A (eval kx env) (fun kv s₄ => wpAny (model prog w) A (eval vx env) (fun vv s₅ => wpAny (model prog w) A (dictSet D kv vv) (fun _ s' => Q s') E s₅) E s₄) E s
theorem loop_any (hg : gens[d]? = some ⟨tg, iter, ifs, 0⟩) (hn : ∀ g, gens[d + 1]? = some g → g.is_async = 0 ∧ ∀ x, foldedSetIterable g.iter env x = pure x) (I : Nat → Shared → Prop)
    (turn : ∀ n s, I n s → wpAny (model prog w) A (pyNext it) (fun r s₁ => match r with
      | none => R (.ok .next) s₁
      | some v => wpAny (model prog w) A (letOwnedTupleGo tg it v) (fun _ s₁' => wpAny (model prog w) A (assign tg env v) (fun _ s₂ =>
          wpAny (model prog w) A (forIn ifs true fun c r => if r = true then do let ok ← isTrue c env (eval c env); pure (ForInStep.yield ok) else pure (ForInStep.yield r)) (fun ok s₃ =>
            if ok = true then Body prog w A kx vx gens scope pos d D env (fun s₆ => ∃ m, m < n ∧ I m s₆) (notedBy (model prog w) A env fun e s' => R (.error e) s') s₃
            else ∃ m, m < n ∧ I m s₃) (notedBy (model prog w) A env fun e s' => R (.error e) s') s₂) (notedBy (model prog w) A env fun e s' => R (.error e) s') s₁') (notedBy (model prog w) A env fun e s' => R (.error e) s') s₁) (notedBy (model prog w) A env fun e s' => R (.error e) s') s)
    (n : Nat) (h : I n s) :
    codeAny (model prog w) A (.compLoop (.DictComp kx vx gens scope pos) d it (.ref D) env) R s := by
  refine codeAny_loop rfl I (fun n s hI => ?_) n h
  show wpAny _ A ((compTurn (.DictComp kx vx gens scope pos) d it (.ref D) env).onRaise (fun x => do noteFrame x env; theTreesLotGoes x)) _ _ s
  refine wpAny_noted ?_
  cases hn' : gens[d + 1]? with
  | none =>
    rw [turn_last kx vx gens scope pos d it D env hg hn']
    refine wpAny_bind (wpAny_standAt (wpAny_bind (wpAny_mono (turn n s hI) (fun r s₁ h₁ => ?_) fun _ _ h' => h')))
    cases r with
    | none => exact wpAny_pure h₁
    | some v =>
      refine wpAny_bind (wpAny_mono h₁ (fun _ s₁' h₁' => ?_) fun _ _ h' => h')
      refine wpAny_bind (wpAny_mono h₁' (fun _ s₂ h₂ => wpAny_bind (wpAny_mono h₂ (fun ok s₃ h₃ => ?_) fun _ _ h' => h')) fun _ _ h' => h')
      cases ok with
      | false => exact wpAny_pure ⟨rfl, h₃⟩
      | true =>
        rw [if_pos rfl] at h₃
        unfold Body at h₃
        rw [hn'] at h₃
        exact wpAny_bind (wpAny_bind (wpAny_mono h₃ (fun kv s₄ h₄ => wpAny_bind (wpAny_holding (wpAny_mono h₄ (fun vv s₅ h₅ => wpAny_bind (wpAny_standAt (wpAny_holding (wpAny_mono h₅ (fun _ s₆ h₆ => wpAny_pure ⟨rfl, h₆⟩) fun _ _ h' => h')))) fun _ _ h' => h'))) fun _ _ h' => h'))
  | some g =>
    obtain ⟨t1, i1, ifs1, asy⟩ := g
    obtain ⟨ha, hs⟩ := hn _ hn'
    dsimp only at ha hs
    subst ha
    rw [turn_next kx vx gens scope pos d it D env hg hn']
    refine wpAny_bind (wpAny_standAt (wpAny_bind (wpAny_mono (turn n s hI) (fun r s₁ h₁ => ?_) fun _ _ h' => h')))
    cases r with
    | none => exact wpAny_pure h₁
    | some v =>
      refine wpAny_bind (wpAny_mono h₁ (fun _ s₁' h₁' => ?_) fun _ _ h' => h')
      refine wpAny_bind (wpAny_mono h₁' (fun _ s₂ h₂ => wpAny_bind (wpAny_mono h₂ (fun ok s₃ h₃ => ?_) fun _ _ h' => h')) fun _ _ h' => h')
      cases ok with
      | false => exact wpAny_pure ⟨rfl, h₃⟩
      | true =>
        rw [if_pos rfl] at h₃
        unfold Body at h₃
        rw [hn'] at h₃
        dsimp only at h₃
        refine wpAny_bind (wpAny_mono h₃ (fun x s₄ h₄ => ?_) fun _ _ h' => h')
        refine wpAny_bind (wpAny_standAt (wpAny_bind (wpAny_of_eq (hs x) (wpAny_bind (wpAny_holding (wpAny_mono h₄ (fun it1 s₅ h₅ => ?_) fun _ _ h' => h'))))))
        refine wpAny_bind (wpAny_runOwn ?_)
        rw [Around.mark_none]
        refine codeAny_mono h₅ fun r s' hr => ?_
        cases r with
        | ok f =>
          first
            | exact wpAny_pure ⟨rfl, hr⟩
            | exact wpAny_bind (wpAny_pure (wpAny_pure ⟨rfl, hr⟩))
        | error e => exact hr.elim
theorem start_ok (hg : gens[d]? = some ⟨tg, iter, ifs, 0⟩) (h0 : codeAny (model prog w) A (.compLoop (.DictComp kx vx gens scope pos) d it (.ref D) env) R s)
    (h : wpAny (model prog w) A (pyIter it) (fun it' s' => codeAny (model prog w) A (.compLoop (.DictComp kx vx gens scope pos) d it' (.ref D) env) R s')
      (notedBy (model prog w) A env fun x s' => R (.error x) s') s) :
    codeAny (model prog w) A (.compStart (.DictComp kx vx gens scope pos) d it (.ref D) env) R s := by
  refine codeAny_of_tree ?_
  show wpAny _ A ((compStart (.DictComp kx vx gens scope pos) d it (.ref D) env).onRaise (fun x => do noteFrame x env; standAt theWindowsPlace)) _ _ s
  refine wpAny_notedAt ?_
  unfold compStart
  rw [show (clausesOf (Expr.DictComp kx vx gens scope pos))[d]? = some ⟨tg, iter, ifs, 0⟩ from hg]
  show wpAny _ A (ask >>= _) _ _ s
  refine wpAny_bind (wpAny_askSetting (wpAny_ite ?_))
  split
  · first
      | exact wpAny_bind (wpAny_pure (wpAny_pure (And.intro rfl h0)))
      | exact wpAny_pure (And.intro rfl h0)
  · first
      | exact wpAny_bind (wpAny_rule (wpAny_bind (wpAny_standAt (wpAny_bind (wpAny_mono h (fun it' s' h' => wpAny_pure (And.intro rfl h')) fun _ _ x => x)))))
      | (refine wpAny_bind (wpAny_rule ?_); show wpAny _ _ (standAt iter.pos >>= _) _ _ s; exact wpAny_bind (wpAny_standAt (wpAny_bind (wpAny_mono h (fun it' s' h' => wpAny_pure (And.intro rfl h')) fun _ _ x => x))))
end
/-- d[k] = v by a comprehension, tuples as keys -/
theorem t_dictSet {X : Cx} {pins : List (Addr × Obj)} {σ : L2.St} {H : Hp} {s : Shared} {E : Value → Shared → Prop} {D b : Addr} {kvs : List (List Key × V)} {k : List Key} {v : V} {r : Value} {Q : Unit → Shared → Prop} (hu : X.A.units + 1 < cLine) (I : Inv X pins σ H s) (hD : H D = some (.dT kvs)) (hz : kvs.length < sizeLine)
    (eb : H b = some (.tup (k.map kV))) (rv : RelV v r) (h : ∀ s', Inv X pins σ (upd H D (.dT (putK kvs k v))) s' → Q () s') : wpAny (model X.prog X.w) X.A (dictSet D (.ref b) r) Q E s := by
  obtain ⟨z, hd, xs, rel, dd⟩ := dt_of I.hok hD
  have hz' : xs.length ≤ sizeLine := by rw [← Paired.length rel]; exact z
  have hl : (putK kvs k v).length ≤ sizeLine := by have := length_putK kvs k v; omega
  refine wpAny_dictSet_heap (hsz := hz') (show X.A.units < cLine by omega) (key_of I.hok eb) dd fun h' dd' hs => h _ ?_
  obtain ⟨q, es, ep, hq, h2, h3, h4, _, h5⟩ := dd'
  refine d_write I (by rw [hD]; exact True.intro) hs ⟨q, hq⟩ ⟨hl, hd, _, (rel.put k eb rv).keeps fun c ys ec => ?_, q, es, ep, hq, h2, h3, h4, h5⟩
  rw [upd_ne (ne_of ec hD (fun z => nomatch z))]
  exact ec

/-! ### clauses -/
structure Cl where
  wi : TI
  g : TG
  tt : TT
  vs : List Nat
abbrev Rst := L2.St → Hp → (Hp → Prop) → Prop
/-- a loop over J, rest done with each item -/
def loopW (c : Cl) (J : It) (rest : Rst) (σ : L2.St) (H0 : Hp) (Nx : Hp → Prop) : Prop := ∃ W : Nat → Nat → Hp → Prop, (∃ m, W 0 m H0) ∧ ∀ i m H, W i m H →
  (J.stop i H ∧ Nx H) ∨ (J.go i H ∧ ∃ Nx1 : Hp → Prop, (∀ H', Nx1 H' → ∃ m', m' < m ∧ W (i + 1) m' H') ∧ ∀ x H', J.yld i H x H' → c.g x (wipe σ c.vs) H' fun σ2 H2 => wipe σ2 c.vs = wipe σ c.vs ∧ c.tt σ2 H2 fun b H3 =>
    if b = true then rest σ2 H3 Nx1 else Nx1 H3)
def tTurn (sink : Rst) : List Cl → Rst
  | [] => sink
  | c :: cs => fun σ H Nx => c.wi σ H fun J H' => loopW c J (tTurn sink cs) σ H' Nx
/-- d[k] = v -/
def tSink (D : Addr) (tk tv : TE) : Rst := fun σ H Nx => tk σ H fun y H4 => tv σ H4 fun z H5 =>
  (∃ kvs k, y = kV k ∧ H5 D = some (.dK kvs) ∧ kvs.length < sizeLine ∧ Nx (upd H5 D (.dK (putK kvs k z)))) ∨
  ∃ kvs k b, y = .ref b ∧ H5 b = some (.tup (k.map kV)) ∧ H5 D = some (.dT kvs) ∧ kvs.length < sizeLine ∧ Nx (upd H5 D (.dT (putK kvs k z)))
@[simp] def hvs : List Cl → List Nat
  | [] => []
  | c :: _ => c.vs
inductive ClR (Y : Cx) : List Comprehension → List Cl → Prop
  | nil : ClR Y [] []
  | cons {tg iter : Expr} {ifs : List Expr} {gs : List Comprehension} {c : Cl} {cs : List Cl} (hi : PI Y tg iter c.wi) (hg : PG Y tg c.g) (ht : PTs Y ifs c.tt) (hs : ∀ x, foldedSetIterable iter Y.env x = pure x) (hv : ∀ i ∈ hvs cs, i ∈ c.vs) (r : ClR Y gs cs) :
      ClR Y (⟨tg, iter, ifs, 0⟩ :: gs) (c :: cs)
section
variable {Y : Cx} {kx vx : Expr} {gens : List Comprehension} {scope : Scope} {pos : Pos} {D : Addr} {tk tv : TE}
theorem sink_ok (hu : Y.A.units + 1 < cLine) (hxe : Y.xe = fun _ _ => False) (hk : PE Y kx tk) (he : PE Y vx tv) {pins : List (Addr × Obj)} {σ : L2.St} {H : Hp} {s : Shared} {Nx : Hp → Prop} (I : Inv Y pins σ H s) (h : tSink D tk tv σ H Nx) :
    wpAny (model Y.prog Y.w) Y.A (eval kx Y.env) (fun kv s₄ => wpAny (model Y.prog Y.w) Y.A (eval vx Y.env) (fun vv s₅ => wpAny (model Y.prog Y.w) Y.A (dictSet D kv vv) (fun _ s' => ∃ H', Inv Y pins σ H' s' ∧ Nx H') (fun _ _ => False) s₅) (fun _ _ => False) s₄) (fun _ _ => False) s := by
  have r1 := hk.run pins s σ H _ I h
  rw [hxe] at r1
  refine thnF r1 fun z s10 ⟨yk, H10, I10, r10, q10⟩ => ?_
  have r2 := he.run pins s10 σ H10 _ I10 q10
  rw [hxe] at r2
  refine thnF r2 fun z2 s11 ⟨yv, H11, I11, r11, q11⟩ => ?_
  rcases q11 with ⟨kvs, k, ek, hD, hz, nx⟩ | ⟨kvs, k, b, ek, eb, hD, hz, nx⟩
  · subst ek
    exact d_dictSet I11 hD hz r10 r11 fun s12 I12 => ⟨_, I12, nx⟩
  · subst ek
    cases (show z = Value.ref b from r10)
    exact t_dictSet hu I11 hD hz eb r11 fun s12 I12 => ⟨_, I12, nx⟩
theorem drop_next {α : Type} {l : List α} {d : Nat} {g : α} {gs : List α} (h : l.drop d = g :: gs) : l[d]? = some g ∧ l.drop (d + 1) = gs := by
  have e : l[d]? = (l.drop d)[0]? := by simp
  refine ⟨by rw [e, h]; rfl, ?_⟩
  rw [← List.tail_drop, h]
  rfl
theorem drop_none {α : Type} {l : List α} {d : Nat} (h : l.drop d = []) : l[d]? = none := by
  have e : l[d]? = (l.drop d)[0]? := by simp
  rw [e, h]
  rfl
theorem body_ok (hc : Y.calm = true) (hu : Y.A.units + 1 < cLine) (hxe : Y.xe = fun _ _ => False) (hk : PE Y kx tk) (he : PE Y vx tv) : ∀ (cs : List Cl) (gs : List Comprehension) (d : Nat), gens.drop (d + 1) = gs → ClR Y gs cs →
    ∀ (pins : List (Addr × Obj)) (σ : L2.St) (H : Hp) (s : Shared) (Nx : Hp → Prop), Inv Y pins σ H s → tTurn (tSink D tk tv) cs σ H Nx →
    Body Y.prog Y.w Y.A kx vx gens scope pos d D Y.env (fun s' => ∃ σ' H', Inv Y pins σ' H' s' ∧ σ'.length = σ.length ∧ (∀ (j : Nat) v, (wipe σ (hvs cs))[j]? = some (some v) → σ'[j]? = some (some v)) ∧ Nx H') (fun _ _ => False) s
  | [], gs, d, hd, hr, pins, σ, H, s, Nx, I, h => by
    cases hr
    unfold Body
    rw [drop_none hd]
    refine thnF (sink_ok hu hxe hk he I h) fun kv s4 h4 => thnF h4 fun vv s5 h5 => thnF h5 fun _ s6 ⟨H6, I6, n6⟩ => ⟨σ, H6, I6, rfl, fun j v e => e, n6⟩
  | c :: cs, gs0, d, hd, hr, pins, σ, H, s, Nx, I, h => by
    cases hr with
    | @cons tg iter ifs gs _ _ hi hg ht hs hv r =>
    obtain ⟨hg1, hd1⟩ := drop_next hd
    unfold Body
    rw [hg1]
    have r1 := hi.run pins s σ H _ I h
    rw [hxe] at r1
    refine thnF r1 fun xv s10 hx => thnF hx fun itv s11 h11 => ?_
    obtain ⟨it1, fp1, tn1, J1, H11, e1, I11, T1, st11, f11, W1, ⟨m1, w1⟩, turn1⟩ := h11
    subst e1
    have stat1 : ∀ {H' : Hp}, (∀ b ∈ fp1, H' b = none) → ∀ b ∈ fp1, FpOk Y pins H' b := fun hn b hb => ⟨hn b hb, (f11 b hb).2⟩
    have nxt : ∀ g, gens[d + 1 + 1]? = some g → g.is_async = 0 ∧ ∀ x, foldedSetIterable g.iter Y.env x = pure x := fun g e => by
      cases r with
      | nil => rw [drop_none hd1] at e; cases e
      | cons a1 a2 a3 a4 a5 a6 =>
        rw [(drop_next hd1).1] at e
        cases e
        exact ⟨rfl, a4⟩
    have loop1 : codeAny (model Y.prog Y.w) Y.A (.compLoop (.DictComp kx vx gens scope pos) (d + 1) (.ref it1) (.ref D) Y.env)
        (fun r s' => match r with
          | .ok _ => ∃ σ' H', Inv Y pins σ' H' s' ∧ σ'.length = σ.length ∧ (∀ (j : Nat) v, (wipe σ c.vs)[j]? = some (some v) → σ'[j]? = some (some v)) ∧ Nx H'
          | .error _ => False) s11 := by
      refine loop_any hg1 nxt (fun k s' => ∃ j H', Inv Y pins (wipe σ c.vs) H' s' ∧ tn1 j s'.heap ∧ (∀ b ∈ fp1, H' b = none) ∧ W1 j k H') ?_ m1 ⟨0, H11, I11.weak (wipe_length _ _) (fun j v e => (wipe_some e).1), st11, fun b hb => (f11 b hb).1, w1⟩
      rintro k s12 ⟨j, H12, I12, st12, n12, w12⟩
      rcases turn1 j k H12 w12 with ⟨stop1, nx1⟩ | ⟨go1, Nx1, hNx1, step1⟩
      · refine thnF (T1.done Y rfl rfl rfl hc j _ s12 (wipe σ c.vs) H12 (fun _ _ => False) I12 (stat1 n12) st12 stop1) fun r s13 ⟨hr, I13⟩ => ?_
        subst hr
        exact ⟨_, _, I13, wipe_length _ _, fun j v e => e, nx1⟩
      · refine thnF (T1.item Y rfl rfl rfl hc j _ s12 (wipe σ c.vs) H12 (fun _ _ => False) I12 (stat1 n12) st12 go1) fun r s13 ⟨u1, hr, h13⟩ => ?_
        subst hr
        refine thnF h13 fun _ s14 ⟨x1, H14, I14, r14, y14, st14, n14⟩ => ?_
        have I14' := I14.pinned (stat1 n14) (T1.obj _ _ st14)
        have g1 := hg.run _ s14 (wipe σ c.vs) H14 x1 u1 _ I14' r14 (step1 x1 H14 y14)
        rw [hxe] at g1
        refine thnF g1 fun _ s15 ⟨σ15, H15, I15, hw15, q15⟩ => ?_
        have g2 := ht.run _ s15 σ15 H15 _ I15 q15
        rw [hxe] at g2
        refine thnF g2 fun b1 s16 ⟨H16, I16, q16⟩ => ?_
        have fin1 : ∀ {σ' : L2.St} {s' : Shared} {H' : Hp}, Inv Y (pins ++ pinsAt fp1 s14.heap) σ' H' s' → σ'.length = σ15.length → (∀ (j : Nat) v, (wipe σ15 (hvs cs))[j]? = some (some v) → σ'[j]? = some (some v)) → Nx1 H' → ∃ m, m < k ∧ ∃ j H', Inv Y pins (wipe σ c.vs) H' s' ∧ tn1 j s'.heap ∧ (∀ b ∈ fp1, H' b = none) ∧ W1 j m H' := fun {σ' s' H'} I' hl hk' nx => by
          obtain ⟨m', hm, w'⟩ := hNx1 H' nx
          have pin' : ∀ b ∈ fp1, ∀ o, s14.heap.get? b = some o → s'.heap.get? b = some o ∧ H' b = none := fun b hb o e =>
            let z := I'.pin (b, o) (List.mem_append_right _ (List.mem_append_right _ (mem_pinsAt hb e)))
            ⟨z.1, z.2.1⟩
          refine ⟨m', hm, j + 1, H', I'.unpinned.weak (by rw [hl, ← hw15, wipe_length]) (fun j v e => ?_), T1.keep _ _ _ st14 fun b hb o e => (pin' b hb o e).1, fun b hb => ?_, w'⟩
          · rw [← hw15] at e
            obtain ⟨e1, e2⟩ := wipe_some e
            refine hk' j v ?_
            rw [wipe_out fun z => e2 (hv j z)]
            exact e1
          · obtain ⟨o, e, _⟩ := T1.obj _ _ st14 b hb
            exact (pin' b hb o e).2
        cases b1 with
        | false =>
          simp only [Bool.false_eq_true, if_false] at q16 ⊢
          exact fin1 I16 rfl (fun j v e => (wipe_some e).1) q16
        | true =>
          simp only [if_true] at q16 ⊢
          have b := body_ok hc hu hxe hk he cs gs (d + 1) hd1 r _ σ15 H16 s16 Nx1 I16 q16
          unfold Body at b ⊢
          split at b
          · rename_i g2 e2
            try rw [e2]
            refine thnF b fun x s17 h17 => thnF h17 fun it2 s18 h18 => codeAny_mono h18 fun rr s19 hr => ?_
            cases rr with
            | ok f => exact let ⟨σ', H', I', hl, hk', nx⟩ := hr; fin1 I' hl hk' nx
            | error e => exact hr.elim
          · rename_i e2
            try rw [e2]
            exact thnF b fun x s17 h17 => thnF h17 fun it2 s18 h18 => thnF h18 fun _ s19 ⟨σ', H', I', hl, hk', nx⟩ => fin1 I' hl hk' nx
    exact start_ok hg1 loop1 (T1.self Y.A 0 _ _ _ st11 loop1)
end
/-- {k: v for .. for ..}: D the new dict, its keys of one kind or the other -/
def tDcs (c0 : Cl) (cs : List Cl) (tk tv : TE) : TE := fun σ H Q => c0.wi σ H fun J H1 => ∀ D, H1 D = none →
  loopW c0 J (tTurn (tSink D tk tv) cs) σ (upd H1 D (.dK [])) (Q (.ref D)) ∨ loopW c0 J (tTurn (tSink D tk tv) cs) σ (upd H1 D (.dT [])) (Q (.ref D))
section
variable {X : Cx}
theorem dcs_core {pins : List (Addr × Obj)} {s : Shared} {σ : L2.St} {H : Hp} {Q : VK} {kx vx tg iter : Expr} {ifs : List Expr} {gs : List Comprehension} {scope : Scope} {own : List (Str × Nat)} {pos pos' : Pos} {wi : TI} {g : TG} {tt : TT} {cs : List Cl} {tk tv : TE} {use : Option (Value → Sem Unit)} {Qf : Value → Shared → Prop}
    (hc : X.calm = true) (hu : X.A.units + 1 < cLine) (hN : X.N.Nodup) (I : Inv X pins σ H s) (hi : PI X tg iter wi) (ok : BlkOk X.N X.env.scope scope own)
    (hg : ∀ (s : Shared) (H : Hp) (C : Addr) (cl : List (Str × Addr)) (fp : List Addr), PG (X.blk s H scope (compEnvC scope cl C X.env) fp) tg g) (ht : ∀ (s : Shared) (H : Hp) (C : Addr) (cl : List (Str × Addr)) (fp : List Addr), PTs (X.blk s H scope (compEnvC scope cl C X.env) fp) ifs tt)
    (hr : ∀ (s : Shared) (H : Hp) (C : Addr) (cl : List (Str × Addr)) (fp : List Addr), ClR (X.blk s H scope (compEnvC scope cl C X.env) fp) gs cs) (hv : ∀ i ∈ hvs cs, i ∈ own.map (·.2))
    (hk : ∀ (s : Shared) (H : Hp) (C : Addr) (cl : List (Str × Addr)) (fp : List Addr), PE (X.blk s H scope (compEnvC scope cl C X.env) fp) kx tk)
    (he : ∀ (s : Shared) (H : Hp) (C : Addr) (cl : List (Str × Addr)) (fp : List Addr), PE (X.blk s H scope (compEnvC scope cl C X.env) fp) vx tv) (hs : ∀ x, foldedSetIterable iter X.env x = pure x)
    (h : tDcs ⟨wi, g, tt, own.map (·.2)⟩ cs tk tv σ H Q)
    (hRR : ∀ D C s' m H', Inv X pins σ H' s' → Q (.ref D) H' → s'.heap.Ns C m → FpOk X pins H' C → compPost (model X.prog X.w) X.A X.xe use Qf (.ref D) C (.ok .next) s') :
    wpAny (model X.prog X.w) X.A (comprehension (.DictComp kx vx (⟨tg, iter, ifs, 0⟩ :: gs) scope pos) scope X.env pos' newDict false (eval iter X.env) use) Qf X.xe s := by
  have hfree : ∀ y ∈ scope.names, y.2 = .free → ∃ c, X.env.cells.lookup y.1 = some c := fun y hy e => by
    rcases ok.free y hy e with k | k
    · exact I.ok.has _ (.inl k)
    · exact I.ok.has _ (.inr k)
  refine wpAny_comprehension_free (use := use) rfl hs (closure_ok hfree) ok.kind (fun y hy e => by rw [ok.uniq y hy, e])
    (thn (hi.run pins s σ H _ I h) fun xv s1 hx => thn hx fun itv s2 h2 => ?_)
  obtain ⟨it, fp, tn, J, H2, e, I2, T, st2, f2, q⟩ := h2
  subst e
  refine wpAny_newObj_type (newEnv_comp ?_)
  generalize hD : s2.heap.objs.size = D
  have hDn : H2 D = none := I2.hok.fresh (Nat.le_of_eq hD)
  generalize hs3 : ({ s2 with heap := s2.heap.push { cls := .type "dict", data := .dict #[] } } : Shared) = s3
  have q0 : ∃ o : HO, loopW ⟨wi, g, tt, own.map (·.2)⟩ J (tTurn (tSink D tk tv) cs) σ (upd H2 D o) (Q (.ref D)) ∧ Inv X pins σ (upd H2 D o) s3 := by
    rcases q D hDn with q | q
    · refine ⟨.dK [], q, ?_⟩
      rw [← hs3]
      refine I2.laid (t' := s2.toks) (fun b o e => Heap.get?_push_of_some _ e) (Nat.le_of_eq hD) ?_
      rw [← hD]
      exact dk_empty s2.heap I2.big
    · refine ⟨.dT [], q, ?_⟩
      rw [← hs3]
      refine I2.laid (t' := s2.toks) (fun b o e => Heap.get?_push_of_some _ e) (Nat.le_of_eq hD) ?_
      rw [← hD]
      exact dt_empty s2.heap I2.big
  obtain ⟨o0, ⟨W, ⟨m0, w0⟩, turn⟩, I3⟩ := q0
  have h3 : s3.heap = s2.heap.push { cls := .type "dict", data := .dict #[] } := by rw [← hs3]
  have sz : ∀ b ∈ fp, b < s2.heap.objs.size := fun b hb => by
    obtain ⟨o, e, _⟩ := T.obj _ _ st2 b hb
    exact Heap.lt_size e
  have f3 : ∀ b ∈ fp, FpOk X pins (upd H2 D o0) b ∧ b < s3.heap.objs.size := fun b hb => by
    have hlt := sz b hb
    refine ⟨⟨?_, (f2 b hb).2⟩, by rw [h3, Heap.size_push]; exact Nat.lt_succ_of_lt hlt⟩
    rw [upd_ne (by rw [← hD]; exact Nat.ne_of_lt hlt)]
    exact (f2 b hb).1
  have st3 : tn 0 s3.heap := T.keep _ _ _ st2 fun b _ o e => by rw [h3]; exact Heap.get?_push_of_some _ e
  have I4 := block_start I3 ok hN f3
  have pg := hg s3 (upd H2 D o0) s3.heap.objs.size (cellsFrom (s3.heap.objs.size + 1) scope.names (cloFrom X.env.cells scope.names [])) fp
  have pt := ht s3 (upd H2 D o0) s3.heap.objs.size (cellsFrom (s3.heap.objs.size + 1) scope.names (cloFrom X.env.cells scope.names [])) fp
  have pr := hr s3 (upd H2 D o0) s3.heap.objs.size (cellsFrom (s3.heap.objs.size + 1) scope.names (cloFrom X.env.cells scope.names [])) fp
  have pk := hk s3 (upd H2 D o0) s3.heap.objs.size (cellsFrom (s3.heap.objs.size + 1) scope.names (cloFrom X.env.cells scope.names [])) fp
  have pe := he s3 (upd H2 D o0) s3.heap.objs.size (cellsFrom (s3.heap.objs.size + 1) scope.names (cloFrom X.env.cells scope.names [])) fp
  show codeAny _ _ (.compStart (.DictComp kx vx (⟨tg, iter, ifs, 0⟩ :: gs) scope pos) 0 (.ref it) (.ref D) (compEnvC scope (cellsFrom (s3.heap.objs.size + 1) scope.names (cloFrom X.env.cells scope.names [])) s3.heap.objs.size X.env)) (compPost (model X.prog X.w) X.A X.xe use Qf (.ref D) s3.heap.objs.size) { s3 with heap := pushCells (s3.heap.push { cls := .type "dict", data := .dict #[] }) scope.names }
  have nfp : ∀ b ∈ fp, (upd H2 D o0) b = none := fun b hb => (f3 b hb).1.1
  generalize hce : compEnvC scope (cellsFrom (s3.heap.objs.size + 1) scope.names (cloFrom X.env.cells scope.names [])) s3.heap.objs.size X.env = ce at I4 pg pt pr pk pe ⊢
  have cL : ce.locals = s3.heap.objs.size := by subst hce; rfl
  generalize hH3 : upd H2 D o0 = H3 at I3 I4 pg pt pr pk pe w0 nfp f3
  generalize hs4 : ({ s3 with heap := pushCells (s3.heap.push { cls := .type "dict", data := .dict #[] }) scope.names } : Shared) = s4 at I4 ⊢
  have st4 : tn 0 s4.heap := T.keep _ _ _ st3 fun b _ o e => by rw [← hs4]; exact pushCells_keeps _ _ _ _ (Heap.get?_push_of_some _ e)
  have stat : ∀ {σ' : L2.St} {H' : Hp} {s' : Shared}, Inv (X.blk s3 H3 scope ce fp) [] σ' H' s' → (∀ b ∈ fp, H' b = none) → ∀ b ∈ fp, FpOk (X.blk s3 H3 scope ce fp) [] H' b := fun {σ' H' s'} I' hn b hb =>
    ⟨hn b hb, (I'.ok.exf b hb).1, I'.ok.exfs b hb, .inl hb, fun x c e => (I'.ok.exf b hb).2 x c e, fun p hp => absurd (show p ∈ ([] : List (Addr × Obj)) ++ [] from hp) (by simp)⟩
  have nxt : ∀ g, gs[0]? = some g → g.is_async = 0 ∧ ∀ x, foldedSetIterable g.iter ce x = pure x := fun g e => by
    cases pr with
    | nil => cases e
    | cons a1 a2 a3 a4 a5 a6 =>
      cases e
      exact ⟨rfl, a4⟩
  have loop : codeAny (model X.prog X.w) X.A (.compLoop (.DictComp kx vx (⟨tg, iter, ifs, 0⟩ :: gs) scope pos) 0 (.ref it) (.ref D) ce) (compPost (model X.prog X.w) X.A X.xe use Qf (.ref D) s3.heap.objs.size) s4 := by
    refine loop_any (tg := tg) (iter := iter) (ifs := ifs) rfl (fun g e => nxt g (by simpa using e)) (fun n s' => ∃ i H', Inv (X.blk s3 H3 scope ce fp) [] (wipe σ (own.map (·.2))) H' s' ∧ tn i s'.heap ∧ (∀ b ∈ fp, H' b = none) ∧ W i n H') ?_ m0 ⟨0, H3, I4, st4, nfp, w0⟩
    rintro n s5 ⟨i, H5, I5, st5, n5, w5⟩
    rcases turn i n H5 w5 with ⟨stop, qq⟩ | ⟨go, Nx, hNx, step⟩
    · have td := T.done (X.blk s3 H3 scope ce fp) rfl rfl rfl hc i [] s5 _ H5 (fun _ _ => False) I5 (stat I5 n5) st5 stop
      refine thnF td fun r s6 ⟨hr, I6⟩ => ?_
      subst hr
      have I7 : Inv X pins σ H5 s6 := I3.call' (ch := fp) I6.os I6.base I6.hok I6.bare fun b hb => ⟨(f3 b hb).1.2.2.2.1, (f3 b hb).1.2.1, (f3 b hb).1.2.2.2.2.1, (f3 b hb).1.2.2.2.2.2⟩
      have nC : H5 s3.heap.objs.size = none := by
        have z : H5 ce.locals = none := I6.free
        rw [cL] at z
        exact z
      obtain ⟨m, hn, _⟩ := I6.loc
      have hn : s6.heap.Ns ce.locals m := hn
      rw [cL] at hn
      exact hRR D s3.heap.objs.size s6 m H5 I7 qq hn (I3.fpOk (Nat.le_refl _) nC)
    · have ti := T.item (X.blk s3 H3 scope ce fp) rfl rfl rfl hc i [] s5 _ H5 (fun _ _ => False) I5 (stat I5 n5) st5 go
      refine thnF ti fun r s6 ⟨u, hr, h6⟩ => ?_
      subst hr
      refine thnF h6 fun _ s7 ⟨x, H7, I7, r7, y7, st7, n7⟩ => ?_
      have I7' := I7.pinned (stat I7 n7) (T.obj _ _ st7)
      refine thnF (pg.run _ s7 _ H7 x u _ I7' r7 (step x H7 y7)) fun _ s8 ⟨σ8, H8, I8, hw8, q8⟩ => ?_
      refine thnF (pt.run _ s8 σ8 H8 _ I8 q8) fun b s9 ⟨H9, I9, q9⟩ => ?_
      have fin : ∀ {σ9 : L2.St} {s' : Shared} {H' : Hp}, Inv (X.blk s3 H3 scope ce fp) ([] ++ pinsAt fp s7.heap) σ9 H' s' → (wipe σ (own.map (·.2))).length = σ9.length → (∀ (j : Nat) v, (wipe σ (own.map (·.2)))[j]? = some (some v) → σ9[j]? = some (some v)) → Nx H' →
          ∃ m, m < n ∧ ∃ i H', Inv (X.blk s3 H3 scope ce fp) [] (wipe σ (own.map (·.2))) H' s' ∧ tn i s'.heap ∧ (∀ b ∈ fp, H' b = none) ∧ W i m H' := fun {σ9 s' H'} I' hl hk nx => by
        obtain ⟨m', hm, w'⟩ := hNx H' nx
        have pin' : ∀ b ∈ fp, ∀ o, s7.heap.get? b = some o → s'.heap.get? b = some o ∧ H' b = none := fun b hb o e =>
          let z := I'.pin (b, o) (List.mem_append_right _ (List.mem_append_right _ (mem_pinsAt hb e)))
          ⟨z.1, z.2.1⟩
        refine ⟨m', hm, i + 1, H', (I'.unpinned (pins := [])).weak hl hk, T.keep _ _ _ st7 fun b hb o e => (pin' b hb o e).1, fun b hb => ?_, w'⟩
        obtain ⟨o, e, _⟩ := T.obj _ _ st7 b hb
        exact (pin' b hb o e).2
      have hl8 : (wipe σ (own.map (·.2))).length = σ8.length := by rw [← hw8, wipe_length]
      have hk8 : ∀ (j : Nat) v, (wipe σ (own.map (·.2)))[j]? = some (some v) → σ8[j]? = some (some v) := fun j v e => by
        rw [← hw8] at e
        exact (wipe_some e).1
      have hk9 : ∀ (σ' : L2.St), (∀ (j : Nat) v, (wipe σ8 (hvs cs))[j]? = some (some v) → σ'[j]? = some (some v)) → ∀ (j : Nat) v, (wipe σ (own.map (·.2)))[j]? = some (some v) → σ'[j]? = some (some v) := fun σ' hh j v e => by
        rw [← hw8] at e
        obtain ⟨e1, e2⟩ := wipe_some e
        refine hh j v ?_
        rw [wipe_out fun z => e2 (hv j z)]
        exact e1
      cases b with
      | false =>
        simp only [Bool.false_eq_true, if_false] at q9 ⊢
        exact fin I9 hl8 hk8 q9
      | true =>
        simp only [if_true] at q9 ⊢
        have b := body_ok (Y := X.blk s3 H3 scope ce fp) (gens := ⟨tg, iter, ifs, 0⟩ :: gs) (pos := pos) (scope := scope) hc hu rfl pk pe cs gs 0 rfl pr _ σ8 H9 s9 Nx I9 q9
        unfold Body at b ⊢
        split at b
        · rename_i g2 e2
          try rw [e2]
          refine thnF b fun x s17 h17 => thnF h17 fun it2 s18 h18 => codeAny_mono h18 fun rr s19 hr => ?_
          cases rr with
          | ok f => exact let ⟨σ', H', I', hl, hk', nx⟩ := hr; fin I' (hl8.trans hl.symm) (hk9 σ' hk') nx
          | error e => exact hr.elim
        · rename_i e2
          try rw [e2]
          exact thnF b fun x s17 h17 => thnF h17 fun it2 s18 h18 => thnF h18 fun _ s19 ⟨σ', H', I', hl, hk', nx⟩ => fin I' (hl8.trans hl.symm) (hk9 σ' hk') nx
  exact codeAny_compStart_dict loop (T.self X.A 0 _ _ _ st4 loop)
/-- as a value -/
theorem pe_dcs {kx vx tg iter : Expr} {ifs : List Expr} {gs : List Comprehension} {scope : Scope} {own : List (Str × Nat)} {pos : Pos} {wi : TI} {g : TG} {tt : TT} {cs : List Cl} {tk tv : TE} (hc : X.calm = true) (hu : X.A.units + 1 < cLine) (hN : X.N.Nodup) (hi : PI X tg iter wi) (ok : BlkOk X.N X.env.scope scope own)
    (hg : ∀ (s : Shared) (H : Hp) (C : Addr) (cl : List (Str × Addr)) (fp : List Addr), PG (X.blk s H scope (compEnvC scope cl C X.env) fp) tg g) (ht : ∀ (s : Shared) (H : Hp) (C : Addr) (cl : List (Str × Addr)) (fp : List Addr), PTs (X.blk s H scope (compEnvC scope cl C X.env) fp) ifs tt)
    (hr : ∀ (s : Shared) (H : Hp) (C : Addr) (cl : List (Str × Addr)) (fp : List Addr), ClR (X.blk s H scope (compEnvC scope cl C X.env) fp) gs cs) (hv : ∀ i ∈ hvs cs, i ∈ own.map (·.2))
    (hk : ∀ (s : Shared) (H : Hp) (C : Addr) (cl : List (Str × Addr)) (fp : List Addr), PE (X.blk s H scope (compEnvC scope cl C X.env) fp) kx tk)
    (he : ∀ (s : Shared) (H : Hp) (C : Addr) (cl : List (Str × Addr)) (fp : List Addr), PE (X.blk s H scope (compEnvC scope cl C X.env) fp) vx tv) (hs : ∀ x, foldedSetIterable iter X.env x = pure x := by intro _; rfl) :
    PE X (.DictComp kx vx (⟨tg, iter, ifs, 0⟩ :: gs) scope pos) (tDcs ⟨wi, g, tt, own.map (·.2)⟩ cs tk tv) := by
  refine ⟨fun pins s σ H Q I h => ?_⟩
  rw [arm_eval_DictComp]
  refine dcs_core hc hu hN I hi ok hg ht hr hv hk he hs h fun D C s' m H' I' q hn f => ⟨m, hn, fun h'' sb => ?_⟩
  obtain ⟨f0, f1, f2, f3, f4, f5⟩ := f
  exact ⟨.ref D, H', I'.turned (t' := s'.toks) (fun b o hb e => (sb.2 b hb).trans e) f0 f1 f3 f4 f5, rfl, q⟩
end
end Pf
end
section
set_option autoImplicit false
set_option Elab.async false
set_option linter.all false
set_option autoImplicit false
set_option maxRecDepth 100000
set_option maxHeartbeats 4000000
/-! Pf2: dicts over data: put, get, new ones, comprehensions. -/
namespace Pf
open PySem PySem.Spec PyProof.Rows L2 Pd
/-! ### keys, put, get -/
@[simp] def keyD : D → Option Key
  | .int i => some (.inl i)
  | .str s => some (.inr s)
  | _ => none
@[simp] def keysD : List D → Option (List Key)
  | [] => some []
  | d :: ds => match keyD d, keysD ds with
    | some k, some ks => some (k :: ks)
    | _, _ => none
theorem keyD_v {K : PySem.W.Frag} {P : Hp} {d : D} {v : V} {k : Key} (h : keyD d = some k) (r : Rp K P d v) : v = kV k := by
  cases d <;> simp only [keyD] at h <;> first
    | (cases h; exact r)
    | cases h
theorem keysD_v {K : PySem.W.Frag} {P : Hp} : ∀ {ds : List D} {vs : List V} {ks : List Key}, keysD ds = some ks → RpL K P ds vs → vs = ks.map kV
  | [], vs, ks, h, r => by cases h; exact r
  | d :: ds, vs, ks, h, r => by
    obtain ⟨v, w, rfl, r1, r2⟩ := r
    simp only [keysD] at h
    split at h
    · rename_i k ks' e1 e2
      cases h
      rw [keyD_v e1 r1, keysD_v e2 r2]
      rfl
    · cases h
section
variable {κ α : Type} [DecidableEq κ]
def setZ (k : κ) (x : α) : List κ → List α → List α
  | k' :: ks, y :: ys => (if k' = k then x else y) :: setZ k x ks ys
  | _, ys => ys
def getZ (k : κ) : List κ → List α → Option α
  | k' :: ks, y :: ys => if k' = k then some y else getZ k ks ys
  | _, _ => none
def memZ (k : κ) (ks : List κ) : Bool := ks.any fun k' => decide (k' = k)
theorem memZ_iff {k : κ} {ks : List κ} : memZ k ks = true ↔ k ∈ ks := by
  simp [memZ]
theorem setZ_len {k : κ} {x : α} : ∀ {ks : List κ} {ys : List α}, (setZ k x ks ys).length = ys.length
  | [], _ => rfl
  | _ :: _, [] => rfl
  | k' :: ks, y :: ys => by simp [setZ, setZ_len (ks := ks) (ys := ys)]
theorem zip_len {ks : List κ} {vs : List α} (h : vs.length = ks.length) : (ks.zip vs).length = ks.length := by
  rw [List.length_zip, h, Nat.min_self]
theorem putK_old {k : κ} {v : V} : ∀ {ks : List κ} {vs : List V}, (ks.zip vs).map (fun kv => if kv.1 = k then (kv.1, v) else kv) = ks.zip (setZ k v ks vs)
  | [], _ => rfl
  | _ :: _, [] => rfl
  | k' :: ks, y :: ys => by
    simp only [List.zip_cons_cons, List.map_cons, setZ, putK_old]
    split <;> rfl
theorem any_zip {k : κ} : ∀ {ks : List κ} {vs : List V}, vs.length = ks.length → ((ks.zip vs).any fun kv => decide (kv.1 = k)) = memZ k ks
  | [], [], _ => by simp [memZ]
  | k' :: ks, y :: ys, h => by
    have ih := any_zip (k := k) (ks := ks) (vs := ys) (by simpa using h)
    simp only [List.zip_cons_cons, List.any_cons, ih]
    rfl
theorem putK_zip {k : κ} {v : V} {ks : List κ} {vs : List V} (h : vs.length = ks.length) : putK (ks.zip vs) k v = if memZ k ks = true then ks.zip (setZ k v ks vs) else (ks ++ [k]).zip (vs ++ [v]) := by
  unfold putK
  rw [any_zip h]
  by_cases m : memZ k ks = true
  · rw [if_pos m, if_pos m, putK_old]
  · rw [if_neg m, if_neg m, List.zip_append (by rw [h])]
    rfl
theorem valV_zip {k : κ} : ∀ {ks : List κ} {vs : List V}, valV (ks.zip vs) k = getZ k ks vs
  | [], _ => rfl
  | _ :: _, [] => rfl
  | k' :: ks, y :: ys => by
    by_cases e : k' = k
    · rw [List.zip_cons_cons, valV_pos e]
      simp [getZ, e]
    · rw [List.zip_cons_cons, valV_neg e, valV_zip]
      simp [getZ, e]
end
theorem setZ_rel {K : PySem.W.Frag} {P : Hp} {κ : Type} [DecidableEq κ] {k : κ} {d : D} {v : V} (r : Rp K P d v) : ∀ {ks : List κ} {ds : List D} {vs : List V}, RpL K P ds vs → RpL K P (setZ k d ks ds) (setZ k v ks vs)
  | [], _, _, h => h
  | _ :: _, [], _, h => by cases h; rfl
  | k' :: ks, e :: es, _, h => by
    obtain ⟨w, ws, rfl, h1, h2⟩ := h
    unfold setZ
    refine ⟨_, _, rfl, ?_, setZ_rel r h2⟩
    split
    · exact r
    · exact h1
theorem getZ_rel {K : PySem.W.Frag} {P : Hp} {κ : Type} [DecidableEq κ] {k : κ} : ∀ {ks : List κ} {ds : List D} {vs : List V}, RpL K P ds vs → match getZ k ks ds with
    | some d => ∃ v, getZ k ks vs = some v ∧ Rp K P d v
    | none => getZ k ks vs = none
  | [], _, _, h => rfl
  | _ :: _, [], _, h => by cases h; rfl
  | k' :: ks, e :: es, _, h => by
    obtain ⟨w, ws, rfl, h1, h2⟩ := h
    unfold getZ
    by_cases c : k' = k
    · rw [if_pos c, if_pos c]
      exact ⟨w, rfl, h1⟩
    · rw [if_neg c, if_neg c]
      exact getZ_rel h2
/-- d[k] = x by data -/
def putD (d k x : D) : Option D := match d with
  | .dk ks xs => match keyD k with
    | some k => if ks.length < 100000 then some (if memZ k ks = true then .dk ks (setZ k x ks xs) else .dk (ks ++ [k]) (xs ++ [x])) else none
    | none => none
  | .dt ks xs => match k with
    | .tup ds => match keysD ds with
      | some k => if ks.length < 100000 then some (if memZ k ks = true then .dt ks (setZ k x ks xs) else .dt (ks ++ [k]) (xs ++ [x])) else none
      | none => none
    | _ => none
  | _ => none
/-- what stands at k; no key, none -/
def getD' (d k : D) : Option (Option D) := match d with
  | .dk ks xs => match keyD k with
    | some k => some (getZ k ks xs)
    | none => none
  | .dt ks xs => match k with
    | .tup ds => match keysD ds with
      | some k => some (getZ k ks xs)
      | none => none
    | _ => none
  | _ => none
/-- o is how d lies -/
def DHo (K : PySem.W.Frag) (P : Hp) : D → HO → Prop
  | .dk ks ds, o => ∃ vs, o = .dK (ks.zip vs) ∧ vs.length = ks.length ∧ RpL K P ds vs
  | .dt ks ds, o => ∃ vs, o = .dT (ks.zip vs) ∧ vs.length = ks.length ∧ RpL K P ds vs
  | _, _ => False
theorem DHo.mono {K : PySem.W.Frag} {P P' : Hp} {d : D} {o : HO} (e : Sub P P') (h : DHo K P d o) : DHo K P' d o := by
  cases d with
  | dk ks ds => obtain ⟨vs, h1, h2, h3⟩ := h; exact ⟨vs, h1, h2, RpL.mono e ds vs h3⟩
  | dt ks ds => obtain ⟨vs, h1, h2, h3⟩ := h; exact ⟨vs, h1, h2, RpL.mono e ds vs h3⟩
  | _ => exact h.elim
theorem DHo.at {K : PySem.W.Frag} {P H : Hp} {p : Addr} {d : D} {o : HO} (h : DHo K P d o) (e : H p = some o) : DctAt K P H p d := by
  cases d with
  | dk ks ds => obtain ⟨vs, rfl, h2, h3⟩ := h; exact ⟨vs, e, h2, h3⟩
  | dt ks ds => obtain ⟨vs, rfl, h2, h3⟩ := h; exact ⟨vs, e, h2, h3⟩
  | _ => exact h.elim
theorem DHo.of {K : PySem.W.Frag} {P H : Hp} {p : Addr} {d : D} (h : DctAt K P H p d) : ∃ o, H p = some o ∧ DHo K P d o := by
  cases d with
  | dk ks ds => obtain ⟨vs, h1, h2, h3⟩ := h; exact ⟨_, h1, vs, rfl, h2, h3⟩
  | dt ks ds => obtain ⟨vs, h1, h2, h3⟩ := h; exact ⟨_, h1, vs, rfl, h2, h3⟩
  | _ => exact h.elim
/-- a dict as its object's own words -/
theorem DHo.rp {K : PySem.W.Frag} {P P' : Hp} {p : Addr} {d : D} {o : HO} {ob : Obj} (h : DHo K P d o) (e : P' p = some (.frz ob o)) (s : Sub P P') : Rp K P' d (.ref p) := by
  cases d with
  | dk ks ds => obtain ⟨vs, rfl, h2, h3⟩ := h; exact ⟨p, vs, ob, rfl, e, h2, RpL.mono s ds vs h3⟩
  | dt ks ds => obtain ⟨vs, rfl, h2, h3⟩ := h; exact ⟨p, vs, ob, rfl, e, h2, RpL.mono s ds vs h3⟩
  | _ => exact h.elim
/-- an object is put aside -/
def keepO (F : Fr) (p : Addr) (o : Ko) : Fr := { F with Kp := (p, o) :: F.Kp }
abbrev kK (l : List (Key × V)) : Ko := ⟨.dK l, fun _ z => by cases z⟩
abbrev kT (l : List (List Key × V)) : Ko := ⟨.dT l, fun _ z => by cases z⟩
section
variable {K : PySem.W.Frag} {F : Fr} {P H : Hp} {σ : L2.St} {sv : Sv} {p : Addr} {o o' : Ko}
theorem Rel.keepOto (r : Rel K (keepO F p o) P H σ sv) (hk : ∀ q us, (q, us) ∈ F.Kp → q ≠ p) : Rel K (keepO F p o') P (upd H p o'.1) σ sv := by
  obtain ⟨h1, h2, h3, h4⟩ := r.kept p o List.mem_cons_self
  have nb : ∀ a, F.B0 a → a ≠ p := fun a hb e => by
    obtain ⟨_, ⟨u, hu⟩, _⟩ := r.bags a hb
    rw [e, h3] at hu
    cases hu
  refine ⟨r.len, r.lim, fun a u e => ?_, r.p0, r.new, fun a u e nb ns => ?_, fun a hs => ?_, fun a hb => ?_, fun j s u e1 e2 => ?_, r.apart, fun q us hq => ?_⟩
  · have ne : a ≠ p := fun z => by
      rw [z, h2] at e
      cases e
    rw [upd_ne ne]
    exact r.sub a u e
  · have ne : a ≠ p := fun z => by
      have e2 : F.H0 p = some u := by
        rw [← z]
        exact e
      rw [show F.H0 p = none from h3] at e2
      cases e2
    rw [upd_ne ne]
    exact r.ext a u e nb ns
  · obtain ⟨z1, ⟨u, hu⟩, C, dx, fs, z3⟩ := r.selfs a hs
    have ne : a ≠ p := fun z => by
      have e2 : F.H0 p = some u := by
        rw [← z]
        exact hu
      rw [show F.H0 p = none from h3] at e2
      cases e2
    exact ⟨z1, ⟨u, hu⟩, C, dx, fs, by rw [upd_ne ne]; exact z3⟩
  · obtain ⟨z1, z2, x, y, z, z3, z4⟩ := r.bags a hb
    exact ⟨z1, z2, x, y, z, by rw [upd_ne (nb a hb)]; exact z3, z4⟩
  · have q := r.sl j s u e1 e2
    have ne : ∀ {q' : Addr}, s.addr = true → u = some (.ref q') → q' ≠ p := fun {q'} as eu z => by
      subst z eu
      exact h4 j _ e1 as e2
    cases s with
    | un => trivial
    | dat d => exact q
    | own es =>
      obtain ⟨q', xs, e, z1, z⟩ := q
      exact ⟨q', xs, e, by rw [upd_ne (ne rfl e)]; exact z1, z⟩
    | bag n =>
      obtain ⟨q', e, z1, z2, x, y, z, z3, z4⟩ := q
      exact ⟨q', e, z1, z2, x, y, z, by rw [upd_ne (ne rfl e)]; exact z3, z4⟩
    | slf C ns es =>
      obtain ⟨q', dx, xs, e, z1, z⟩ := q
      exact ⟨q', dx, xs, e, by rw [upd_ne (ne rfl e)]; exact z1, z⟩
    | exc x => exact q
    | dct d =>
      obtain ⟨q', e, z1, z2, z⟩ := q
      exact ⟨q', e, z1, z2, z.mono (Sub.refl P) fun o ho => by rw [upd_ne (ne rfl e)]; exact ho⟩
  · rcases List.mem_cons.mp hq with z | z
    · cases z
      exact ⟨upd_same, h2, h3, h4⟩
    · obtain ⟨z1, z2⟩ := r.kept q us (List.mem_cons_of_mem _ z)
      exact ⟨by rw [upd_ne (hk q us z)]; exact z1, z2⟩
theorem Rel.backO (r : Rel K (keepO F p o) P H σ sv) : Rel K F P H σ sv :=
  ⟨r.len, r.lim, r.sub, r.p0, r.new, r.ext, r.selfs, r.bags, fun i s o e1 e2 => by
    have q := r.sl i s o e1 e2
    cases s <;> exact q, r.apart, fun q ws hq => r.kept q ws (List.mem_cons_of_mem _ hq)⟩
/-- a new object is put aside -/
theorem Rel.asideO (r : Rel K F P H σ sv) (h : H p = none) : Rel K (keepO F p o) P (upd H p o.1) σ sv := by
  have r' := r.layH (o := o.1) h
  refine ⟨r'.len, r'.lim, r'.sub, r'.p0, r'.new, r'.ext, r'.selfs, r'.bags, fun i s o e1 e2 => by
    have q := r'.sl i s o e1 e2
    cases s <;> exact q, r'.apart, fun q ws hq => ?_⟩
  rcases List.mem_cons.mp hq with z | z
  · cases z
    exact ⟨upd_same, r.free h, r.free0 h, fun i s e1 a1 => r.slotNe h i s e1 a1⟩
  · exact r'.kept q ws z
end
/-- d lies put aside at p -/
def KeptD (K : PySem.W.Frag) (F : Fr) (P H : Hp) (σ : L2.St) (sv : Sv) (p : Addr) (d : D) : Prop := ∃ o : Ko, Rel K (keepO F p o) P H σ sv ∧ DHo K P d o.1
/-! ### comprehensions -/
structure Dcl where
  f : Dl
  dg : Dg
  dt : Dt
  vs : List Nat
abbrev Drs := Sv → D → (D → Sv → Prop) → Prop
def sinkD (fk fv : De) : Drs := fun sv dd Q => fk sv (fun k sv1 => fv sv1 (fun x sv2 => ∃ dd', putD dd k x = some dd' ∧ Q dd' sv2) fun _ _ => False) fun _ _ => False
def goD (c : Dcl) (rest : Drs) : List D → Drs
  | [], sv, dd, Q => Q dd sv
  | d :: ds, sv, dd, Q => c.dg d sv fun sv1 => c.dt sv1 (fun b sv2 => if b = true then rest sv2 dd fun dd' sv3 => goD c rest ds (unAt sv3 c.vs) dd' Q else goD c rest ds (unAt sv2 c.vs) dd Q) fun _ _ => False
def clD (sink : Drs) : List Dcl → Drs
  | [] => sink
  | c :: cs => fun sv dd Q => c.f sv (fun ds sv1 => goD c (clD sink cs) ds (unAt sv1 c.vs) dd Q) fun _ _ => False
inductive SndCl (K : PySem.W.Frag) (z : Ez) : List Cl → List Dcl → Prop
  | nil : SndCl K z [] []
  | cons {c : Cl} {d : Dcl} {cs : List Cl} {ds : List Dcl} (h1 : SndI K (wNo z) c.wi d.f) (h2 : SndGw c.vs K c.g d.dg) (h3 : SndT K (wNo z) c.tt d.dt) (hv : c.vs = d.vs) (hs : ∀ i ∈ hvs cs, i ∈ c.vs) (r : SndCl K z cs ds) : SndCl K z (c :: cs) (d :: ds)
section
variable {K : PySem.W.Frag} {z : Ez} {tk tv : TE} {fk fv : De} {D0 : Addr}
theorem snd_sink (h1 : SndE K (wNo z) tk fk) (h2 : SndE K (wNo z) tv fv) {F : Fr} {P H : Hp} {σ : L2.St} {sv : Sv} {dd : D} {Q : D → Sv → Prop} {Nx : Hp → Prop} (hk : ∀ q us, (q, us) ∈ F.Kp → q ≠ D0) (r : KeptD K (F.at z) P H σ sv D0 dd) (q : sinkD fk fv sv dd Q)
    (kk : ∀ P' H' sv' dd', KeptD K (F.at z) P' H' σ sv' D0 dd' → Sub P P' → Q dd' sv' → Nx H') : tSink D0 tk tv σ H Nx := by
  obtain ⟨o, r, ho⟩ := r
  refine h1 (keepO F D0 o) P H σ sv _ _ _ r (fun y H1 P1 kd sv1 r1 s1 ry q1 => ?_) (fun _ _ _ _ _ _ _ _ z => z) q
  refine h2 (keepO F D0 o) P1 H1 σ sv1 _ _ _ r1 (fun v H2 P2 x sv2 r2 s2 rv q2 => ?_) (fun _ _ _ _ _ _ _ _ z => z) q1
  obtain ⟨dd', e, q2⟩ := q2
  have ho2 := ho.mono (s1.trans s2)
  have ry2 := Rp.mono s2 kd y ry
  obtain ⟨k1, k2, k3, k4⟩ := r2.kept D0 o List.mem_cons_self
  have up : ∀ o' : Ko, Rel K (keepO (F.at z) D0 o') P2 (upd H2 D0 o'.1) σ sv2 := fun o' => Rel.keepOto (F := F.at z) r2 hk
  obtain ⟨o, hont⟩ := o
  dsimp only at k1 ho2
  unfold putD at e
  split at e
  · rename_i ks xs
    obtain ⟨vs, rfl, l1, rl⟩ := ho2
    split at e
    · rename_i k ek
      split at e
      · rename_i lt
        obtain rfl := keyD_v ek ry2
        refine .inl ⟨ks.zip vs, k, rfl, k1, ?_, ?_⟩
        · rw [zip_len l1]; exact Nat.lt_of_lt_of_le lt (by decide)
        · rw [putK_zip l1]
          by_cases m : memZ k ks = true
          · rw [if_pos m] at e ⊢
            cases e
            exact kk _ _ _ (.dk ks (setZ k x ks xs)) ⟨kK (ks.zip (setZ k v ks vs)), up _, _, rfl, by rw [setZ_len]; exact l1, setZ_rel rv rl⟩ (s1.trans s2) q2
          · rw [if_neg m] at e ⊢
            cases e
            exact kk _ _ _ (.dk (ks ++ [k]) (xs ++ [x])) ⟨kK ((ks ++ [k]).zip (vs ++ [v])), up _, _, rfl, by simp [l1], rl.append ⟨v, [], rfl, rv, rfl⟩⟩ (s1.trans s2) q2
      · cases e
    · cases e
  · rename_i ks xs
    obtain ⟨vs, rfl, l1, rl⟩ := ho2
    split at e
    · rename_i ds
      split at e
      · rename_i k ek
        split at e
        · rename_i lt
          obtain ⟨b, us, rfl, eb, ru⟩ := ry2
          obtain rfl := keysD_v ek ru
          refine .inr ⟨ks.zip vs, k, b, rfl, r2.sub _ _ eb, k1, ?_, ?_⟩
          · rw [zip_len l1]; exact Nat.lt_of_lt_of_le lt (by decide)
          · rw [putK_zip l1]
            by_cases m : memZ k ks = true
            · rw [if_pos m] at e ⊢
              cases e
              exact kk _ _ _ (.dt ks (setZ k x ks xs)) ⟨kT (ks.zip (setZ k v ks vs)), up _, _, rfl, by rw [setZ_len]; exact l1, setZ_rel rv rl⟩ (s1.trans s2) q2
            · rw [if_neg m] at e ⊢
              cases e
              exact kk _ _ _ (.dt (ks ++ [k]) (xs ++ [x])) ⟨kT ((ks ++ [k]).zip (vs ++ [v])), up _, _, rfl, by simp [l1], rl.append ⟨v, [], rfl, rv, rfl⟩⟩ (s1.trans s2) q2
        · cases e
      · cases e
    · cases e
  · cases e
theorem snd_turn (h1 : SndE K (wNo z) tk fk) (h2 : SndE K (wNo z) tv fv) : ∀ (cs : List Cl) (dcs : List Dcl), SndCl K z cs dcs → ∀ (F : Fr) (P H : Hp) (σ : L2.St) (sv : Sv) (dd : D) (Q : D → Sv → Prop) (Nx : Hp → Prop), (∀ q us, (q, us) ∈ F.Kp → q ≠ D0) → KeptD K (F.at z) P H σ sv D0 dd → clD (sinkD fk fv) dcs sv dd Q →
    (∀ P' H' sv' dd', KeptD K (F.at z) P' H' (wipe σ (hvs cs)) sv' D0 dd' → Sub P P' → Q dd' sv' → Nx H') → tTurn (tSink D0 tk tv) cs σ H Nx
  | [], dcs, hc, F, P, H, σ, sv, dd, Q, Nx, hk, r, q, kk => by
    cases hc
    exact snd_sink h1 h2 hk r q kk
  | c :: cs, dcs0, hc, F, P, H, σ, sv, dd, Q, Nx, hk, ⟨o, r, ho⟩, q, kk => by
    cases hc with
    | @cons _ dc _ dcs s1 s2 s3 hv hs rc =>
    refine s1 (keepO F D0 o) P H σ sv _ _ _ r (fun J H1 P1 ds sv1 r1 t1 w q1 => ?_) (fun _ _ _ _ _ _ _ _ z => z) q
    have rw1 := r1.wipe dc.vs
    refine ⟨fun i m H2 => m = ds.length - i ∧ i ≤ ds.length ∧ ∃ P2 sv2 dd2, KeptD K (F.at z) P2 H2 (wipe σ c.vs) sv2 D0 dd2 ∧ Sub P1 P2 ∧ goD dc (clD (sinkD fk fv) dcs) (ds.drop i) sv2 dd2 Q,
      ⟨_, rfl, Nat.zero_le _, P1, _, dd, ⟨o, by rw [hv]; exact rw1, ho.mono t1⟩, Sub.refl P1, q1⟩, ?_⟩
    rintro i m H2 ⟨rfl, hi, P2, sv2, dd2, ⟨o2, r2, ho2⟩, u2, q2⟩
    by_cases hlt : i < ds.length
    · obtain ⟨g1, g2⟩ := w.go i H2 P2 u2 r2.sub hlt
      refine .inr ⟨g1, fun H' => ∃ P3 sv3 dd3, KeptD K (F.at z) P3 H' (wipe σ c.vs) sv3 D0 dd3 ∧ Sub P1 P3 ∧ goD dc (clD (sinkD fk fv) dcs) (ds.drop (i + 1)) sv3 dd3 Q, fun H' y => ⟨ds.length - (i + 1), by omega, rfl, hlt, y⟩, fun x H' y => ?_⟩
      obtain ⟨P2', n1, n2, n3, n4, d, ed, rx⟩ := g2 x H' y
      replace r2 := Rel.grow r2 n1 n2 n3 n4
      replace u2 := u2.trans n1
      replace ho2 := ho2.mono n1
      have el : ds.drop i = d :: ds.drop (i + 1) := by
        rw [List.drop_eq_getElem_cons hlt]
        have : ds[i] = d := by
          have := List.getElem?_eq_getElem hlt
          rw [this] at ed
          exact Option.some.inj ed
        rw [this]
      rw [el] at q2
      refine s2 _ P2' _ _ sv2 d x _ _ r2 rx (fun σ3 sv3 e3 r3 q3 => ⟨e3.trans wipe_wipe |>.trans wipe_wipe.symm |>.trans (by rw [wipe_wipe]), ?_⟩) q2
      have e3' : wipe σ3 c.vs = wipe σ c.vs := e3.trans wipe_wipe
      refine s3 (keepO F D0 o2) P2' _ σ3 sv3 _ _ _ r3 (fun b H4 P4 sv4 r4 t4 q4 => ?_) (fun _ _ _ _ _ _ _ _ z => z) q3
      cases b with
      | true =>
        rw [if_pos rfl] at q4 ⊢
        refine snd_turn h1 h2 cs dcs rc F P4 H4 σ3 sv4 dd2 _ _ hk ⟨o2, r4, ho2.mono t4⟩ q4 fun P5 H5 sv5 dd5 ⟨o5, r5, ho5⟩ t5 q5 => ?_
        have r6 := r5.wipe dc.vs
        rw [← hv, wipe_sub hs, e3'] at r6
        exact ⟨P5, _, dd5, ⟨o5, r6, ho5⟩, u2.trans (t4.trans t5), by rw [hv]; exact q5⟩
      | false =>
        rw [if_neg (by decide)] at q4 ⊢
        have r6 := r4.wipe dc.vs
        rw [← hv, e3'] at r6
        exact ⟨P4, _, dd2, ⟨o2, r6, ho2.mono t4⟩, u2.trans t4, by rw [hv]; exact q4⟩
    · have e : i = ds.length := by omega
      subst e
      rw [List.drop_length] at q2
      exact .inl ⟨w.stop _ H2 P2 u2 r2.sub (Nat.le_refl _), kk P2 H2 sv2 dd2 ⟨o2, r2, ho2⟩ (t1.trans u2) q2⟩
end
end Pf
end
section
set_option autoImplicit false
set_option Elab.async false
set_option linter.all false
set_option autoImplicit false
set_option maxRecDepth 100000
set_option maxHeartbeats 4000000
/-! Pf3: new dicts, dicts of one's own, dicts as data. -/
namespace Pf
open PySem PySem.Spec PyProof.Rows L2 Pd
/-- a dict is locked for good -/
theorem inv_frz {X : Cx} {pins : List (Addr × Obj)} {σ : L2.St} {H : Hp} {s : Shared} {a : Addr} {u : HO} (I : Inv X pins σ H s) (e : H a = some u) (hu : (∃ kvs, u = .dK kvs) ∨ ∃ kvs, u = .dT kvs) : ∃ o, Inv X pins σ (upd H a (.frz o u)) s := by
  have nt : ∀ xs, u ≠ .tup xs := fun xs z => by rcases hu with ⟨_, rfl⟩ | ⟨_, rfl⟩ <;> cases z
  have nf : ∀ o v, u ≠ .frz o v := fun o v z => by rcases hu with ⟨_, rfl⟩ | ⟨_, rfl⟩ <;> cases z
  have nb : ∀ ps, u ≠ .tbl ps := fun ps z => by rcases hu with ⟨_, rfl⟩ | ⟨_, rfl⟩ <;> cases z
  have no : ∀ y, u ≠ .own y := fun y z => by rcases hu with ⟨_, rfl⟩ | ⟨_, rfl⟩ <;> cases z
  have hk := I.hok a u e
  have ho : ∃ o, s.heap.get? a = some o := by
    rcases hu with ⟨_, rfl⟩ | ⟨_, rfl⟩
    · obtain ⟨_, _, _, _, o, _, _, q, _⟩ := hk; exact ⟨o, q⟩
    · obtain ⟨_, _, _, _, o, _, _, q, _⟩ := hk; exact ⟨o, q⟩
  obtain ⟨o, ho⟩ := ho
  have ne : ∀ {b : Addr} {v : HO}, H b = some v → v ≠ u → b ≠ a := fun {b v} q d z => by
    rw [z, e] at q
    exact d (Option.some.inj q).symm
  have st : ∀ b v, H b = some v → ObjOk X.prog X.w (upd H a (.frz o u)) s.heap b v := fun b v q => (I.hok b v q).stay (fun c w _ r => r) (fun c r => by rw [upd_ne (ne r fun z => no _ z.symm)]; exact r) fun c xs r => by rw [upd_ne (ne r fun z => nt _ z.symm)]; exact r
  refine ⟨o, I.step (g' := s.gens) (t' := s.toks) (d' := s.drawn) (h' := s.heap) (ch := []) (fun _ z => nomatch z) (fun b ob _ _ _ q _ => q) (fun b ob _ _ _ q _ => ⟨ob.slots, q⟩) (fun b ob _ q n => ?_) (fun b ob _ q => ⟨ob, q⟩) (fun b xs q => ?_) (fun b ob v q => ?_) (fun b ps q => ⟨#[], ?_⟩) (fun m q => q) (fun b v q => ?_) I.bare⟩
  · rw [upd_ne fun z => by rw [z, e] at n; cases n]
    exact n
  · rw [upd_ne (ne q fun z => nt _ z.symm)]
    exact q
  · rw [upd_ne (ne q fun z => nf _ _ z.symm)]
    exact q
  · rw [upd_ne (ne q fun z => nb _ z.symm), q]
    simp
  · by_cases hb : b = a
    · rw [hb, upd_same] at q
      cases q
      rw [hb]
      exact ⟨ho, st a u e⟩
    · rw [upd_ne hb] at q
      exact st b v q
/-- a dict that is met is locked -/
def tFrz (t : TE) : TE := fun σ H Q => t σ H fun v H1 => ∃ a u, v = .ref a ∧ H1 a = some u ∧ ((∃ kvs, u = .dK kvs) ∨ ∃ kvs, u = .dT kvs) ∧ ∀ o, Q v (upd H1 a (.frz o u))
theorem pe_frz {X : Cx} {e : Expr} {t : TE} (h : PE X e t) : PE X e (tFrz t) := ⟨fun pins s σ H Q I q => wpAny_mono (h.run pins s σ H _ I q) (fun u s1 ⟨v, H1, I1, rv, a, ho, ea, e1, hk, q1⟩ => by
  obtain ⟨o, I2⟩ := inv_frz I1 e1 hk
  exact ⟨v, _, I2, rv, q1 o⟩) fun _ _ z => z⟩
/-! ### new dicts -/
def NewD (K : PySem.W.Frag) (F : Fr) (P H : Hp) (σ : L2.St) (sv : Sv) (p : Addr) (d : D) : Prop :=
  ∃ o, H p = some o ∧ DHo K P d o ∧ P p = none ∧ F.H0 p = none ∧ (∀ (i : Nat) (s : Sl), sv[i]? = some s → s.addr = true → σ[i]? ≠ some (some (.ref p))) ∧ ∀ q us, (q, us) ∈ F.Kp → q ≠ p
def SndN (K : PySem.W.Frag) (W : Wz) (t : TE) (f : De) : Prop := ∀ (F : Fr) (P H : Hp) (σ : L2.St) (sv : Sv) (Q : D → Sv → Prop) (E : DX) (R : VK), Rel K (F.at W.z) P H σ sv →
  (∀ p H' P' d sv', Rel K (F.at W.z) P' H' σ sv' → Sub P P' → NewD K (F.at W.z) P' H' σ sv' p d → Q d sv' → R (.ref p) H') →
  (∀ cls dd H' P' x sv', Rel K (F.at W.z) P' H' σ sv' → XdRel K P' H' x cls dd → E x sv' → W cls dd σ H') → f sv Q E → t σ H R
/-- an expression that gives a new dict -/
def PDN (X : Cx) (W : Wz) (e : Expr) (f : De) : Prop := ∃ t, PE X e t ∧ SndN X.K W t f
theorem DHo.kind {K : PySem.W.Frag} {P : Hp} {d : D} {o : HO} (h : DHo K P d o) : (∃ kvs, o = .dK kvs) ∨ ∃ kvs, o = .dT kvs := by
  cases d with
  | dk ks ds => obtain ⟨vs, rfl, _⟩ := h; exact .inl ⟨_, rfl⟩
  | dt ks ds => obtain ⟨vs, rfl, _⟩ := h; exact .inr ⟨_, rfl⟩
  | _ => exact h.elim
section
variable {K : PySem.W.Frag} {F : Fr} {P H : Hp} {σ : L2.St} {sv : Sv} {p : Addr} {d : D} {o u : HO}
/-- an object that nobody knows is told anew, as data -/
theorem Rel.tell (r : Rel K F P H σ sv) (h1 : H p = some o) (h2 : P p = none) (h3 : F.H0 p = none) (h4 : ∀ (i : Nat) (s : Sl), sv[i]? = some s → s.addr = true → σ[i]? ≠ some (some (.ref p))) (h5 : ∀ q us, (q, us) ∈ F.Kp → q ≠ p) : Rel K F (upd P p u) (upd H p u) σ sv := by
  have up : Sub P (upd P p u) := sub_upd h2
  have ke : ∀ a v, a ≠ p → H a = some v → upd H p u a = some v := fun a v n q => by rw [upd_ne n]; exact q
  refine ⟨r.len, r.lim, fun a v q => ?_, r.p0.trans up, fun a v q => ?_, fun a v q nb ns => ?_, fun a hs => ?_, fun a hb => ?_, fun i s o' e1 e2 => ?_, r.apart, fun q us hq => ?_⟩
  · by_cases ha : a = p
    · rw [ha, upd_same] at q ⊢; exact q
    · rw [upd_ne ha] at q; exact ke a v ha (r.sub a v q)
  · by_cases ha : a = p
    · rw [ha]; exact .inr (.inl h3)
    · rw [upd_ne ha] at q; exact r.new a v q
  · exact ke a v (fun z => by rw [z, h3] at q; cases q) (r.ext a v q nb ns)
  · obtain ⟨z1, ⟨v, hv⟩, C, dx, fs, z3⟩ := r.selfs a hs
    exact ⟨z1, ⟨v, hv⟩, C, dx, fs, ke a _ (fun z => by rw [z, h3] at hv; cases hv) z3⟩
  · obtain ⟨z1, ⟨v, hv⟩, x, y, z, z3, z4⟩ := r.bags a hb
    exact ⟨z1, ⟨v, hv⟩, x, y, z, ke a _ (fun z => by rw [z, h3] at hv; cases hv) z3, z4⟩
  · have q := r.sl i s o' e1 e2
    have ne : ∀ {q' : Addr}, s.addr = true → o' = some (.ref q') → q' ≠ p := fun {q'} as eu z => by
      subst z eu
      exact h4 i _ e1 as e2
    have np : ∀ {q' : Addr}, q' ≠ p → P q' = none → upd P p u q' = none := fun n z => by rw [upd_ne n]; exact z
    cases s with
    | un => trivial
    | dat d => obtain ⟨v, e, rv⟩ := q; exact ⟨v, e, Rp.mono up d v rv⟩
    | own es =>
      obtain ⟨q', xs, e, z1, z2, z3, z4⟩ := q
      exact ⟨q', xs, e, ke _ _ (ne rfl e) z1, np (ne rfl e) z2, z3, RpL.mono up _ _ z4⟩
    | bag n =>
      obtain ⟨q', e, z1, z2, x, y, z, z3, z4⟩ := q
      exact ⟨q', e, np (ne rfl e) z1, z2, x, y, z, ke _ _ (ne rfl e) z3, z4⟩
    | slf C ns es =>
      obtain ⟨q', dx, xs, e, z1, z2, z3, z4, z5⟩ := q
      exact ⟨q', dx, xs, e, ke _ _ (ne rfl e) z1, z2, np (ne rfl e) z3, z4, RpL.mono up _ _ z5⟩
    | exc x =>
      obtain ⟨a, cls, dd, e1, e2, z⟩ := q
      exact ⟨a, cls, dd, e1, e2, z.mono up⟩
    | dct d =>
      obtain ⟨q', e, z1, z2, z⟩ := q
      exact ⟨q', e, np (ne rfl e) z1, z2, z.mono up fun o ho => ke _ _ (ne rfl e) ho⟩
  · obtain ⟨z1, z2, z3, z4⟩ := r.kept q us hq
    have n := h5 q us hq
    exact ⟨ke _ _ n z1, by rw [upd_ne n]; exact z2, z3, z4⟩
end
theorem snd_N {K : PySem.W.Frag} {W : Wz} {t : TE} {f : De} (h : SndN K W t f) : SndE K W (tFrz t) f := fun F P H σ sv Q E R r k kx q =>
  h F P H σ sv Q E _ r (fun p H' P' d sv' r' s' n q' => by
    obtain ⟨o, h1, ho, h2, h3, h4, h5⟩ := n
    refine ⟨p, o, rfl, h1, ho.kind, fun ob => ?_⟩
    have up : Sub P' (upd P' p (.frz ob o)) := sub_upd h2
    exact k (.ref p) _ _ d sv' (Rel.tell r' h1 h2 h3 h4 h5) (s'.trans up) (ho.rp upd_same up) q') kx q
section
variable {X : Cx} {W : Wz} {pos : Pos}
/-- a new dict as data -/
theorem pd_N {e : Expr} {f : De} (h : PDN X W e f) : PD X W e f := let ⟨t, p, s⟩ := h; ⟨_, pe_frz p, snd_N s⟩
theorem PDN.imp {e : Expr} {f f' : De} (h : PDN X W e f) (i : ∀ sv Q E, f' sv Q E → f sv Q E) : PDN X W e f' := let ⟨t, p, s⟩ := h; ⟨t, p, fun F P H σ sv Q E R r k kx q => s F P H σ sv Q E R r k kx (i _ _ _ q)⟩
/-! {} -/
theorem newD0 {K : PySem.W.Frag} {F : Fr} {P H : Hp} {σ : L2.St} {sv : Sv} {p : Addr} {d : D} {o : HO} (r : Rel K F P H σ sv) (h : H p = none) (ho : DHo K P d o) : NewD K F P (upd H p o) σ sv p d :=
  ⟨o, upd_same, ho, r.free h, r.free0 h, fun i s e1 a1 => r.slotNe h i s e1 a1, fun q us hq z => by
    obtain ⟨h1, _⟩ := r.kept q us hq
    rw [z, h] at h1
    cases h1⟩
theorem pdn_newK : PDN X W (.Dict [] [] pos) (dC (.dk [] [])) := ⟨_, pe_dnewK, fun F P H σ sv Q E R r k kx q p hp => k p _ P _ sv (r.layH hp) (Sub.refl P) (newD0 (d := .dk [] []) r hp ⟨[], rfl, rfl, rfl⟩) q⟩
theorem pdn_newT : PDN X W (.Dict [] [] pos) (dC (.dt [] [])) := ⟨_, pe_dnewT, fun F P H σ sv Q E R r k kx q p hp => k p _ P _ sv (r.layH hp) (Sub.refl P) (newD0 (d := .dt [] []) r hp ⟨[], rfl, rfl, rfl⟩) q⟩
/-! {k: v for ..} -/
@[simp] def dvs : List Dcl → List Nat
  | [] => []
  | d :: _ => d.vs
/-- clauses behind the first -/
inductive PDCs (X : Cx) (scope : Scope) (z : Ez) : List Comprehension → List Dcl → Prop
  | nil : PDCs X scope z [] []
  | cons {tg iter : Expr} {ifs : List Expr} {gs : List Comprehension} {f : Dl} {dg : Dg} {dt : Dt} {vs : List Nat} {ds : List Dcl} (hi : ∀ i : BI, PDI (Cx.b X scope i) (wNo z) tg iter f) (hg : ∀ i : BI, PDGw (Cx.b X scope i) vs tg dg) (ht : ∀ i : BI, PDTs (Cx.b X scope i) (wNo z) ifs dt)
      (hs : ∀ env x, foldedSetIterable iter env x = pure x) (hv : ∀ i ∈ dvs ds, i ∈ vs) (r : PDCs X scope z gs ds) : PDCs X scope z (⟨tg, iter, ifs, 0⟩ :: gs) (⟨f, dg, dt, vs⟩ :: ds)
theorem PDCs.cls {X : Cx} {scope : Scope} {z : Ez} {gs : List Comprehension} {ds : List Dcl} (h : PDCs X scope z gs ds) : ∃ cs, (∀ i : BI, ClR (Cx.b X scope i) gs cs) ∧ SndCl X.K z cs ds ∧ hvs cs = dvs ds := by
  induction h with
  | nil => exact ⟨[], fun i => .nil, .nil, rfl⟩
  | cons hi hg ht hs hv r ih =>
    obtain ⟨cs, h1, h2, h3⟩ := ih
    obtain ⟨wi, p1, s1⟩ := fam_i (X := fun i => Cx.b X scope i) (fun _ => rfl) hi
    obtain ⟨g, p2, s2⟩ := fam_gw (X := fun i => Cx.b X scope i) (fun _ => rfl) hg
    obtain ⟨tt, p3, s3⟩ := fam_ts (X := fun i => Cx.b X scope i) (fun _ => rfl) ht
    exact ⟨⟨wi, g, tt, _⟩ :: cs, fun i => .cons (p1 i) (p2 i) (p3 i) (fun x => hs _ x) (by rw [h3]; exact hv) (h1 i), .cons s1 s2 s3 rfl (by rw [h3]; exact hv) h2, rfl⟩
/-- the first clause's source is evaluated outside -/
def dDcs (f : Dl) (c : Dcl) (cs : List Dcl) (fk fv : De) (d0 : D) : De := fun sv Q E => f sv (fun ds sv1 => goD c (clD (sinkD fk fv) cs) ds (unAt sv1 c.vs) d0 Q) E
theorem snd_dcs {K : PySem.W.Frag} {W : Wz} {c : Cl} {cs : List Cl} {dc : Dcl} {dcs : List Dcl} {tk tv : TE} {fk fv : De} {d0 : D} (hd : d0 = .dk [] [] ∨ d0 = .dt [] []) (h0 : SndI K W c.wi dc.f) (hg : SndGw c.vs K c.g dc.dg) (ht : SndT K (wNo W.z) c.tt dc.dt) (hv : c.vs = dc.vs) (hs : ∀ i ∈ hvs cs, i ∈ c.vs) (hc : SndCl K W.z cs dcs)
    (h1 : SndE K (wNo W.z) tk fk) (h2 : SndE K (wNo W.z) tv fv) : SndN K W (tDcs c cs tk tv) (dDcs dc.f dc dcs fk fv d0) := fun F P H σ sv Q E R r k kx q =>
  h0 F P H σ sv _ E _ r (fun J H1 P1 ds sv1 r1 t1 w q1 D0 hD => by
    have main : ∀ o0 : Ko, DHo K P1 d0 o0.1 → loopW c J (tTurn (tSink D0 tk tv) cs) σ (upd H1 D0 o0.1) (R (.ref D0)) := fun o0 ho0 => by
      have n0 := newD0 (p := D0) r1 hD ho0
      have hk : ∀ q us, (q, us) ∈ F.Kp → q ≠ D0 := let ⟨_, _, _, _, _, _, z⟩ := n0; z
      have ra : Rel K (keepO (F.at W.z) D0 o0) P1 (upd H1 D0 o0.1) σ sv1 := Rel.asideO r1 hD
      have rw1 := ra.wipe dc.vs
      refine ⟨fun i m H2 => m = ds.length - i ∧ i ≤ ds.length ∧ ∃ P2 sv2 dd2, KeptD K (F.at W.z) P2 H2 (wipe σ c.vs) sv2 D0 dd2 ∧ Sub P1 P2 ∧ (∀ (i : Nat) (s : Sl), i ∈ c.vs → sv2[i]? = some s → s = .un) ∧ goD dc (clD (sinkD fk fv) dcs) (ds.drop i) sv2 dd2 Q,
        ⟨_, rfl, Nat.zero_le _, P1, _, d0, ⟨o0, by rw [hv]; exact rw1, ho0⟩, Sub.refl P1, fun i s hi e => by rw [hv] at hi; exact unAt_un hi e, q1⟩, ?_⟩
      rintro i m H2 ⟨rfl, hi, P2, sv2, dd2, ⟨o2, r2, ho2⟩, u2, un2, q2⟩
      by_cases hlt : i < ds.length
      · obtain ⟨g1, g2⟩ := w.go i H2 P2 u2 r2.sub hlt
        refine .inr ⟨g1, fun H' => ∃ P3 sv3 dd3, KeptD K (F.at W.z) P3 H' (wipe σ c.vs) sv3 D0 dd3 ∧ Sub P1 P3 ∧ (∀ (i : Nat) (s : Sl), i ∈ c.vs → sv3[i]? = some s → s = .un) ∧ goD dc (clD (sinkD fk fv) dcs) (ds.drop (i + 1)) sv3 dd3 Q, fun H' y => ⟨ds.length - (i + 1), by omega, rfl, hlt, y⟩, fun x H' y => ?_⟩
        obtain ⟨P2', n1, n2, n3, n4, d, ed, rx⟩ := g2 x H' y
        replace r2 := Rel.grow r2 n1 n2 n3 n4
        replace u2 := u2.trans n1
        replace ho2 := ho2.mono n1
        have el : ds.drop i = d :: ds.drop (i + 1) := by
          rw [List.drop_eq_getElem_cons hlt]
          have : ds[i] = d := by
            have := List.getElem?_eq_getElem hlt
            rw [this] at ed
            exact Option.some.inj ed
          rw [this]
        rw [el] at q2
        refine hg _ P2' _ _ sv2 d x _ _ r2 rx (fun σ3 sv3 e3 r3 q3 => ⟨e3.trans wipe_wipe |>.trans wipe_wipe.symm |>.trans (by rw [wipe_wipe]), ?_⟩) q2
        have e3' : wipe σ3 c.vs = wipe σ c.vs := e3.trans wipe_wipe
        refine ht (keepO F D0 o2) P2' _ σ3 sv3 _ _ _ r3 (fun b H4 P4 sv4 r4 t4 q4 => ?_) (fun _ _ _ _ _ _ _ _ z => z) q3
        cases b with
        | true =>
          rw [if_pos rfl] at q4 ⊢
          refine snd_turn h1 h2 cs dcs hc F P4 H4 σ3 sv4 dd2 _ _ hk ⟨o2, r4, ho2.mono t4⟩ q4 fun P5 H5 sv5 dd5 ⟨o5, r5, ho5⟩ t5 q5 => ?_
          have r6 := r5.wipe dc.vs
          rw [← hv, wipe_sub hs, e3'] at r6
          exact ⟨P5, _, dd5, ⟨o5, r6, ho5⟩, u2.trans (t4.trans t5), fun i s hi e => unAt_un hi e, by rw [hv]; exact q5⟩
        | false =>
          rw [if_neg (by decide)] at q4 ⊢
          have r6 := r4.wipe dc.vs
          rw [← hv, e3'] at r6
          exact ⟨P4, _, dd2, ⟨o2, r6, ho2.mono t4⟩, u2.trans t4, fun i s hi e => unAt_un hi e, by rw [hv]; exact q4⟩
      · have e : i = ds.length := by omega
        subst e
        rw [List.drop_length] at q2
        refine .inl ⟨w.stop _ H2 P2 u2 r2.sub (Nat.le_refl _), ?_⟩
        obtain ⟨k1, k2, k3, k4⟩ := r2.kept D0 o2 List.mem_cons_self
        refine k D0 H2 P2 dd2 sv2 ((Rel.backO (F := F.at W.z) r2).unwipe un2) (t1.trans u2) ⟨o2.1, k1, ho2, k2, k3, fun i s e a z => ?_, hk⟩ q2
        refine k4 i s e a ?_
        rw [wipe_get, if_neg]
        · exact z
        · intro hi
          have := un2 i s hi e
          rw [this] at a
          cases a
    rcases hd with rfl | rfl
    · exact .inl (main (kK []) ⟨[], rfl, rfl, rfl⟩)
    · exact .inr (main (kT []) ⟨[], rfl, rfl, rfl⟩)) kx q
theorem pdn_dc {kx vx tg iter : Expr} {ifs : List Expr} {gs : List Comprehension} {scope : Scope} {own : List (Str × Nat)} {f : Dl} {dg : Dg} {dt : Dt} {dcs : List Dcl} {fk fv : De} (d0 : D) (hd : d0 = .dk [] [] ∨ d0 = .dt [] []) (hc : X.calm = true) (hu : X.A.units + 1 < cLine) (hN : X.N.Nodup) (ok : BlkOk X.N X.env.scope scope own) (hi : PDI X W tg iter f)
    (hg : ∀ i : BI, PDGw (Cx.b X scope i) (own.map (·.2)) tg dg) (ht : ∀ i : BI, PDTs (Cx.b X scope i) (wNo W.z) ifs dt) (hr : PDCs X scope W.z gs dcs) (hv : ∀ i ∈ dvs dcs, i ∈ own.map (·.2)) (hk : ∀ i : BI, PD (Cx.b X scope i) (wNo W.z) kx fk) (he : ∀ i : BI, PD (Cx.b X scope i) (wNo W.z) vx fv)
    (hs : ∀ x, foldedSetIterable iter X.env x = pure x := by intro _; rfl) : PDN X W (.DictComp kx vx (⟨tg, iter, ifs, 0⟩ :: gs) scope pos) (dDcs f ⟨f, dg, dt, own.map (·.2)⟩ dcs fk fv d0) := by
  obtain ⟨wi, p1, s1⟩ := hi
  obtain ⟨g, p2, s2⟩ := fam_gw (X := fun i => Cx.b X scope i) (fun _ => rfl) hg
  obtain ⟨tt, p3, s3⟩ := fam_ts (X := fun i => Cx.b X scope i) (fun _ => rfl) ht
  obtain ⟨tk, p4, s4⟩ := fam_e (X := fun i => Cx.b X scope i) (fun _ => rfl) hk
  obtain ⟨tv, p5, s5⟩ := fam_e (X := fun i => Cx.b X scope i) (fun _ => rfl) he
  obtain ⟨cs, h1, h2, h3⟩ := hr.cls
  exact ⟨_, pe_dcs hc hu hN p1 ok (fun s H C cl fp => p2 (s, H, C, cl, fp)) (fun s H C cl fp => p3 (s, H, C, cl, fp)) (fun s H C cl fp => h1 (s, H, C, cl, fp)) (by rw [h3]; exact hv) (fun s H C cl fp => p4 (s, H, C, cl, fp)) (fun s H C cl fp => p5 (s, H, C, cl, fp)) hs,
    snd_dcs (c := ⟨wi, g, tt, own.map (·.2)⟩) (dc := ⟨f, dg, dt, own.map (·.2)⟩) hd s1 s2 s3 rfl (by rw [h3]; exact hv) h2 s4 s5⟩
end
end Pf
end
section
set_option autoImplicit false
set_option Elab.async false
set_option linter.all false
set_option autoImplicit false
set_option maxRecDepth 100000
set_option maxHeartbeats 4000000
/-! Pg1: methods of own classes, their own len, in, repr. -/
namespace Pg
open PySem PySem.Spec PyProof.Rows L2 Pd
/-- a method by its promise -/
structure Mt (X : Cx) (k : Nat) (C : Addr) (m : Str) (n : Nat) (ct : Ct) : Prop where
  mono : ∀ as Q Q' E E', (∀ d, Q d → Q' d) → (∀ x, E x → E' x) → ct.c as Q E → ct.c as Q' E'
  cls : Cls X.K C
  ex : ∃ (f : Addr) (fd : FuncData) (ps : List Str), ps.length = n ∧ Fd X.prog X.w X.K X.mg X.base k f fd ps (spC X.K n ct) ∧ Meth X.K C m f ∧ Binds X.K fd ps []
theorem zip_none {m : Str} : ∀ {ns : List Str} {vs : List V}, m ∉ ns → (ns.zip vs).lookup m = none
  | [], _, _ => by simp
  | _ :: _, [], _ => by simp
  | n :: ns, v :: vs, h => by
    simp only [List.mem_cons, not_or] at h
    rw [List.zip_cons_cons, List.lookup_cons]
    have e : (m == n) = false := by simpa using h.1
    rw [e]
    exact zip_none h.2
section
variable {X : Cx} {W : Wz} {pos : Pos}
def tMethF (W : Wz) (C : Addr) (m : Str) (sp : Sp) (ta : TE) (t : TA) : TE := fun σ H Q => ta σ H fun x H1 => ∃ a dx fs, x = .ref a ∧ H1 a = some (.ins C dx fs) ∧ fs.lookup m = none ∧ t σ H1 fun vs H2 => sp (x :: vs) H2 Q (fun cls dd H' => W cls dd σ H')
section
variable {k : Nat} {C f : Addr} {m : Str} {fd : FuncData} {ps : List Str} {sp : Sp} {o e : Expr} {es : List Expr} {apos : Pos} {ta : TE} {t : TA} {pl : Sem Bool}
theorem pe_methF (he : PE X o ta) (c : Cls X.K C) (hm : Meth X.K C m f) (F : Fd X.prog X.w X.K X.mg X.base k f fd ps sp) (hr : Room k X.A) (hG : X.A.guards = some []) (hb : Binds X.K fd ps []) (tk : Takes X W.w) (ha : PA X (e :: es) t)
    (hst : starEach (e :: es) X.env = (false, eval e X.env) :: starEach es X.env := by rfl) (hpl : (backTo pos (starEach es X.env)).any (·.1) = false := by rfl)
    (ht : eval (.Call (.Attribute o m apos) (e :: es) [] pos) X.env = (do
      let ov ← eval o X.env
      standAt apos.atName
      let (f, first) ← holding [ov] (getMethod ov m pl)
      callWith pos f first (backTo pos (starEach (e :: es) X.env)) (backToKw pos (keywordEach [] X.env))) := by rfl) :
    PE X (.Call (.Attribute o m apos) (e :: es) [] pos) (tMethF W C m sp ta t) := by
  refine ⟨fun pins s σ H Q I h => ?_⟩
  refine PySem.W.methodCall_KW (pl := pl) (thn (he.run pins s σ H _ I h) fun u s1 ⟨x, H1, I1, rx, a, dx, fs, ex, ea, l, q⟩ => ?_) ht
  subst ex
  obtain rfl : u = Value.ref a := rx
  refine getmeth_ok I1 ea c hm l ?_
  refine PySem.W.callWith_K (first := [.ref a]) (h₀ := X.base) I.ok.mod.kin hm.kp (thn (ha.run pos pins s1 σ H1 _ I1 q) fun us s2 ⟨vs, H2, I2, r, q2⟩ => ⟨I2.kIn, ?_⟩) hst hpl
  exact run_fd (us := .ref a :: us) (vs := .ref a :: vs) (ds := []) (dvs := []) F hr hG hb .nil tk I2 (.cons rfl r) (by rw [List.append_nil]; exact q2)
theorem pe_methF0 (he : PE X o ta) (c : Cls X.K C) (hm : Meth X.K C m f) (F : Fd X.prog X.w X.K X.mg X.base k f fd ps sp) (hr : Room k X.A) (hG : X.A.guards = some []) (hb : Binds X.K fd ps []) (tk : Takes X W.w)
    (ht : eval (.Call (.Attribute o m apos) [] [] pos) X.env = (do
      let ov ← eval o X.env
      standAt apos.atName
      let (f, first) ← holding [ov] (getMethod ov m pl)
      callWith pos f first (backTo pos (starEach [] X.env)) (backToKw pos (keywordEach [] X.env))) := by rfl) :
    PE X (.Call (.Attribute o m apos) [] [] pos) (tMethF W C m sp ta tNil) := by
  refine ⟨fun pins s σ H Q I h => ?_⟩
  refine PySem.W.methodCall_KW (pl := pl) (thn (he.run pins s σ H _ I h) fun u s1 ⟨x, H1, I1, rx, a, dx, fs, ex, ea, l, q⟩ => ?_) ht
  subst ex
  obtain rfl : u = Value.ref a := rx
  refine getmeth_ok I1 ea c hm l ?_
  exact PySem.W.callWith_K0 (first := [.ref a]) I1.kIn hm.kp (run_fd (us := [.ref a]) (vs := [.ref a]) (ds := []) (dvs := []) F hr hG hb .nil tk I1 (.cons rfl .nil) (by rw [List.append_nil]; exact q))
end
/-- o.m(e, ..) -/
@[simp] def dMeth (C : Addr) (m : Str) (ct : Ct) (n : Nat) (fo : De) (fa : Da) : De := fun sv Q E => fo sv (fun d sv1 => ∃ ns xs, d = .ins C ns xs ∧ m ∉ ns ∧ fa sv1 (fun as sv2 => as.length + 1 = n ∧ callC ct (.dat d :: as) sv2 Q E) E) E
theorem snd_meth {K : PySem.W.Frag} {C : Addr} {m : Str} {ct : Ct} {n : Nat} {fo : De} {fa : Da} {ta : TE} {t : TA} (mono : ∀ as Q Q' E E', (∀ d, Q d → Q' d) → (∀ x, E x → E' x) → ct.c as Q E → ct.c as Q' E') (h1 : SndE K W ta fo) (h2 : SndA K W t fa) : SndE K W (tMethF W C m (spC K n ct) ta t) (dMeth C m ct n fo fa) := fun F P H σ sv Q E R r kk kx q =>
  h1 F P H σ sv _ E _ r (fun v H1 P1 d sv1 r1 t1 rd q1 => by
    obtain ⟨ns, xs, rfl, hm, q1⟩ := q1
    obtain ⟨a, dx, vs, rfl, e1, e2, e3⟩ := id rd
    refine ⟨a, dx, _, rfl, r1.sub _ _ e1, zip_none hm, ?_⟩
    refine h2 F P1 H1 σ sv1 _ E _ r1 (fun us H2 P2 as sv2 r2 t2 ra q2 => ?_) kx q1
    exact snd_callC mono (as := .dat (.ins C ns xs) :: as) (by simpa using q2.1) r2 ⟨_, _, rfl, Rp.mono t2 _ _ rd, ra⟩ (fun v H' P' d sv' r' t' rv q' => kk v H' P' d sv' r' ((t1.trans t2).trans t') rv q') kx q2.2) kx q
theorem pd_meth {k n : Nat} {C : Addr} {m : Str} {ct : Ct} {o e : Expr} {es : List Expr} {apos : Pos} {fo : De} {fa : Da} {pl : Sem Bool} (T : Mt X k C m n ct) (hr : Room k X.A) (hG : X.A.guards = some []) (tk : Takes X W.w) (ho : PD X W o fo) (ha : PDA X W (e :: es) fa)
    (hst : starEach (e :: es) X.env = (false, eval e X.env) :: starEach es X.env := by rfl) (hpl : (backTo pos (starEach es X.env)).any (·.1) = false := by rfl)
    (ht : eval (.Call (.Attribute o m apos) (e :: es) [] pos) X.env = (do
      let ov ← eval o X.env
      standAt apos.atName
      let (f, first) ← holding [ov] (getMethod ov m pl)
      callWith pos f first (backTo pos (starEach (e :: es) X.env)) (backToKw pos (keywordEach [] X.env))) := by rfl) :
    PD X W (.Call (.Attribute o m apos) (e :: es) [] pos) (dMeth C m ct n fo fa) := by
  obtain ⟨f, fd, ps, hl, F, M, hb⟩ := T.ex
  obtain ⟨to, p1, s1⟩ := ho
  obtain ⟨ta, p2, s2⟩ := ha
  exact ⟨_, pe_methF (W := W) p1 T.cls M F hr hG hb tk p2 hst hpl ht, snd_meth T.mono s1 s2⟩
theorem pd_meth0 {k n : Nat} {C : Addr} {m : Str} {ct : Ct} {o : Expr} {apos : Pos} {fo : De} {pl : Sem Bool} (T : Mt X k C m n ct) (hr : Room k X.A) (hG : X.A.guards = some []) (tk : Takes X W.w) (ho : PD X W o fo)
    (ht : eval (.Call (.Attribute o m apos) [] [] pos) X.env = (do
      let ov ← eval o X.env
      standAt apos.atName
      let (f, first) ← holding [ov] (getMethod ov m pl)
      callWith pos f first (backTo pos (starEach [] X.env)) (backToKw pos (keywordEach [] X.env))) := by rfl) :
    PD X W (.Call (.Attribute o m apos) [] [] pos) (dMeth C m ct n fo dNil) := by
  obtain ⟨f, fd, ps, hl, F, M, hb⟩ := T.ex
  obtain ⟨to, p1, s1⟩ := ho
  obtain ⟨ta, p2, s2⟩ := pda_nil (X := X) (W := W)
  exact ⟨_, pe_methF0 (W := W) p1 T.cls M F hr hG hb tk ht, snd_meth T.mono s1 (fun F P H σ sv Q E R r k kx q => k [] H P [] sv r (Sub.refl P) rfl q)⟩
/-! ### len(o), x in o, repr(o) -/
/-- a special def of the class -/
structure Sps (X : Cx) (k : Nat) (C : Addr) (m : Str) (n : Nat) (ct : Ct) : Prop where
  mono : ∀ as Q Q' E E', (∀ d, Q d → Q' d) → (∀ x, E x → E' x) → ct.c as Q E → ct.c as Q' E'
  ex : ∃ (f : Addr) (fd : FuncData) (ps : List Str), ps.length = n ∧ Fd X.prog X.w X.K X.mg X.base k f fd ps (spC X.K n ct) ∧ PySem.W.findIn X.K (.ref C) m = some (some (.ref f)) ∧ PySem.W.isFn X.K (.ref f) = true ∧ Binds X.K fd ps []
def rLenO (C : Addr) (sp : Sp) : List V → Hp → VK → Prop := fun xs H Q => ∃ a dx fs, xs = [.ref a] ∧ H a = some (.ins C dx fs) ∧ sp [.ref a] H (fun v H' => ∃ n : Int, v = .int n ∧ 0 ≤ n ∧ n < 2 ^ 63 ∧ Q (.int n) H') fun _ _ _ => False
def rStrO (C : Addr) (sp : Sp) : List V → Hp → VK → Prop := fun xs H Q => ∃ a dx fs, xs = [.ref a] ∧ H a = some (.ins C dx fs) ∧ sp [.ref a] H (fun v H' => ∃ z : Str, v = .str z ∧ Q (.str z) H') fun _ _ _ => False
section
variable {k : Nat} {C : Addr} {ct : Ct}
theorem call_lenO (T : Sps X k C "__len__" 1 ct) (hr : Room (k + 1) X.A) (hG : X.A.guards = some []) : CallR X (.builtin "len") (rLenO C (spC X.K 1 ct)) := by
  intro pins s σ H xs us Q I r h
  obtain ⟨a, dx, fs, rfl, ha, hsp⟩ := h
  obtain ⟨f, fd, ps, hl, F, hs, hf, hb⟩ := T.ex
  cases r with
  | cons r rr =>
    cases rr
    cases r
    obtain ⟨mA, J, _⟩ := ins_get I.hok ha
    obtain ⟨od, J, _⟩ := J.look
    obtain ⟨m, hF⟩ := I.fr
    refine PySem.W.len_K hF I.ok.mod.kin J hs hf (thn (run_own (A := X.A.in1) rfl hr.in1 hG F hb I (.cons (show RelV (V.ref a) (Value.ref a) from rfl) .nil) hsp) fun r s' q => ?_)
    obtain ⟨w, H', I', rw', n, ew, h0, h1, q⟩ := q
    subst ew
    obtain ⟨t, rfl⟩ := rw'
    exact ⟨⟨h0, h1⟩, .int n, H', I'.tok _, ⟨_, rfl⟩, q⟩
theorem call_reprO (T : Sps X k C "__repr__" 1 ct) (hr : Room (k + 1) X.A) (hG : X.A.guards = some []) : CallR X (.builtin "repr") (rStrO C (spC X.K 1 ct)) := by
  intro pins s σ H xs us Q I r h
  obtain ⟨a, dx, fs, rfl, ha, hsp⟩ := h
  obtain ⟨f, fd, ps, hl, F, hs, hf, hb⟩ := T.ex
  cases r with
  | cons r rr =>
    cases rr
    cases r
    obtain ⟨mA, J, _⟩ := ins_get I.hok ha
    obtain ⟨od, J, _⟩ := J.look
    obtain ⟨m, hF⟩ := I.fr
    have hu : X.A.in1.units < cLine := by have := hr.in1.units; omega
    refine PySem.W.repr_K hu hF I.ok.mod.kin J hs hf (thn (run_own (A := X.A.in1) rfl hr.in1 hG F hb I (.cons (show RelV (V.ref a) (Value.ref a) from rfl) .nil) hsp) fun r s' q => ?_)
    obtain ⟨w, H', I', rw', z, ew, q⟩ := q
    subst ew
    obtain ⟨t, rfl⟩ := rw'
    exact ⟨.str z, H', I', ⟨_, rfl⟩, q⟩
def rInO (C : Addr) (sp : Sp) (g : Bool → Bool) : R2 := fun x y H Q => ∃ a dx fs, y = .ref a ∧ H a = some (.ins C dx fs) ∧ sp [y, x] H (fun v H' => ∃ b, v = .bl b ∧ Q (.bl (g b)) H') fun _ _ _ => False
theorem op_inO (T : Sps X k C "__contains__" 2 ct) (hr : Room k X.A) (hG : X.A.guards = some []) : OpR X (compareOp .In) (rInO C (spC X.K 2 ct) id) := by
  intro pins s σ H x y v u Q I rx ry h
  obtain ⟨a, dx, fs, rfl, ha, hsp⟩ := h
  obtain ⟨f, fd, ps, hl, F, hs, hf, hb⟩ := T.ex
  obtain rfl : u = Value.ref a := ry
  obtain ⟨mA, J, _⟩ := ins_get I.hok ha
  obtain ⟨od, J, _⟩ := J.look
  obtain ⟨m, hF⟩ := I.fr
  refine PySem.W.in_K hF I.ok.mod.kin J hs hf (thn (run_own rfl hr hG F hb I (.cons (show RelV (V.ref a) (Value.ref a) from rfl) (.cons rx .nil)) hsp) fun r s' q => ?_)
  obtain ⟨w, H', I', rw', b, ew, q⟩ := q
  subst ew
  cases rw'
  exact wpAny_truthy_bool ⟨.bl b, H', I', rfl, q⟩
theorem op_notInO (T : Sps X k C "__contains__" 2 ct) (hr : Room k X.A) (hG : X.A.guards = some []) : OpR X (compareOp .NotIn) (rInO C (spC X.K 2 ct) not) := by
  intro pins s σ H x y v u Q I rx ry h
  obtain ⟨a, dx, fs, rfl, ha, hsp⟩ := h
  obtain ⟨f, fd, ps, hl, F, hs, hf, hb⟩ := T.ex
  obtain rfl : u = Value.ref a := ry
  obtain ⟨mA, J, _⟩ := ins_get I.hok ha
  obtain ⟨od, J, _⟩ := J.look
  obtain ⟨m, hF⟩ := I.fr
  refine PySem.W.notIn_K hF I.ok.mod.kin J hs hf (thn (run_own rfl hr hG F hb I (.cons (show RelV (V.ref a) (Value.ref a) from rfl) (.cons rx .nil)) hsp) fun r s' q => ?_)
  obtain ⟨w, H', I', rw', b, ew, q⟩ := q
  subst ew
  cases rw'
  exact wpAny_truthy_bool ⟨.bl (!b), H', I', rfl, q⟩
end
@[simp] def gLenO (C : Addr) (ct : Ct) : G1 := fun ds Q => ∃ ns xs, ds = [.ins C ns xs] ∧ ct.c [some (.ins C ns xs)] (fun z => ∃ n : Int, z = .int n ∧ 0 ≤ n ∧ n < 2 ^ 63 ∧ Q (.int n)) fun _ => False
@[simp] def gStrO (C : Addr) (ct : Ct) : G1 := fun ds Q => ∃ ns xs, ds = [.ins C ns xs] ∧ ct.c [some (.ins C ns xs)] (fun z => ∃ s : Str, z = .str s ∧ Q (.str s)) fun _ => False
@[simp] def gInO (C : Addr) (ct : Ct) (g : Bool → Bool) : G2 := fun d e Q => ∃ ns xs, e = .ins C ns xs ∧ ct.c [some e, some d] (fun z => ∃ b, z = .bl b ∧ Q (.bl (g b))) fun _ => False
section
variable {K : PySem.W.Frag} {C : Addr} {ct : Ct} (mono : ∀ as Q Q' E E', (∀ d, Q d → Q' d) → (∀ x, E x → E' x) → ct.c as Q E → ct.c as Q' E')
include mono
theorem snd_lenO : SndC K (rLenO C (spC K 1 ct)) (gLenO C ct) := fun F P H σ sv vs ds Q R re rv kk q => by
  obtain ⟨ns, xs, rfl, q⟩ := q
  obtain ⟨v, r, rfl, rx, rfl⟩ := rv
  obtain ⟨a, dx, vs, rfl, h1, h2, h3⟩ := id rx
  refine ⟨a, dx, _, rfl, re.sub _ _ h1, ?_⟩
  refine snd_callC (W := wNo none) (E := fun _ _ => False) (sv := sv) (σ := σ) (F := F) (Q := fun z sv' => sv' = sv ∧ ∃ n : Int, z = .int n ∧ 0 ≤ n ∧ n < 2 ^ 63 ∧ Q (.int n)) mono (as := [.dat (.ins C ns xs)]) rfl re ⟨_, _, rfl, rx, rfl⟩ (fun v H' P' z sv' r' t' rz q' => ?_) (fun _ _ _ _ _ _ _ _ z => z) ?_
  · obtain ⟨rfl, n, rfl, h0, h1, q'⟩ := q'
    exact ⟨n, rz, h0, h1, kk _ H' P' (.int n) r' t' rfl q'⟩
  · exact mono _ _ _ _ _ (fun z qz => ⟨rfl, qz⟩) (fun _ z => z) q
theorem snd_strO : SndC K (rStrO C (spC K 1 ct)) (gStrO C ct) := fun F P H σ sv vs ds Q R re rv kk q => by
  obtain ⟨ns, xs, rfl, q⟩ := q
  obtain ⟨v, r, rfl, rx, rfl⟩ := rv
  obtain ⟨a, dx, vs, rfl, h1, h2, h3⟩ := id rx
  refine ⟨a, dx, _, rfl, re.sub _ _ h1, ?_⟩
  refine snd_callC (W := wNo none) (E := fun _ _ => False) (sv := sv) (σ := σ) (F := F) (Q := fun z sv' => sv' = sv ∧ ∃ n : Str, z = .str n ∧ Q (.str n)) mono (as := [.dat (.ins C ns xs)]) rfl re ⟨_, _, rfl, rx, rfl⟩ (fun v H' P' z sv' r' t' rz q' => ?_) (fun _ _ _ _ _ _ _ _ z => z) ?_
  · obtain ⟨rfl, n, rfl, q'⟩ := q'
    exact ⟨n, rz, kk _ H' P' (.str n) r' t' rfl q'⟩
  · exact mono _ _ _ _ _ (fun z qz => ⟨rfl, qz⟩) (fun _ z => z) q
theorem snd_inO {g : Bool → Bool} : SndR K (rInO C (spC K 2 ct) g) (gInO C ct g) := fun F P H σ sv x y d e Q R re rx ry kk q => by
  obtain ⟨ns, xs, rfl, q⟩ := q
  obtain ⟨a, dx, vs, rfl, h1, h2, h3⟩ := id ry
  refine ⟨a, dx, _, rfl, re.sub _ _ h1, ?_⟩
  refine snd_callC (W := wNo none) (E := fun _ _ => False) (sv := sv) (σ := σ) (F := F) (Q := fun z sv' => sv' = sv ∧ ∃ b, z = .bl b ∧ Q (.bl (g b))) mono (as := [.dat (.ins C ns xs), .dat d]) rfl re ⟨_, _, rfl, ry, _, _, rfl, rx, rfl⟩ (fun v H' P' z sv' r' t' rz q' => ?_) (fun _ _ _ _ _ _ _ _ z => z) ?_
  · obtain ⟨rfl, b, rfl, q'⟩ := q'
    exact ⟨b, rz, kk _ H' P' (.bl (g b)) r' t' rfl q'⟩
  · exact mono _ _ _ _ _ (fun z qz => ⟨rfl, qz⟩) (fun _ z => z) q
end
theorem pd_lenO {k : Nat} {C : Addr} {ct : Ct} {p : Pos} {e : Expr} {fa : Da} (T : Sps X k C "__len__" 1 ct) (hr : Room (k + 1) X.A) (hG : X.A.guards = some []) (hm : X.mg "len" = none) (ha : PDA X W [e] fa) (hg : Gl X "len" := by rfl) (he : starEach [e] X.env = (false, eval e X.env) :: starEach [] X.env := by rfl) :
    PD X W (.Call (.Name "len" p) [e] [] pos) (dCB (gLenO C ct) fa) :=
  pd_callB (call_lenO T hr hG) (snd_lenO T.mono) PySem.boot_len hg hm ha (by decide) (by decide) he
theorem boot_repr' : bootBuiltins "repr" = some (.builtin "repr") := by first | exact PySem.boot_repr | rfl | decide +kernel
theorem pd_reprO {k : Nat} {C : Addr} {ct : Ct} {p : Pos} {e : Expr} {fa : Da} (T : Sps X k C "__repr__" 1 ct) (hr : Room (k + 1) X.A) (hG : X.A.guards = some []) (hm : X.mg "repr" = none) (ha : PDA X W [e] fa) (hg : Gl X "repr" := by rfl) (he : starEach [e] X.env = (false, eval e X.env) :: starEach [] X.env := by rfl) :
    PD X W (.Call (.Name "repr" p) [e] [] pos) (dCB (gStrO C ct) fa) :=
  pd_callB (call_reprO T hr hG) (snd_strO T.mono) boot_repr' hg hm ha (by decide) (by decide) he
end
end Pg
end
section
set_option autoImplicit false
set_option Elab.async false
set_option linter.all false
set_option autoImplicit false
set_option maxRecDepth 100000
set_option maxHeartbeats 4000000
/-! Pg2: dicts read and stored into, enumerate, xs[::-1], f-strings, str(int). -/
namespace Pg
open PySem PySem.Spec PyProof.Rows L2 Pd Pf
/-! ### what a dict holds -/
/-- what is found stands for what was asked -/
def GRel (K : PySem.W.Frag) (P : Hp) : Option D → Option V → Prop
  | some z, ov => ∃ v, ov = some v ∧ Rp K P z v
  | none, ov => ov = none
theorem getZ_grel {K : PySem.W.Frag} {P : Hp} {κ : Type} [DecidableEq κ] {k : κ} {ks : List κ} {ds : List D} {vs : List V} (h : RpL K P ds vs) : GRel K P (getZ k ks ds) (getZ k ks vs) := by
  have q := getZ_rel (k := k) (ks := ks) h
  cases e : getZ k ks ds with
  | none => rw [e] at q; exact q
  | some z => rw [e] at q; exact q
theorem get_dg {K : PySem.W.Frag} {P H : Hp} {a : Addr} {d k : D} {y : V} {o : Option D} (sP : Sub P H) (h : Rp K P d (.ref a) ∨ DctAt K P H a d) (ry : Rp K P k y) (e : getD' d k = some o) :
    ∃ ov, DGet H a y ov ∧ GRel K P o ov := by
  cases d with
  | dk ks xs =>
    simp only [getD'] at e
    cases ek : keyD k with
    | none => rw [ek] at e; cases e
    | some k0 =>
      rw [ek] at e
      obtain rfl := Option.some.inj e
      have hd : ∃ vs, Rd H a (.dK (ks.zip vs)) ∧ RpL K P xs vs := by
        rcases h with ⟨a', vs, ob, ea, ho, hl, rl⟩ | ⟨vs, ho, hl, rl⟩
        · cases ea
          exact ⟨vs, .inr ⟨ob, sP _ _ ho⟩, rl⟩
        · exact ⟨vs, .inl ho, rl⟩
      obtain ⟨vs, hd, rl⟩ := hd
      exact ⟨getZ k0 ks vs, .inl ⟨_, k0, hd, keyD_v ek ry, valV_zip.symm⟩, getZ_grel rl⟩
  | dt ks xs =>
    cases k with
    | tup ds =>
      simp only [getD'] at e
      cases ek : keysD ds with
      | none => rw [ek] at e; cases e
      | some k0 =>
        rw [ek] at e
        obtain rfl := Option.some.inj e
        have hd : ∃ vs, Rd H a (.dT (ks.zip vs)) ∧ RpL K P xs vs := by
          rcases h with ⟨a', vs, ob, ea, ho, hl, rl⟩ | ⟨vs, ho, hl, rl⟩
          · cases ea
            exact ⟨vs, .inr ⟨ob, sP _ _ ho⟩, rl⟩
          · exact ⟨vs, .inl ho, rl⟩
        obtain ⟨vs, hd, rl⟩ := hd
        obtain ⟨b, us, rfl, eb, ru⟩ := ry
        obtain rfl := keysD_v ek ru
        exact ⟨getZ k0 ks vs, .inr ⟨_, k0, b, hd, rfl, sP _ _ eb, valV_zip.symm⟩, getZ_grel rl⟩
    | _ => simp only [getD'] at e; cases e
  | _ => simp only [getD'] at e; cases e
/-- a dict as data lies at an address -/
theorem get_ref {K : PySem.W.Frag} {P : Hp} {d k : D} {v : V} {o : Option D} (r : Rp K P d v) (e : getD' d k = some o) : ∃ a, v = .ref a := by
  cases d <;> simp only [getD'] at e <;> first
    | cases e
    | (obtain ⟨a, _, _, rfl, _⟩ := r; exact ⟨a, rfl⟩)
section
variable {X : Cx} {W : Wz} {pos : Pos}
/-- d[k], the key is there -/
@[simp] def dDget (fd fk : De) : De := fun sv Q E => fd sv (fun d sv1 => fk sv1 (fun k sv2 => ∃ z, getD' d k = some (some z) ∧ Q z sv2) E) E
theorem pd_dget {a b : Expr} {fd fk : De} (hu : X.A.units + 1 < cLine) (h1 : PD X W a fd) (h2 : PD X W b fk) (hs : NoSl b := by exact fun _ _ => rfl) : PD X W (.Subscript a b pos) (dDget fd fk) := by
  obtain ⟨ta, p1, s1⟩ := h1
  obtain ⟨tb, p2, s2⟩ := h2
  refine ⟨_, pe_dget hu p1 p2 hs, fun F P H σ sv Q E R r kk kx q => s1 F P H σ sv _ E _ r (fun v H1 P1 d sv1 r1 t1 rd q1 => s2 F P1 H1 σ sv1 _ E _ r1 (fun y H2 P2 k sv2 r2 t2 ry q2 => ?_) kx q1) kx q⟩
  obtain ⟨z, e, q2⟩ := q2
  have rd2 := Rp.mono t2 d v rd
  obtain ⟨a', rfl⟩ := get_ref rd2 e
  obtain ⟨ov, g, w, rfl, rw'⟩ := get_dg r2.sub (.inl rd2) ry e
  exact ⟨a', w, rfl, g, kk w H2 P2 z sv2 r2 (t1.trans t2) rw' q2⟩
/-- k in d -/
@[simp] def dDin (g : Bool → Bool) (fk fd : De) : De := fun sv Q E => fk sv (fun k sv1 => fd sv1 (fun d sv2 => ∃ o, getD' d k = some o ∧ Q (.bl (g o.isSome)) sv2) E) E
theorem snd_din {K : PySem.W.Frag} {g : Bool → Bool} {ty td : TE} {fk fd : De} (h1 : SndE K W ty fk) (h2 : SndE K W td fd) : SndE K W (fun σ H Q => ty σ H fun y H1 => td σ H1 fun x H2 => ∃ a o, x = .ref a ∧ DGet H2 a y o ∧ Q (.bl (g o.isSome)) H2) (dDin g fk fd) := fun F P H σ sv Q E R r kk kx q =>
  h1 F P H σ sv _ E _ r (fun y H1 P1 k sv1 r1 t1 ry q1 => h2 F P1 H1 σ sv1 _ E _ r1 (fun v H2 P2 d sv2 r2 t2 rd q2 => by
    obtain ⟨o, e, q2⟩ := q2
    obtain ⟨a', rfl⟩ := get_ref rd e
    obtain ⟨ov, gg, m⟩ := get_dg r2.sub (.inl rd) (Rp.mono t2 k y ry) e
    refine ⟨a', ov, rfl, gg, kk _ H2 P2 (.bl (g o.isSome)) sv2 r2 (t1.trans t2) ?_ q2⟩
    cases o with
    | none => obtain rfl : ov = none := m; rfl
    | some z => obtain ⟨w, rfl, _⟩ := m; rfl) kx q1) kx q
theorem pd_din {a b : Expr} {fk fd : De} (hu : X.A.units + 1 < cLine) (h1 : PD X W a fk) (h2 : PD X W b fd) (hm : behindInMarks .In b = false := by rfl) : PD X W (.Compare a [.In] [b] pos) (dDin id fk fd) := by
  obtain ⟨ta, p1, s1⟩ := h1
  obtain ⟨tb, p2, s2⟩ := h2
  exact ⟨_, pe_cmp (pc_din hu p1 p2) hm, snd_din (g := id) s1 s2⟩
theorem pd_dnotin {a b : Expr} {fk fd : De} (hu : X.A.units + 1 < cLine) (h1 : PD X W a fk) (h2 : PD X W b fd) (hm : behindInMarks .NotIn b = false := by rfl) : PD X W (.Compare a [.NotIn] [b] pos) (dDin not fk fd) := by
  obtain ⟨ta, p1, s1⟩ := h1
  obtain ⟨tb, p2, s2⟩ := h2
  exact ⟨_, pe_cmp (pc_dnotin hu p1 p2) hm, snd_din (g := not) s1 s2⟩
theorem snd_tB {K : PySem.W.Frag} {t : TE} {f : De} (h : SndE K W t f) : SndT K W (tB t) (dTest f) := fun F P H σ sv Q E R re k kx q => h F P H σ sv _ E _ re (fun v H1 P1 d sv1 r1 s1' rv ⟨b, ed, q1⟩ => by
  subst ed
  exact ⟨b, rv, k b H1 P1 sv1 r1 s1' q1⟩) kx q
theorem pdt_din {a b : Expr} {fk fd : De} (hu : X.A.units + 1 < cLine) (h1 : PD X W a fk) (h2 : PD X W b fd) (hm : behindInMarks .In b = false := by rfl) : PDT X W (.Compare a [.In] [b] pos) (dTest (dDin id fk fd)) := by
  obtain ⟨ta, p1, s1⟩ := h1
  obtain ⟨tb, p2, s2⟩ := h2
  exact ⟨_, pt_cmp (pc_din hu p1 p2) hm, snd_tB (snd_din (g := id) s1 s2)⟩
theorem pdt_dnotin {a b : Expr} {fk fd : De} (hu : X.A.units + 1 < cLine) (h1 : PD X W a fk) (h2 : PD X W b fd) (hm : behindInMarks .NotIn b = false := by rfl) : PDT X W (.Compare a [.NotIn] [b] pos) (dTest (dDin not fk fd)) := by
  obtain ⟨ta, p1, s1⟩ := h1
  obtain ⟨tb, p2, s2⟩ := h2
  exact ⟨_, pt_cmp (pc_dnotin hu p1 p2) hm, snd_tB (snd_din (g := not) s1 s2)⟩
/-! ### a dict of one's own -/
/-- what lies in slot i -/
@[simp] def dctAt (sv : Sv) (i : Nat) (d : D) : Prop := sv[i]? = some (.dct d) ∨ sv[i]? = some (.dat d)
theorem slot_dg {K : PySem.W.Frag} {F : Fr} {P H : Hp} {σ : L2.St} {sv : Sv} {i : Nat} {d k : D} {y : V} {o : Option D} (r : Rel K F P H σ sv) (h : dctAt sv i d) (ry : Rp K P k y) (e : getD' d k = some o) :
    ∃ a ov, σ[i]? = some (some (.ref a)) ∧ DGet H a y ov ∧ GRel K P o ov := by
  rcases h with h | h
  · obtain ⟨o', ho, p, rfl, h1, h2, h3⟩ := rel_get r h
    obtain ⟨ov, g, m⟩ := get_dg r.sub (.inr h3) ry e
    exact ⟨p, ov, ho, g, m⟩
  · obtain ⟨o', ho, v, rfl, rv⟩ := rel_get r h
    obtain ⟨a, rfl⟩ := get_ref rv e
    obtain ⟨ov, g, m⟩ := get_dg r.sub (.inl rv) ry e
    exact ⟨a, ov, ho, g, m⟩
@[simp] def dDgetV (i : Nat) (fk : De) : De := fun sv Q E => fk sv (fun k sv1 => ∃ d z, dctAt sv1 i d ∧ getD' d k = some (some z) ∧ Q z sv1) E
@[simp] def dDinV (g : Bool → Bool) (i : Nat) (fk : De) : De := fun sv Q E => fk sv (fun k sv1 => ∃ d o, dctAt sv1 i d ∧ getD' d k = some o ∧ Q (.bl (g o.isSome)) sv1) E
theorem snd_dinV {K : PySem.W.Frag} {g : Bool → Bool} {i : Nat} {ty : TE} {fk : De} (h1 : SndE K W ty fk) : SndE K W (fun σ H Q => ty σ H fun y H1 => tVar i σ H1 fun x H2 => ∃ a o, x = .ref a ∧ DGet H2 a y o ∧ Q (.bl (g o.isSome)) H2) (dDinV g i fk) := fun F P H σ sv Q E R r kk kx q =>
  h1 F P H σ sv _ E _ r (fun y H1 P1 k sv1 r1 t1 ry q1 => by
    obtain ⟨d, o, hs, e, q1⟩ := q1
    obtain ⟨a, ov, ho, gg, m⟩ := slot_dg r1 hs ry e
    refine ⟨_, ho, a, ov, rfl, gg, kk _ H1 P1 (.bl (g o.isSome)) sv1 r1 t1 ?_ q1⟩
    cases o with
    | none => obtain rfl : ov = none := m; rfl
    | some z => obtain ⟨w, rfl, _⟩ := m; rfl) kx q
section
variable {a : Expr} {x : Str} {p : Pos} {i : Nat} {fk : De} (hu : X.A.units + 1 < cLine) (hN : X.N[i]? = some x) (hv : Vis X.env.scope x) (h1 : PD X W a fk)
include hu hN hv h1
theorem pd_dinV (hd : (x == ("__debug__" : Str)) = false := by decide) (hcd : (x == ("__classdict__" : Str)) = false := by decide) (hm : behindInMarks .In (.Name x p) = false := by rfl) : PD X W (.Compare a [.In] [.Name x p] pos) (dDinV id i fk) := by
  obtain ⟨ta, p1, s1⟩ := h1
  exact ⟨_, pe_cmp (pc_din hu p1 (pe_var hN hv hd hcd)) hm, snd_dinV (g := id) s1⟩
theorem pd_dnotinV (hd : (x == ("__debug__" : Str)) = false := by decide) (hcd : (x == ("__classdict__" : Str)) = false := by decide) (hm : behindInMarks .NotIn (.Name x p) = false := by rfl) : PD X W (.Compare a [.NotIn] [.Name x p] pos) (dDinV not i fk) := by
  obtain ⟨ta, p1, s1⟩ := h1
  exact ⟨_, pe_cmp (pc_dnotin hu p1 (pe_var hN hv hd hcd)) hm, snd_dinV (g := not) s1⟩
theorem pdt_dinV (hd : (x == ("__debug__" : Str)) = false := by decide) (hcd : (x == ("__classdict__" : Str)) = false := by decide) (hm : behindInMarks .In (.Name x p) = false := by rfl) : PDT X W (.Compare a [.In] [.Name x p] pos) (dTest (dDinV id i fk)) := by
  obtain ⟨ta, p1, s1⟩ := h1
  exact ⟨_, pt_cmp (pc_din hu p1 (pe_var hN hv hd hcd)) hm, snd_tB (snd_dinV (g := id) s1)⟩
theorem pdt_dnotinV (hd : (x == ("__debug__" : Str)) = false := by decide) (hcd : (x == ("__classdict__" : Str)) = false := by decide) (hm : behindInMarks .NotIn (.Name x p) = false := by rfl) : PDT X W (.Compare a [.NotIn] [.Name x p] pos) (dTest (dDinV not i fk)) := by
  obtain ⟨ta, p1, s1⟩ := h1
  exact ⟨_, pt_cmp (pc_dnotin hu p1 (pe_var hN hv hd hcd)) hm, snd_tB (snd_dinV (g := not) s1)⟩
end
/-- x = {..} -/
theorem Rel.setNewD {K : PySem.W.Frag} {F : Fr} {P H : Hp} {σ : L2.St} {sv : Sv} (r : Rel K F P H σ sv) {i : Nat} {p : Addr} {d : D} (h : NewD K F P H σ sv p d) : Rel K F P H (σ.set i (some (.ref p))) (sv.set i (.dct d)) := by
  obtain ⟨o, h1, ho, h2, h3, h5, h6⟩ := h
  refine ⟨by rw [List.length_set, List.length_set]; exact r.len, r.lim, r.sub, r.p0, r.new, r.ext, r.selfs, r.bags, fun j s o e1 e2 => ?_, fun j k s t o u q ne e1 e2 a1 a2 s1 s2 eo eu => ?_, fun q ws hq => ?_⟩
  · by_cases hj : j = i
    · subst hj
      rw [List.getElem?_set, if_pos rfl] at e1 e2
      split at e1
      · cases e1
        split at e2
        · cases e2
          exact ⟨p, rfl, h2, h3, ho.at h1⟩
        · cases e2
      · cases e1
    · rw [List.getElem?_set_ne (Ne.symm hj)] at e1 e2
      exact r.sl j s o e1 e2
  · by_cases hj : j = i
    · subst hj
      have hk : k ≠ j := fun z => ne z.symm
      rw [List.getElem?_set_ne (Ne.symm hk)] at e2 s2
      rw [List.getElem?_set, if_pos rfl] at s1
      split at s1
      · cases s1
        cases eo
        rw [eu] at s2
        exact h5 k t e2 a2 s2
      · cases s1
    · rw [List.getElem?_set_ne (Ne.symm hj)] at e1 s1
      by_cases hk : k = i
      · subst hk
        rw [List.getElem?_set, if_pos rfl] at s2
        split at s2
        · cases s2
          cases eu
          rw [eo] at s1
          exact h5 j s e1 a1 s1
        · cases s2
      · rw [List.getElem?_set_ne (Ne.symm hk)] at e2 s2
        exact r.apart j k s t o u q ne e1 e2 a1 a2 s1 s2 eo eu
  · obtain ⟨z1, z2, z3, z4⟩ := r.kept q ws hq
    refine ⟨z1, z2, z3, fun m s e1 a1 => ?_⟩
    by_cases hm : m = i
    · subst hm
      rw [List.getElem?_set, if_pos rfl]
      split
      · intro z
        injection z with z5
        injection z5 with z6
        injection z6 with z7
        exact h6 q ws hq z7.symm
      · intro z
        cases z
    · rw [List.getElem?_set_ne (Ne.symm hm)] at e1 ⊢
      exact z4 m s e1 a1
@[simp] def dSetN (i : Nat) (f : De) : Ds := fun sv D => f sv (fun d sv1 => D.nx (sv1.set i (.dct d))) D.ex
theorem pds_setN {i : Nat} {x : Str} {e : Expr} {g : De} {pos' : Pos} (hN : X.N.Nodup) (hi : X.N[i]? = some x) (hx : Loc X.env.scope x) (he : PDN X W e g) (hs : swapsWith e (some (.Name x pos')) pos.line X.env = pure false := by rfl)
    (hf : X.fn x = true ∨ X.env.scope.names.lookup x = some .local := by first | exact .inl rfl | exact .inr rfl | assumption) : PDS X W (.Assign [.Name x pos'] e pos) (dSetN i g) := by
  obtain ⟨t, p, s⟩ := he
  exact ⟨_, ps_set hN hi hx p hs hf, fun F P H σ sv D Dd r l q => s F P H σ sv _ _ _ r (fun p' H1 P1 d sv1 r1 s1 n q1 => l.nx _ H1 P1 _ (Rel.setNewD r1 n) s1 q1) (fun cls dd H1 P1 x sv1 r1 rx q1 => l.ex cls dd σ H1 P1 x sv1 r1 rx q1) q⟩
/-- x[k] = v -/
theorem Rel.setDct {K : PySem.W.Frag} {F : Fr} {P H : Hp} {σ : L2.St} {sv : Sv} {i : Nat} {d d' : D} {o' : HO} (r : Rel K F P H σ sv) (h : sv[i]? = some (.dct d)) {p : Addr} (hp : σ[i]? = some (some (.ref p))) (rv : DHo K P d' o') : Rel K F P (upd H p o') σ (sv.set i (.dct d')) := by
  obtain ⟨o, ho, p', eo, h2, h3, h4⟩ := rel_get r h
  rw [hp] at ho
  cases ho
  cases eo
  have hi : i < sv.length := (List.getElem?_eq_some_iff.mp h).1
  have nb : ∀ a, F.B0 a → a ≠ p := fun a hb e => by
    obtain ⟨_, ⟨u, hu⟩, _⟩ := r.bags a hb
    rw [e, h3] at hu
    cases hu
  refine ⟨by rw [List.length_set]; exact r.len, r.lim, fun a u e => ?_, r.p0, r.new, fun a u e nb ns => ?_, fun a hs => ?_, fun a hb => ?_, fun j s u e1 e2 => ?_, fun j k s t u w q ne e1 e2 a1 a2 s1 s2 eu ew => ?_, fun q xs hq => ?_⟩
  · have ne : a ≠ p := fun z => by
      rw [z, h2] at e
      cases e
    rw [upd_ne ne]
    exact r.sub a u e
  · have ne : a ≠ p := fun z => by
      rw [z, h3] at e
      cases e
    rw [upd_ne ne]
    exact r.ext a u e nb ns
  · obtain ⟨z1, ⟨u, hu⟩, C, dx, fs, z3⟩ := r.selfs a hs
    have ne : a ≠ p := fun z => by
      rw [z, h3] at hu
      cases hu
    exact ⟨z1, ⟨u, hu⟩, C, dx, fs, by rw [upd_ne ne]; exact z3⟩
  · obtain ⟨z1, z2, x, y, z, z3, z4⟩ := r.bags a hb
    exact ⟨z1, z2, x, y, z, by rw [upd_ne (nb a hb)]; exact z3, z4⟩
  · by_cases hj : j = i
    · subst hj
      rw [List.getElem?_set_self hi] at e1
      cases e1
      rw [hp] at e2
      cases e2
      exact ⟨p, rfl, h2, h3, rv.at upd_same⟩
    · rw [List.getElem?_set_ne (Ne.symm hj)] at e1
      have q := r.sl j s u e1 e2
      have ap : ∀ {q' : Addr}, s.addr = true → u = some (.ref q') → q' ≠ p := fun {q'} as e z => by
        subst z e
        exact r.apart j i _ _ _ _ q' hj e1 h as rfl e2 hp rfl rfl
      cases s with
      | un => trivial
      | dat d => exact q
      | own es =>
        obtain ⟨q', xs, e, z1, z⟩ := q
        exact ⟨q', xs, e, by rw [upd_ne (ap rfl e)]; exact z1, z⟩
      | bag n =>
        obtain ⟨q', e, z1, z2, x, y, z, z3, z4⟩ := q
        exact ⟨q', e, z1, z2, x, y, z, by rw [upd_ne (ap rfl e)]; exact z3, z4⟩
      | slf C ns es =>
        obtain ⟨q', dx, xs, e, z1, z⟩ := q
        exact ⟨q', dx, xs, e, by rw [upd_ne (ap rfl e)]; exact z1, z⟩
      | exc x => exact q
      | dct d =>
        obtain ⟨q', e, z1, z2, z⟩ := q
        exact ⟨q', e, z1, z2, z.mono (Sub.refl P) fun o ho => by rw [upd_ne (ap rfl e)]; exact ho⟩
  · have back : ∀ {m : Nat} {z : Sl}, (sv.set i (.dct d'))[m]? = some z → z.addr = true → ∃ z', sv[m]? = some z' ∧ z'.addr = true := fun {m z} em az => by
      by_cases hm : m = i
      · subst hm
        exact ⟨_, h, rfl⟩
      · rw [List.getElem?_set_ne (Ne.symm hm)] at em
        exact ⟨z, em, az⟩
    obtain ⟨s', b1, c1⟩ := back e1 a1
    obtain ⟨t', b2, c2⟩ := back e2 a2
    exact r.apart j k s' t' u w q ne b1 b2 c1 c2 s1 s2 eu ew
  · obtain ⟨z1, z2, z3, z4⟩ := r.kept q xs hq
    have ne : q ≠ p := fun z => by
      subst z
      exact z4 i _ h rfl hp
    refine ⟨by rw [upd_ne ne]; exact z1, z2, z3, fun m s e1 a1 => ?_⟩
    by_cases hm : m = i
    · subst hm
      exact z4 m _ h rfl
    · rw [List.getElem?_set_ne (Ne.symm hm)] at e1
      exact z4 m s e1 a1
theorem put_rel {K : PySem.W.Frag} {P H : Hp} {p : Addr} {d d' k x : D} {y v : V} (sP : Sub P H) (h : DctAt K P H p d) (ry : Rp K P k y) (rx : Rp K P x v) (e : putD d k x = some d') : ∃ o', DHo K P d' o' ∧ DPut H p y v (upd H p o') := by
  unfold putD at e
  split at e
  · rename_i ks xs
    obtain ⟨vs, ho, hl, rl⟩ := h
    split at e
    · rename_i k0 ek
      split at e
      · rename_i lt
        have hz : (ks.zip vs).length < sizeLine := by rw [zip_len hl]; exact Nat.lt_of_lt_of_le lt (by decide)
        obtain rfl := keyD_v ek ry
        refine ⟨.dK (putK (ks.zip vs) k0 v), ?_, .inl ⟨_, k0, ho, rfl, hz, rfl⟩⟩
        rw [putK_zip hl]
        by_cases m : memZ k0 ks = true
        · rw [if_pos m] at e ⊢
          cases e
          exact ⟨_, rfl, by rw [setZ_len]; exact hl, setZ_rel rx rl⟩
        · rw [if_neg m] at e ⊢
          cases e
          exact ⟨_, rfl, by simp [hl], rl.append ⟨v, [], rfl, rx, rfl⟩⟩
      · cases e
    · cases e
  · rename_i ks xs
    obtain ⟨vs, ho, hl, rl⟩ := h
    split at e
    · rename_i ds
      split at e
      · rename_i k0 ek
        split at e
        · rename_i lt
          have hz : (ks.zip vs).length < sizeLine := by rw [zip_len hl]; exact Nat.lt_of_lt_of_le lt (by decide)
          obtain ⟨b, us, rfl, eb, ru⟩ := ry
          obtain rfl := keysD_v ek ru
          refine ⟨.dT (putK (ks.zip vs) k0 v), ?_, .inr ⟨_, k0, b, ho, rfl, sP _ _ eb, hz, rfl⟩⟩
          rw [putK_zip hl]
          by_cases m : memZ k0 ks = true
          · rw [if_pos m] at e ⊢
            cases e
            exact ⟨_, rfl, by rw [setZ_len]; exact hl, setZ_rel rx rl⟩
          · rw [if_neg m] at e ⊢
            cases e
            exact ⟨_, rfl, by simp [hl], rl.append ⟨v, [], rfl, rx, rfl⟩⟩
        · cases e
      · cases e
    · cases e
  · cases e
@[simp] def dPutV (i : Nat) (fk fv : De) : Ds := fun sv D => fv sv (fun x sv1 => (∃ d0, sv1[i]? = some (.dct d0)) ∧ fk sv1 (fun k sv2 => ∃ d d', sv2[i]? = some (.dct d) ∧ putD d k x = some d' ∧ D.nx (sv2.set i (.dct d'))) D.ex) D.ex
theorem snd_putV {K : PySem.W.Frag} {i : Nat} {ty tv : TE} {fk fv : De} (h1 : SndE K W ty fk) (h2 : SndE K W tv fv) : SndS K W (sDPut (tVar i) ty tv) (dPutV i fk fv) := fun F P H σ sv D Dd r l q =>
  h2 F P H σ sv _ _ _ r (fun v H1 P1 x sv1 r1 t1 rx q1 => by
    obtain ⟨⟨d0, e0⟩, q1⟩ := q1
    obtain ⟨o, ho, p, rfl, _⟩ := rel_get r1 e0
    refine ⟨_, ho, h1 F P1 H1 σ sv1 _ _ _ r1 (fun y H2 P2 k sv2 r2 t2 ry q2 => ?_) (fun cls dd H1 P1 x sv1 r1 rx q1 => l.ex cls dd σ H1 P1 x sv1 r1 rx q1) q1⟩
    obtain ⟨d, d', es, e, q2⟩ := q2
    obtain ⟨o', ho', p', rfl, h2', h3, h4⟩ := rel_get r2 es
    rw [ho] at ho'
    cases ho'
    obtain ⟨o', rd, dp⟩ := put_rel r2.sub h4 ry (Rp.mono t2 x v rx) e
    exact ⟨p, _, rfl, dp, l.nx σ _ P2 _ (Rel.setDct r2 es ho rd) (t1.trans t2) q2⟩) (fun cls dd H1 P1 x sv1 r1 rx q1 => l.ex cls dd σ H1 P1 x sv1 r1 rx q1) q
theorem pds_putV {i : Nat} {x : Str} {b value : Expr} {p pos' : Pos} {fk fv : De} (hu : X.A.units + 1 < cLine) (hN : X.N[i]? = some x) (hv : Vis X.env.scope x) (h1 : PD X W b fk) (h2 : PD X W value fv) (hd : (x == ("__debug__" : Str)) = false := by decide) (hcd : (x == ("__classdict__" : Str)) = false := by decide)
    (hs : swapsWith value (some (.Subscript (.Name x p) b pos')) pos.line X.env = pure false := by rfl) : PDS X W (.Assign [.Subscript (.Name x p) b pos'] value pos) (dPutV i fk fv) := by
  obtain ⟨tk, p1, s1⟩ := h1
  obtain ⟨tv, p2, s2⟩ := h2
  exact ⟨_, ps_dput hu (pe_var hN hv hd hcd) p1 p2 hs, snd_putV s1 s2⟩
/-! ### list(d), len(d) -/
def unK : Key → D
  | .inl i => .int i
  | .inr s => .str s
theorem rpl_keys {K : PySem.W.Frag} {P : Hp} : ∀ (ks : List Key), RpL K P (ks.map unK) (ks.map kV)
  | [] => rfl
  | k :: ks => ⟨_, _, rfl, by cases k <;> rfl, rpl_keys ks⟩
@[simp] def dListD (fa : De) : Dl := fun sv Q E => fa sv (fun d sv1 => ∃ ks xs, d = .dk ks xs ∧ Q (ks.map unK) sv1) E
theorem pdl_listD {p : Pos} {e : Expr} {f : De} (hc : X.calm = true) (hm : X.mg "list" = none) (ha : PD X W e f) (hg : Gl X "list" := by rfl) (he : starEach [e] X.env = (false, eval e X.env) :: starEach [] X.env := by rfl) : PDL X W (.Call (.Name "list" p) [e] [] pos) (dListD f) := by
  obtain ⟨ta, p1, s1⟩ := ha
  refine ⟨_, pe_callTy (call_listD hc) hg hm boot_list'' (pa_cons p1 pa_nil he) (by decide) (by decide) he, fun F P H σ sv Q E R re k kx q => s1 F P H σ sv _ E _ re (fun v H1 P1 d sv1 r1 s1' rv q1 => ?_) kx q⟩
  obtain ⟨ks, xs, rfl, q1⟩ := q1
  obtain ⟨a, vs, ob, rfl, e1, hl, rl⟩ := rv
  refine ⟨a, ks.zip vs, rfl, .inr ⟨ob, r1.sub _ _ e1⟩, fun l hl' => ?_⟩
  have em : (ks.zip vs).map (fun kv => kV kv.1) = ks.map kV := by
    have : (ks.zip vs).map (fun kv => kV kv.1) = ((ks.zip vs).map Prod.fst).map kV := by rw [List.map_map]; rfl
    rw [this, List.map_fst_zip (by rw [hl]; exact Nat.le_refl _)]
  rw [em]
  exact k l _ _ _ sv1 (r1.layH hl') s1' (r1.newL hl' (rpl_keys ks)) q1
theorem call_lenF : CallR X (.builtin "len") (fun xs H Q => (∃ a kvs, xs = [V.ref a] ∧ Rd H a (.dK kvs) ∧ Q (.int kvs.length) H) ∨ ∃ a kvs, xs = [V.ref a] ∧ Rd H a (.dT kvs) ∧ Q (.int kvs.length) H) := by
  intro pins s σ H xs us Q I r h
  rcases h with ⟨a, kvs, rfl, ha, q⟩ | ⟨a, kvs, rfl, ha, q⟩
  · obtain ⟨u, rfl, ru⟩ := vals1 r
    cases ru
    exact d_len I ha fun t s' I' => ⟨.int kvs.length, H, I', ⟨t, rfl⟩, q⟩
  · obtain ⟨u, rfl, rx⟩ := vals1 r
    obtain rfl : u = .ref a := rx
    obtain ⟨z, hd, ys, rel, dd⟩ := dt_rd I.hok ha
    have hl : kvs.length = ys.length := Paired.length rel
    refine call_len_dictH hd dd (by rw [← hl]; rw [sizeLine_eq] at z; omega) ?_
    rw [← hl]
    exact ⟨.int ((kvs.length : Nat) : Int), H, I.tok _, ⟨_, rfl⟩, q⟩
@[simp] def gLenF : G1 := fun ds Q => (∃ ks xs, ds = [.dk ks xs] ∧ Q (.int ks.length)) ∨ ∃ ks xs, ds = [.dt ks xs] ∧ Q (.int ks.length)
theorem snd_lenF {K : PySem.W.Frag} : SndC K (fun xs H Q => (∃ a kvs, xs = [V.ref a] ∧ Rd H a (.dK kvs) ∧ Q (.int kvs.length) H) ∨ ∃ a kvs, xs = [V.ref a] ∧ Rd H a (.dT kvs) ∧ Q (.int kvs.length) H) gLenF := fun F P H σ sv vs ds Q R re rv k q => by
  rcases q with ⟨ks, xs, rfl, q⟩ | ⟨ks, xs, rfl, q⟩
  · obtain ⟨v, r, rfl, ⟨a, ws, ob, rfl, e1, hl, rl⟩, rfl⟩ := rv
    refine .inl ⟨a, _, rfl, .inr ⟨ob, re.sub _ _ e1⟩, ?_⟩
    rw [zip_len hl]
    exact k _ H P (.int ks.length) re (Sub.refl P) rfl q
  · obtain ⟨v, r, rfl, ⟨a, ws, ob, rfl, e1, hl, rl⟩, rfl⟩ := rv
    refine .inr ⟨a, _, rfl, .inr ⟨ob, re.sub _ _ e1⟩, ?_⟩
    rw [zip_len hl]
    exact k _ H P (.int ks.length) re (Sub.refl P) rfl q
theorem pd_lenF {p : Pos} {e : Expr} {fa : Da} (hm : X.mg "len" = none) (ha : PDA X W [e] fa) (hg : Gl X "len" := by rfl) (he : starEach [e] X.env = (false, eval e X.env) :: starEach [] X.env := by rfl) : PD X W (.Call (.Name "len" p) [e] [] pos) (dCB gLenF fa) :=
  pd_callB call_lenF snd_lenF PySem.boot_len hg hm ha (by decide) (by decide) he
/-! ### str(int), xs[::-1], enumerate(xs) -/
@[simp] def gStrI : G1 := fun ds Q => ∃ i : Int, ds = [.int i] ∧ i.natAbs.log2 < 1920 ∧ Q (.str (toString i))
theorem snd_strI {K : PySem.W.Frag} : SndC K (fun xs H Q => ∃ i : Int, xs = [.int i] ∧ i.natAbs.log2 < 1920 ∧ Q (.str (toString i)) H) gStrI := fun F P H σ sv vs ds Q R re rv k q => by
  obtain ⟨i, rfl, hi, q⟩ := q
  obtain ⟨v, r, rfl, rv, rfl⟩ := rv
  obtain rfl := rv
  exact ⟨i, rfl, hi, k _ H P (.str (toString i)) re (Sub.refl P) rfl q⟩
theorem boot_str' : bootBuiltins "str" = some (.type "str") := by decide +kernel
theorem pd_strI {p : Pos} {e : Expr} {fa : Da} (hm : X.mg "str" = none) (ha : PDA X W [e] fa) (hg : Gl X "str" := by rfl) (he : starEach [e] X.env = (false, eval e X.env) :: starEach [] X.env := by rfl) : PD X W (.Call (.Name "str" p) [e] [] pos) (dCB gStrI fa) :=
  pd_callTy call_str_int snd_strI boot_str' hg hm ha (by decide) (by decide) he
@[simp] def dRevL (f : De) : Dl := fun sv Q E => f sv (fun d sv1 => ∃ ds, d = .lst ds ∧ Q ds.reverse sv1) E
theorem RpL.reverse {K : PySem.W.Frag} {P : Hp} : ∀ {ds : List D} {vs : List V}, RpL K P ds vs → RpL K P ds.reverse vs.reverse
  | [], _, h => by cases h; exact rfl
  | d :: ds, _, h => by
    obtain ⟨v, r, rfl, h1, h2⟩ := h
    rw [List.reverse_cons, List.reverse_cons]
    exact (RpL.reverse h2).append ⟨v, [], rfl, h1, rfl⟩
theorem pdl_rev {e : Expr} {f : De} {k : Nat} {p1 p2 p3 : Pos} (h : PD X W e f) : PDL X W (.Subscript e (.Slice none none (some (.UnaryOp .USub (.Constant (.int 1) k p1) p2)) p3) pos) (dRevL f) := by
  obtain ⟨t, p, s⟩ := h
  refine ⟨_, pe_revL p, fun F P H σ sv Q E R re kk kx q => s F P H σ sv _ E _ re (fun v H1 P1 d sv1 r1 s1' rv q1 => ?_) kx q⟩
  obtain ⟨ds, rfl, q1⟩ := q1
  obtain ⟨a, vs, rfl, e1, rl⟩ := rv
  exact ⟨a, vs, rfl, SqL.of (r1.sub _ _ e1), fun l hl => kk l _ _ _ sv1 (r1.layH hl) s1' (r1.newL hl (RpL.reverse rl)) q1⟩
@[simp] def dItE (fa : Da) : Dl := fun sv Q E => fa sv (fun as sv1 => ∃ ds, as = [.dat (.lst ds)] ∧ Q (ds.zipIdx.map fun p => .tup [.int (p.2 : Int), p.1]) sv1) E
theorem walks_enum {K : PySem.W.Frag} {a : Addr} {P : Hp} {ds : List D} {vs : List V} (e : P a = some (.lst vs)) (r : RpL K P ds vs) : Walks K (Ite K a) P (ds.zipIdx.map fun p => D.tup [.int (p.2 : Int), p.1]) := by
  refine ⟨fun i H P' s1 s2 hi => ?_, fun i H P' s1 s2 hi => ⟨vs, SqL.of (s2 _ _ (s1 _ _ e)), by rw [r.length]; simpa using hi⟩⟩
  have hs : SqL K H a vs := SqL.of (s2 _ _ (s1 _ _ e))
  have hi' : i < ds.length := by simpa using hi
  have hv : i < vs.length := by rw [r.length]; exact hi'
  refine ⟨⟨vs, vs[i], hs, by simp [hv]⟩, fun x H' ⟨T, y, ex, hT, eH, hy⟩ => ?_⟩
  subst ex eH
  have hT' : P' T = none := by
    cases q : P' T with
    | none => rfl
    | some u => rw [s2 _ _ q] at hT; cases hT
  have up : Sub P' (upd P' T (.tup [.int (i : Nat), y])) := sub_upd hT'
  obtain ⟨d, ed, rd⟩ := (RpL.mono (s1.trans up) ds vs r).get (hy vs hs)
  refine ⟨upd P' T (.tup [.int (i : Nat), y]), up, fun a' o q => ?_, sub_upd hT, fun a' o q => ?_, .tup [.int (i : Int), d], by simp [ed], T, _, rfl, upd_same, _, _, rfl, rfl, _, _, rfl, rd, rfl⟩
  · by_cases ha : a' = T
    · rw [ha]; exact .inr (.inl hT)
    · rw [upd_ne ha] at q; exact .inl q
  · by_cases ha : a' = T
    · rw [ha, upd_same] at q ⊢; exact q
    · rw [upd_ne ha] at q ⊢; exact s2 _ _ q
theorem pdi_enum {e : Expr} {fa : Da} {p tpos : Pos} {elts : List Expr} {kk : Nat} (hm : X.mg "enumerate" = none) (ha : PDA X W [e] fa) (hg : Gl X "enumerate" := by rfl) (hs : starEach [e] X.env = [(false, eval e X.env)] := by rfl) : PDI X W (.Tuple elts kk tpos) (.Call (.Name "enumerate" p) [e] [] pos) (dItE fa) := by
  obtain ⟨t, pa, s⟩ := ha
  refine ⟨_, pi_enum hg hm pa hs, fun F P H σ sv Q E R r k kx q => s F P H σ sv _ E _ r (fun vs H1 P1 as sv1 r1 s1 ra q1 => ?_) kx q⟩
  obtain ⟨ds, rfl, q1⟩ := q1
  obtain ⟨v, rr, rfl, ⟨a, ws, rfl, e1, rl⟩, rfl⟩ := ra
  exact ⟨a, ws, rfl, SqL.of (r1.sub _ _ e1), k _ H1 P1 _ sv1 r1 s1 (walks_enum e1 rl) q1⟩
/-! ### f-strings -/
@[simp] def dFmt (f : De) : De := fun sv Q E => f sv (fun d sv1 => (∃ s : Str, d = .str s ∧ s.length ≤ sizeLine ∧ Q (.str s) sv1) ∨ ∃ i : Int, d = .int i ∧ i.natAbs.log2 < 1920 ∧ Q (.str (toString i)) sv1) E
theorem pd_fmt {e : Expr} {f : De} (h : PD X W e f) : PD X W (.FormattedValue e (-1) none pos) (dFmt f) := by
  obtain ⟨t, p, s⟩ := h
  refine ⟨_, pe_fmt p, fun F P H σ sv Q E R re kk kx q => s F P H σ sv _ E _ re (fun v H1 P1 d sv1 r1 s1' rv q1 => ?_) kx q⟩
  rcases q1 with ⟨z, rfl, hz, q1⟩ | ⟨i, rfl, hz, q1⟩
  · obtain rfl := rv
    exact .inl ⟨z, rfl, hz, kk _ H1 P1 (.str z) sv1 r1 s1' rfl q1⟩
  · obtain rfl := rv
    exact .inr ⟨i, rfl, hz, kk _ H1 P1 (.str (toString i)) sv1 r1 s1' rfl q1⟩
def dJs : List De → Str → Sv → (Str → Sv → Prop) → DX → Prop
  | [], acc, sv, Q, _ => Q acc sv
  | f :: fs, acc, sv, Q, E => f sv (fun d sv1 => ∃ y : Str, d = .str y ∧ (acc ++ y).length ≤ sizeLine ∧ dJs fs (acc ++ y) sv1 Q E) E
inductive PDJ (X : Cx) (W : Wz) : List Expr → List De → Prop where
  | nil : PDJ X W [] []
  | cons {e : Expr} {f : De} {es : List Expr} {fs : List De} (h : PD X W e f) (r : PDJ X W es fs) : PDJ X W (e :: es) (f :: fs)
theorem pdj_ex {es : List Expr} {fs : List De} (h : PDJ X W es fs) : ∃ ts, PJ X es ts ∧ ∀ (acc : Str) (F : Fr) (P H : Hp) (σ : L2.St) (sv : Sv) (Q : Str → Sv → Prop) (E : DX) (R : Str → Hp → Prop), Rel X.K (F.at W.z) P H σ sv →
    (∀ out H' P' sv', Rel X.K (F.at W.z) P' H' σ sv' → Sub P P' → Q out sv' → R out H') → (∀ cls dd H' P' x sv', Rel X.K (F.at W.z) P' H' σ sv' → XdRel X.K P' H' x cls dd → E x sv' → W cls dd σ H') → dJs fs acc sv Q E → tJs ts acc σ H R := by
  induction h with
  | nil => exact ⟨[], .nil, fun acc F P H σ sv Q E R r k kx q => k acc H P sv r (Sub.refl P) q⟩
  | cons h r ih =>
    obtain ⟨t, p, s⟩ := h
    obtain ⟨ts, pj, sj⟩ := ih
    refine ⟨t :: ts, .cons p pj, fun acc F P H σ sv Q E R r k kx q => s F P H σ sv _ E _ r (fun v H1 P1 d sv1 r1 t1 rv q1 => ?_) kx q⟩
    obtain ⟨y, rfl, hy, q1⟩ := q1
    obtain rfl := rv
    exact ⟨y, rfl, hy, sj _ F P1 H1 σ sv1 Q E R r1 (fun out H' P' sv' r' t' q' => k out H' P' sv' r' (t1.trans t') q') kx q1⟩
@[simp] def dJoined (fs : List De) : De := fun sv Q E => dJs fs Str.empty sv (fun z sv1 => Q (.str z) sv1) E
theorem pd_joined {v1 v2 : Expr} {rest : List Expr} {fs : List De} (h : PDJ X W (v1 :: v2 :: rest) fs) : PD X W (.JoinedStr (v1 :: v2 :: rest) pos) (dJoined fs) := by
  obtain ⟨ts, pj, sj⟩ := pdj_ex h
  exact ⟨_, pe_joined pj, fun F P H σ sv Q E R r k kx q => sj Str.empty F P H σ sv _ E _ r (fun out H' P' sv' r' t' q' => k (.str out) H' P' (.str out) sv' r' t' rfl q') kx q⟩
end
end Pg
end
section
set_option autoImplicit false
set_option Elab.async false
set_option linter.all false
set_option autoImplicit false
set_option maxRecDepth 100000
set_option maxHeartbeats 4000000
/-! Pg3: defs that give a new list, which the caller may change: o.m(..).append(x). -/
namespace Pg
open PySem PySem.Spec PyProof.Rows L2 Pd Pf
/-- a def's promise where what it gives is a list that nobody knows -/
def spF (K : PySem.W.Frag) (n : Nat) (ct : Ct) : Sp := fun vs H Q E => ∃ (P : Hp) (B : Addr → Prop) (L : Int) (as : DA), Pd.Sub P H ∧ L ≤ 2 ^ 39 ∧ OsRel K P B as vs ∧ as.length = n ∧ oneNone as ∧ (∀ a, B a → P a = none ∧ DrawsAt H a L ct.cost) ∧
  ct.c as (fun d => ∀ (p : Addr) (ds : List D) (ws : List V) (H' P' : Hp), d = .lst ds → Post P H B L P' H' → H' p = some (.lst ws) → P' p = none → H p = none → RpL K P' ds ws → Q (.ref p) H') (fun x => ∀ cls dd H' P', Post P H B L P' H' → XdRel K P' H' x cls dd → E cls dd H')
theorem spF_len {K : PySem.W.Frag} {n : Nat} {ct : Ct} : ∀ vs H Q E, spF K n ct vs H Q E → vs.length = n := fun vs H Q E ⟨P, B, L, as, _, _, h, hl, _⟩ => by rw [h.length, hl]
structure LinkL (K : PySem.W.Frag) (W : Wz) (F : Fr) (D : Ends) (Dd : Ed) : Prop where
  rt : ∀ σ' H' P' sv' p ds, Rel K (F.at W.z) P' H' σ' sv' → NewL K (F.at W.z) P' H' σ' sv' p ds → Dd.rt (.lst ds) → D.rt (.ref p) H'
  ex : ∀ cls dd σ' H' P' x sv', Rel K (F.at W.z) P' H' σ' sv' → XdRel K P' H' x cls dd → Dd.ex x sv' → W cls dd σ' H'
def PDSsL (X : Cx) (W : Wz) (st : List Stmt) (f : Ds) : Prop := ∃ t, PSs X st t ∧ ∀ (F : Fr) (P H : Hp) (σ : L2.St) (sv : Sv) (D : Ends) (Dd : Ed), Rel X.K (F.at W.z) P H σ sv → LinkL X.K W F D Dd → f sv Dd → t D σ H
section
variable {X : Cx} {W : Wz} {pos : Pos}
@[simp] def dRetL (g : Dl) : Ds := fun sv D => g sv (fun ds _ => D.rt (.lst ds)) D.ex
theorem pdssL_ret {e : Expr} {g : Dl} (he : PDL X W e g) : PDSsL X W [.Return (some e) pos] (dRetL g) := by
  obtain ⟨t, p, s⟩ := he
  exact ⟨_, pss_one (ps_ret p), fun F P H σ sv D Dd r l q => s F P H σ sv _ _ _ r (fun p H1 P1 ds sv1 r1 s1 n q1 => l.rt σ H1 P1 sv1 p ds r1 n q1) (fun cls dd H1 P1 x sv1 r1 rx q1 => l.ex cls dd σ H1 P1 x sv1 r1 rx q1) q⟩
@[simp] def dSeqL (f g : Ds) : Ds := fun sv D => f sv { nx := fun sv1 => g sv1 D, rt := fun _ => False, ex := D.ex }
theorem pdssL_cons {st : Stmt} {rest : List Stmt} {f g : Ds} (h1 : PDS X W st f) (h2 : PDSsL X W rest g) : PDSsL X W (st :: rest) (dSeqL f g) := by
  obtain ⟨t, p1, s1⟩ := h1
  obtain ⟨u, p2, s2⟩ := h2
  exact ⟨_, pss_cons p1 p2, fun F P H σ sv D Dd r l q => s1 F P H σ sv _ { nx := fun sv1 => g sv1 Dd, rt := fun _ => False, ex := Dd.ex } r ⟨fun σ' H' P' sv' r' t' q' => s2 F P' H' σ' sv' D Dd r' l q', fun _ _ _ _ _ _ _ _ z => z.elim, fun _ _ _ _ _ _ z => z.elim, fun _ _ _ _ _ _ z => z.elim, l.ex⟩ q⟩
end
section
variable {P : Program} {w : World} {K : PySem.W.Frag} {mg : Str → Option Value} {base : Heap} {x qual : Str} {params : Arguments} {body : List Stmt} {scope : Scope} {dvs : List V} {kws : List (Str × V)} {f : Addr} {fd : FuncData}
theorem fd_bodyL {N ps : List Str} {k : Nat} {ct : Ct} {fb : Ds} (F : FunD K x qual params body scope dvs kws f fd) (S : FnScope N ps scope)
    (hbody : ∀ (cdv : Value) (A : Around) (outer : List Env) (s : Shared) (H : Hp) (E : XK), Room k (A.deeper (envOfC qual scope s.heap.objs.size f cdv)) → A.guards = some [] →
      Takes (cxOf (L2.CX P w) P w K mg base N qual scope f cdv A outer s H E) (wF E).w → PassesOwn (model P w) (A.deeper (envOfC qual scope s.heap.objs.size f cdv)) (envOfC qual scope s.heap.objs.size f cdv) (cxOf (L2.CX P w) P w K mg base N qual scope f cdv A outer s H E).xe →
      PDSsL (cxOf (L2.CX P w) P w K mg base N qual scope f cdv A outer s H E) (wF E) body fb)
    (hc : ∀ as Q E, as.length = ps.length → ct.c as Q E → fb (sv0 N ct.cost as) { nx := fun _ => False, rt := Q, ex := fun x _ => E x }) : Fd P w K mg base (k + 1) f fd ps (spF K ps.length ct) := by
  refine fd_of F S spF_len fun cdv A outer s H vs Q E hr hG hsp => ?_
  obtain ⟨P0, B, L, as, h1, h2, h3, h4, h5, h6, h7⟩ := hsp
  have tk : Takes (cxOf (L2.CX P w) P w K mg base N qual scope f cdv A outer s H E) (wF E).w := takes_of rfl rfl rfl rfl
  have pw : PassesOwn (model P w) (A.deeper (envOfC qual scope s.heap.objs.size f cdv)) (envOfC qual scope s.heap.objs.size f cdv) (cxOf (L2.CX P w) P w K mg base N qual scope f cdv A outer s H E).xe := PassesOwn.leaving
  obtain ⟨t, ht, hs⟩ := hbody cdv A outer s H E hr hG tk pw
  have hN : as.length ≤ N.length := by
    have := congrArg List.length S.pre
    rw [List.length_take] at this
    omega
  refine ⟨t, ht, hs ⟨H, P0, B, fun _ => False, L, [], none⟩ P0 H (L2.start N vs) (sv0 N ct.cost as) _ _ (rel0 hN h1 h2 h3 h5 h6) ⟨?_, ?_⟩ (hc as _ _ h4 h7)⟩
  · intro σ' H' P' sv' p ds r n q
    obtain ⟨ws, n1, n2, n3, n4, _⟩ := n
    exact q p ds ws H' P' rfl (post0 r) n1 n2 n3 n4
  · exact fun cls dd σ' H' P' x sv' r rx q => q cls dd H' P' (post0 r) rx
end
/-- from the caller's side; no draws among the arguments -/
theorem snd_callF {K : PySem.W.Frag} {W : Wz} {F : Fr} {P H : Hp} {σ : L2.St} {sv : Sv} {ct : Ct} {n : Nat} {as : List Ar} {vs : List V} {Q : List D → Sv → Prop} {E : DX} {R : VK} (mono : ∀ as Q Q' E E', (∀ d, Q d → Q' d) → (∀ x, E x → E' x) → ct.c as Q E → ct.c as Q' E') (hn : as.length = n)
    (r : Rel K F P H σ sv) (ra : ArsRel K P σ as vs) (k : ∀ p H' P' ds, Rel K F P' H' σ sv → Pd.Sub P P' → NewL K F P' H' σ sv p ds → Q ds sv → R (.ref p) H')
    (kx : ∀ cls dd H' P' x sv', Rel K F P' H' σ sv' → XdRel K P' H' x cls dd → E x sv' → W cls dd σ H') (nb : oneBag.noBag as) (q : ct.c (as.map Ar.opt) (fun d => ∃ ds, d = .lst ds ∧ Q ds sv) fun x => E x sv) : spF K n ct vs H R (fun cls dd H' => W cls dd σ H') := by
  refine ⟨P, fun _ => False, F.L, as.map Ar.opt, r.sub, r.lim, os_no ra nb, by rw [List.length_map]; exact hn, noBag_one nb, fun a z => z.elim, mono _ _ _ _ _ (fun d qd p ds ws H' P' ed po h1 h2 h3 h4 => ?_) (fun x qx cls dd H' P' po rx => ?_) q⟩
  · subst ed
    obtain ⟨ds', e, qd⟩ := qd
    cases e
    exact k p H' P' ds (r.called0 po) po.grow ⟨ws, h1, h2, r.free0 h3, h4, fun i s e1 a1 => r.slotNe h3 i s e1 a1, fun q us hq z => by
      obtain ⟨k1, _⟩ := r.kept q us hq
      rw [z, h3] at k1
      cases k1⟩ qd
  · exact kx cls dd H' P' x sv (r.called0 po) rx qx
/-- a method that gives a new list -/
structure MtF (X : Cx) (k : Nat) (C : Addr) (m : Str) (n : Nat) (ct : Ct) : Prop where
  mono : ∀ as Q Q' E E', (∀ d, Q d → Q' d) → (∀ x, E x → E' x) → ct.c as Q E → ct.c as Q' E'
  cls : Cls X.K C
  ex : ∃ (f : Addr) (fd : FuncData) (ps : List Str), ps.length = n ∧ Fd X.prog X.w X.K X.mg X.base k f fd ps (spF X.K n ct) ∧ Meth X.K C m f ∧ Binds X.K fd ps []
/-- o.m(e, ..).append(a text) -/
def dMethApp (C : Addr) (m : Str) (ct : Ct) (n : Nat) (fo : De) (fa : Da) : De := fun sv Q E => fo sv (fun d sv1 => ∃ ns xs, d = .ins C ns xs ∧ m ∉ ns ∧ fa sv1 (fun as sv2 => as.length + 1 = n ∧ oneBag.noBag as ∧ ct.c (some d :: as.map Ar.opt) (fun z => ∃ ds, z = .lst ds ∧ ds.length < 100000 ∧ Q .non sv2) fun x => E x sv2) E) E
theorem snd_methApp {K : PySem.W.Frag} {W : Wz} {C : Addr} {m : Str} {ct : Ct} {n : Nat} {fo : De} {fa : Da} {ta : TE} {t : TA} {z : Str} (mono : ∀ as Q Q' E E', (∀ d, Q d → Q' d) → (∀ x, E x → E' x) → ct.c as Q E → ct.c as Q' E') (h1 : SndE K W ta fo) (h2 : SndA K W t fa) :
    SndE K W (tBM K "list" rAppend (tMethF W C m (spF K n ct) ta t) (tCons (tC (.str z)) tNil)) (dMethApp C m ct n fo fa) := fun F P H σ sv Q E R r kk kx q =>
  h1 F P H σ sv _ E _ r (fun v H1 P1 d sv1 r1 t1 rd q1 => by
    obtain ⟨ns, xs, rfl, hm, q1⟩ := q1
    obtain ⟨a, dx, vs, rfl, e1, e2, e3⟩ := id rd
    refine ⟨a, dx, _, rfl, r1.sub _ _ e1, zip_none hm, ?_⟩
    refine h2 F P1 H1 σ sv1 _ E _ r1 (fun us H2 P2 as sv2 r2 t2 ra q2 => ?_) kx q1
    obtain ⟨q2a, nb, q2⟩ := q2
    refine snd_callF (Q := fun ds sv' => ds.length < 100000 ∧ Q .non sv2) mono (as := .dat (.ins C ns xs) :: as) (by simpa using q2a) r2 ⟨_, _, rfl, Rp.mono t2 _ _ rd, ra⟩ (fun p H' P' ds r' t' n' q' => ?_) kx nb q2
    obtain ⟨hl, q'⟩ := q'
    obtain ⟨ws, rw0, ra'⟩ := r'.aside n'
    obtain ⟨vs', n1, n2, n3, n4, n5, n6⟩ := n'
    have n1' : H' p = some (.lst ws) := (ra'.kept p _ List.mem_cons_self).1
    refine ⟨.inl ⟨rfl, _, SqL.of n1'⟩, p, ws, .str z, rfl, rfl, n1', Nat.lt_of_lt_of_le (by rw [rw0.length]; exact hl) (by decide), ?_⟩
    exact kk .non _ P' .non sv2 (Rel.back (Rel.keepTo (F := F.at W.z) (ws := ws ++ [.str z]) ra' n6)) ((t1.trans t2).trans t') rfl q') kx q
section
variable {X : Cx} {W : Wz} {pos : Pos} {k n kk2 : Nat} {C : Addr} {m : Str} {ct : Ct} {o e : Expr} {es : List Expr} {apos apos2 cpos p2 : Pos} {z : Str} {fo : De} {fa : Da} {pl : Sem Bool}
theorem pd_methApp (T : MtF X k C m n ct) (hr : Room k X.A) (hG : X.A.guards = some []) (tk : Takes X W.w) (ho : PD X W o fo) (ha : PDA X W (e :: es) fa)
    (hst : starEach (e :: es) X.env = (false, eval e X.env) :: starEach es X.env := by rfl) (hpl : (backTo cpos (starEach es X.env)).any (·.1) = false := by rfl)
    (ht : eval (.Call (.Attribute o m apos) (e :: es) [] cpos) X.env = (do
      let ov ← eval o X.env
      standAt apos.atName
      let (f, first) ← holding [ov] (getMethod ov m pl)
      callWith cpos f first (backTo cpos (starEach (e :: es) X.env)) (backToKw cpos (keywordEach [] X.env))) := by rfl)
    (hbase : attributeBase (.Call (.Attribute o m apos) (e :: es) [] cpos) "append" X.env (eval (.Call (.Attribute o m apos) (e :: es) [] cpos) X.env) = eval (.Call (.Attribute o m apos) (e :: es) [] cpos) X.env := by rfl)
    (hfew : ((backTo pos (starEach [.Constant (.str z) kk2 p2] X.env)).all (fun x => !x.1) && (backToKw pos (keywordEach [] X.env)).all (fun x => x.1.isSome) && decide ([Expr.Constant (.str z) kk2 p2].length + ([] : List Keyword).length + (if ([] : List Keyword).isEmpty then 0 else 1) < 30)) = true := by rfl)
    (hline : (apos2.endLine == pos.line) = true := by rfl) (hs : starEach [.Constant (.str z) kk2 p2] X.env = (false, eval (.Constant (.str z) kk2 p2) X.env) :: starEach [] X.env := by rfl) :
    PD X W (.Call (.Attribute (.Call (.Attribute o m apos) (e :: es) [] cpos) "append" apos2) [.Constant (.str z) kk2 p2] [] pos) (dMethApp C m ct n fo fa) := by
  obtain ⟨f, fd, ps, hl, F, M, hb⟩ := T.ex
  obtain ⟨to, p1, s1⟩ := ho
  obtain ⟨ta, p2', s2⟩ := ha
  exact ⟨_, pe_bm PySem.F.plainAttrs_list PySem.F.slot_list_append PySem.F.type_list_append mt_append (pe_methF (W := W) p1 T.cls M F hr hG hb tk p2' hst hpl ht) (pa_cons pe_str pa_nil hs) hbase hfew hline hs (by rfl), snd_methApp T.mono s1 s2⟩
theorem pd_methApp0 (T : MtF X k C m n ct) (hr : Room k X.A) (hG : X.A.guards = some []) (tk : Takes X W.w) (ho : PD X W o fo)
    (ht : eval (.Call (.Attribute o m apos) [] [] cpos) X.env = (do
      let ov ← eval o X.env
      standAt apos.atName
      let (f, first) ← holding [ov] (getMethod ov m pl)
      callWith cpos f first (backTo cpos (starEach [] X.env)) (backToKw cpos (keywordEach [] X.env))) := by rfl)
    (hbase : attributeBase (.Call (.Attribute o m apos) [] [] cpos) "append" X.env (eval (.Call (.Attribute o m apos) [] [] cpos) X.env) = eval (.Call (.Attribute o m apos) [] [] cpos) X.env := by rfl)
    (hfew : ((backTo pos (starEach [.Constant (.str z) kk2 p2] X.env)).all (fun x => !x.1) && (backToKw pos (keywordEach [] X.env)).all (fun x => x.1.isSome) && decide ([Expr.Constant (.str z) kk2 p2].length + ([] : List Keyword).length + (if ([] : List Keyword).isEmpty then 0 else 1) < 30)) = true := by rfl)
    (hline : (apos2.endLine == pos.line) = true := by rfl) (hs : starEach [.Constant (.str z) kk2 p2] X.env = (false, eval (.Constant (.str z) kk2 p2) X.env) :: starEach [] X.env := by rfl) :
    PD X W (.Call (.Attribute (.Call (.Attribute o m apos) [] [] cpos) "append" apos2) [.Constant (.str z) kk2 p2] [] pos) (dMethApp C m ct n fo dNil) := by
  obtain ⟨f, fd, ps, hl, F, M, hb⟩ := T.ex
  obtain ⟨to, p1, s1⟩ := ho
  exact ⟨_, pe_bm PySem.F.plainAttrs_list PySem.F.slot_list_append PySem.F.type_list_append mt_append (pe_methF0 (W := W) p1 T.cls M F hr hG hb tk ht) (pa_cons pe_str pa_nil hs) hbase hfew hline hs (by rfl), snd_methApp T.mono s1 (fun F P H σ sv Q E R r k kx q => k [] H P [] sv r (Pd.Sub.refl P) rfl q)⟩
end
end Pg
end
section
set_option autoImplicit false
set_option Elab.async false
set_option linter.all false
set_option autoImplicit false
set_option maxRecDepth 100000
set_option maxHeartbeats 4000000
/-! Pg4: three targets at once; the words for methods with all named. -/
namespace Pg
open PySem PySem.Spec PyProof.Rows L2 Pd Pf
theorem newL_dat {K : PySem.W.Frag} {F : Fr} {P H : Hp} {σ : L2.St} {sv : Sv} {p : Addr} {ds : List D} {i : Nat} {o : Option V} {d : D} (n : NewL K F P H σ sv p ds) : NewL K F P H (σ.set i o) (sv.set i (.dat d)) p ds := by
  obtain ⟨vs, z1, z2, z3, z4, z5, z6⟩ := n
  refine ⟨vs, z1, z2, z3, z4, fun m s em am => ?_, z6⟩
  by_cases hm : m = i
  · subst hm
    rw [List.getElem?_set, if_pos rfl] at em
    split at em
    · cases em
      cases am
    · cases em
  · rw [List.getElem?_set_ne (Ne.symm hm)] at em ⊢
    exact z5 m s em am
section
variable {X : Cx} {W : Wz} {pos : Pos} {i j l : Nat} {x y z : Str} {a b c : Expr} {px py pz pt : Pos} {kt k2 : Nat} {pt2 : Pos}
@[simp] def dParDLD (i j l : Nat) (f : De) (g : Dl) (h : De) : Ds := fun sv D => f sv (fun d sv1 => g sv1 (fun es sv2 => h sv2 (fun e sv3 => D.nx (((sv3.set i (.dat d)).set j (.own es)).set l (.dat e))) D.ex) D.ex) D.ex
theorem pds_parDLD {f : De} {g : Dl} {h : De} (hc : X.calm = true) (hN : X.N.Nodup) (hi : X.N[i]? = some x) (hj : X.N[j]? = some y) (hl : X.N[l]? = some z) (hij : i ≠ j) (hil : i ≠ l) (hjl : j ≠ l) (hx : X.env.scope.names.lookup x = some .local) (hy : X.env.scope.names.lookup y = some .local) (hz : X.env.scope.names.lookup z = some .local)
    (h1 : PD X W a f) (h2 : PDL X W b g) (h3 : PD X W c h) (hw : swappedStores [.Tuple [.Name x px, .Name y py, .Name z pz] kt pt] (.Tuple [a, b, c] k2 pt2) X.env = pure (some [x, y, z])) (hs : swapsWithSole [.Tuple [.Name x px, .Name y py, .Name z pz] kt pt] (.Tuple [a, b, c] k2 pt2) pos.line X.env = pure false := by rfl)
    (e1 : starEach [a, b, c] X.env = (false, eval a X.env) :: starEach [b, c] X.env := by rfl) (e2 : starEach [b, c] X.env = (false, eval b X.env) :: starEach [c] X.env := by rfl) (e3 : starEach [c] X.env = (false, eval c X.env) :: starEach [] X.env := by rfl) :
    PDS X W (.Assign [.Tuple [.Name x px, .Name y py, .Name z pz] kt pt] (.Tuple [a, b, c] k2 pt2) pos) (dParDLD i j l f g h) := by
  obtain ⟨ta, p1, s1⟩ := h1
  obtain ⟨tb, p2, s2⟩ := h2
  obtain ⟨tc, p3, s3⟩ := h3
  refine ⟨_, ps_par3 hc hN hi hj hl hij hil hjl hx hy hz (pa_cons p1 (pa_cons p2 (pa_cons p3 pa_nil e3) e2) e1) hw hs, fun F P H σ sv D Dd r lk q => ?_⟩
  refine s1 F P H σ sv _ _ _ r (fun v H1 P1 d sv1 r1 t1 rv q1 => s2 F P1 H1 σ sv1 _ _ _ r1 (fun p H2 P2 es sv2 r2 t2 n q2 => ?_) (fun cls dd H1 P1 x sv1 r1 rx q1 => lk.ex cls dd σ H1 P1 x sv1 r1 rx q1) q1) (fun cls dd H1 P1 x sv1 r1 rx q1 => lk.ex cls dd σ H1 P1 x sv1 r1 rx q1) q
  obtain ⟨vs, rl, ra⟩ := r2.aside n
  have hk : ∀ q ws, (q, ws) ∈ F.Kp → q ≠ p := n.choose_spec.2.2.2.2.2
  refine s3 (F.keep p vs) P2 H2 σ sv2 _ _ _ ra (fun w H3 P3 e sv3 r3 t3 rw q3 => ?_) (fun cls dd H1 P1 x sv1 r1 rx q1 => lk.ex cls dd σ H1 P1 x sv1 (Rel.back (F := F.at W.z) r1) rx q1) q2
  have n3 := Rel.taken (F := F.at W.z) r3 t3 rl hk
  have rb := Rel.back (F := F.at W.z) r3
  exact ⟨v, _, w, rfl, lk.nx _ H3 P3 _ (((rb.setDat (Rp.mono (t2.trans t3) d v rv)).setNew (newL_dat n3)).setDat rw) ((t1.trans t2).trans t3) q3⟩
end
structure MtG (P : Program) (w : World) (K : PySem.W.Frag) (mg : Str → Option Value) (base : Heap) (k : Nat) (C : Addr) (m : Str) (n : Nat) (ct : Ct) : Prop where
  mono : ∀ as Q Q' E E', (∀ d, Q d → Q' d) → (∀ x, E x → E' x) → ct.c as Q E → ct.c as Q' E'
  cls : Cls K C
  ex : ∃ (f : Addr) (fd : FuncData) (ps : List Str), ps.length = n ∧ Fd P w K mg base k f fd ps (spC K n ct) ∧ Meth K C m f ∧ Binds K fd ps []
structure MtFG (P : Program) (w : World) (K : PySem.W.Frag) (mg : Str → Option Value) (base : Heap) (k : Nat) (C : Addr) (m : Str) (n : Nat) (ct : Ct) : Prop where
  mono : ∀ as Q Q' E E', (∀ d, Q d → Q' d) → (∀ x, E x → E' x) → ct.c as Q E → ct.c as Q' E'
  cls : Cls K C
  ex : ∃ (f : Addr) (fd : FuncData) (ps : List Str), ps.length = n ∧ Fd P w K mg base k f fd ps (spF K n ct) ∧ Meth K C m f ∧ Binds K fd ps []
structure SpsG (P : Program) (w : World) (K : PySem.W.Frag) (mg : Str → Option Value) (base : Heap) (k : Nat) (C : Addr) (m : Str) (n : Nat) (ct : Ct) : Prop where
  mono : ∀ as Q Q' E E', (∀ d, Q d → Q' d) → (∀ x, E x → E' x) → ct.c as Q E → ct.c as Q' E'
  ex : ∃ (f : Addr) (fd : FuncData) (ps : List Str), ps.length = n ∧ Fd P w K mg base k f fd ps (spC K n ct) ∧ PySem.W.findIn K (.ref C) m = some (some (.ref f)) ∧ PySem.W.isFn K (.ref f) = true ∧ Binds K fd ps []
section
variable {X : Cx} {W : Wz} {pos : Pos} {P : Program} {w : World} {K : PySem.W.Frag} {mg : Str → Option Value} {base : Heap} {k k' n : Nat} {C : Addr} {m : Str} {ct : Ct} {o e : Expr} {es : List Expr} {apos : Pos} {fo f1 f2 : De} {fa : Da} {pl : Sem Bool}
theorem dmeth (T : MtG P w K mg base k C m n ct) (hr : Room k' X.A) (hk : k ≤ k') (hG : X.A.guards = some []) (tk : Takes X W.w) (ho : PD X W o fo) (ha : PDA X W (e :: es) fa)
    (h1 : X.prog = P := by rfl) (h2 : X.w = w := by rfl) (h3 : X.K = K := by rfl) (h4 : X.mg = mg := by rfl) (h5 : X.base = base := by rfl)
    (hst : starEach (e :: es) X.env = (false, eval e X.env) :: starEach es X.env := by rfl) (hpl : (backTo pos (starEach es X.env)).any (·.1) = false := by rfl)
    (ht : eval (.Call (.Attribute o m apos) (e :: es) [] pos) X.env = (do
      let ov ← eval o X.env
      standAt apos.atName
      let (f, first) ← holding [ov] (getMethod ov m pl)
      callWith pos f first (backTo pos (starEach (e :: es) X.env)) (backToKw pos (keywordEach [] X.env))) := by rfl) :
    PD X W (.Call (.Attribute o m apos) (e :: es) [] pos) (dMeth C m ct n fo fa) := by
  subst h1 h2 h3 h4 h5
  exact pd_meth ⟨T.mono, T.cls, T.ex⟩ (hr.mono hk) hG tk ho ha hst hpl ht
theorem dmeth0 (T : MtG P w K mg base k C m n ct) (hr : Room k' X.A) (hk : k ≤ k') (hG : X.A.guards = some []) (tk : Takes X W.w) (ho : PD X W o fo)
    (h1 : X.prog = P := by rfl) (h2 : X.w = w := by rfl) (h3 : X.K = K := by rfl) (h4 : X.mg = mg := by rfl) (h5 : X.base = base := by rfl)
    (ht : eval (.Call (.Attribute o m apos) [] [] pos) X.env = (do
      let ov ← eval o X.env
      standAt apos.atName
      let (f, first) ← holding [ov] (getMethod ov m pl)
      callWith pos f first (backTo pos (starEach [] X.env)) (backToKw pos (keywordEach [] X.env))) := by rfl) :
    PD X W (.Call (.Attribute o m apos) [] [] pos) (dMeth C m ct n fo dNil) := by
  subst h1 h2 h3 h4 h5
  exact pd_meth0 ⟨T.mono, T.cls, T.ex⟩ (hr.mono hk) hG tk ho ht
theorem dmethApp {apos2 cpos p2 : Pos} {z : Str} {kk2 : Nat} (T : MtFG P w K mg base k C m n ct) (hr : Room k' X.A) (hk : k ≤ k') (hG : X.A.guards = some []) (tk : Takes X W.w) (ho : PD X W o fo) (ha : PDA X W (e :: es) fa)
    (h1 : X.prog = P := by rfl) (h2 : X.w = w := by rfl) (h3 : X.K = K := by rfl) (h4 : X.mg = mg := by rfl) (h5 : X.base = base := by rfl)
    (hst : starEach (e :: es) X.env = (false, eval e X.env) :: starEach es X.env := by rfl) (hpl : (backTo cpos (starEach es X.env)).any (·.1) = false := by rfl)
    (ht : eval (.Call (.Attribute o m apos) (e :: es) [] cpos) X.env = (do
      let ov ← eval o X.env
      standAt apos.atName
      let (f, first) ← holding [ov] (getMethod ov m pl)
      callWith cpos f first (backTo cpos (starEach (e :: es) X.env)) (backToKw cpos (keywordEach [] X.env))) := by rfl)
    (hbase : attributeBase (.Call (.Attribute o m apos) (e :: es) [] cpos) "append" X.env (eval (.Call (.Attribute o m apos) (e :: es) [] cpos) X.env) = eval (.Call (.Attribute o m apos) (e :: es) [] cpos) X.env := by rfl)
    (hfew : ((backTo pos (starEach [.Constant (.str z) kk2 p2] X.env)).all (fun x => !x.1) && (backToKw pos (keywordEach [] X.env)).all (fun x => x.1.isSome) && decide ([Expr.Constant (.str z) kk2 p2].length + ([] : List Keyword).length + (if ([] : List Keyword).isEmpty then 0 else 1) < 30)) = true := by rfl)
    (hline : (apos2.endLine == pos.line) = true := by rfl) (hs : starEach [.Constant (.str z) kk2 p2] X.env = (false, eval (.Constant (.str z) kk2 p2) X.env) :: starEach [] X.env := by rfl) :
    PD X W (.Call (.Attribute (.Call (.Attribute o m apos) (e :: es) [] cpos) "append" apos2) [.Constant (.str z) kk2 p2] [] pos) (dMethApp C m ct n fo fa) := by
  subst h1 h2 h3 h4 h5
  exact pd_methApp ⟨T.mono, T.cls, T.ex⟩ (hr.mono hk) hG tk ho ha hst hpl ht hbase hfew hline hs
theorem dmethApp0 {apos2 cpos p2 : Pos} {z : Str} {kk2 : Nat} (T : MtFG P w K mg base k C m n ct) (hr : Room k' X.A) (hk : k ≤ k') (hG : X.A.guards = some []) (tk : Takes X W.w) (ho : PD X W o fo)
    (h1 : X.prog = P := by rfl) (h2 : X.w = w := by rfl) (h3 : X.K = K := by rfl) (h4 : X.mg = mg := by rfl) (h5 : X.base = base := by rfl)
    (ht : eval (.Call (.Attribute o m apos) [] [] cpos) X.env = (do
      let ov ← eval o X.env
      standAt apos.atName
      let (f, first) ← holding [ov] (getMethod ov m pl)
      callWith cpos f first (backTo cpos (starEach [] X.env)) (backToKw cpos (keywordEach [] X.env))) := by rfl)
    (hbase : attributeBase (.Call (.Attribute o m apos) [] [] cpos) "append" X.env (eval (.Call (.Attribute o m apos) [] [] cpos) X.env) = eval (.Call (.Attribute o m apos) [] [] cpos) X.env := by rfl)
    (hfew : ((backTo pos (starEach [.Constant (.str z) kk2 p2] X.env)).all (fun x => !x.1) && (backToKw pos (keywordEach [] X.env)).all (fun x => x.1.isSome) && decide ([Expr.Constant (.str z) kk2 p2].length + ([] : List Keyword).length + (if ([] : List Keyword).isEmpty then 0 else 1) < 30)) = true := by rfl)
    (hline : (apos2.endLine == pos.line) = true := by rfl) (hs : starEach [.Constant (.str z) kk2 p2] X.env = (false, eval (.Constant (.str z) kk2 p2) X.env) :: starEach [] X.env := by rfl) :
    PD X W (.Call (.Attribute (.Call (.Attribute o m apos) [] [] cpos) "append" apos2) [.Constant (.str z) kk2 p2] [] pos) (dMethApp C m ct n fo dNil) := by
  subst h1 h2 h3 h4 h5
  exact pd_methApp0 ⟨T.mono, T.cls, T.ex⟩ (hr.mono hk) hG tk ho ht hbase hfew hline hs
theorem dlenO {p : Pos} (T : SpsG P w K mg base k C "__len__" 1 ct) (hr : Room (k' + 1) X.A) (hk : k ≤ k') (hG : X.A.guards = some []) (hm : X.mg "len" = none) (ha : PDA X W [e] fa)
    (h1 : X.prog = P := by rfl) (h2 : X.w = w := by rfl) (h3 : X.K = K := by rfl) (h4 : X.mg = mg := by rfl) (h5 : X.base = base := by rfl) (hg : Gl X "len" := by rfl) (he : starEach [e] X.env = (false, eval e X.env) :: starEach [] X.env := by rfl) : PD X W (.Call (.Name "len" p) [e] [] pos) (dCB (gLenO C ct) fa) := by
  subst h1 h2 h3 h4 h5
  exact pd_lenO ⟨T.mono, T.ex⟩ (hr.mono (Nat.succ_le_succ hk)) hG hm ha hg he
theorem dreprO {p : Pos} (T : SpsG P w K mg base k C "__repr__" 1 ct) (hr : Room (k' + 1) X.A) (hk : k ≤ k') (hG : X.A.guards = some []) (hm : X.mg "repr" = none) (ha : PDA X W [e] fa)
    (h1 : X.prog = P := by rfl) (h2 : X.w = w := by rfl) (h3 : X.K = K := by rfl) (h4 : X.mg = mg := by rfl) (h5 : X.base = base := by rfl) (hg : Gl X "repr" := by rfl) (he : starEach [e] X.env = (false, eval e X.env) :: starEach [] X.env := by rfl) : PD X W (.Call (.Name "repr" p) [e] [] pos) (dCB (gStrO C ct) fa) := by
  subst h1 h2 h3 h4 h5
  exact pd_reprO ⟨T.mono, T.ex⟩ (hr.mono (Nat.succ_le_succ hk)) hG hm ha hg he
theorem dinO (T : SpsG P w K mg base k C "__contains__" 2 ct) (hr : Room k' X.A) (hk : k ≤ k') (hG : X.A.guards = some []) (ha : PD X W e f1) (hb : PD X W o f2)
    (h1 : X.prog = P := by rfl) (h2 : X.w = w := by rfl) (h3 : X.K = K := by rfl) (h4 : X.mg = mg := by rfl) (h5 : X.base = base := by rfl) (hm : behindInMarks .In o = false := by rfl) : PD X W (.Compare e [.In] [o] pos) (dOp (gInO C ct id) f1 f2) := by
  subst h1 h2 h3 h4 h5
  exact pd_cmp (op_inO ⟨T.mono, T.ex⟩ (hr.mono hk) hG) (snd_inO T.mono) ha hb hm
theorem dnotinO (T : SpsG P w K mg base k C "__contains__" 2 ct) (hr : Room k' X.A) (hk : k ≤ k') (hG : X.A.guards = some []) (ha : PD X W e f1) (hb : PD X W o f2)
    (h1 : X.prog = P := by rfl) (h2 : X.w = w := by rfl) (h3 : X.K = K := by rfl) (h4 : X.mg = mg := by rfl) (h5 : X.base = base := by rfl) (hm : behindInMarks .NotIn o = false := by rfl) : PD X W (.Compare e [.NotIn] [o] pos) (dOp (gInO C ct not) f1 f2) := by
  subst h1 h2 h3 h4 h5
  exact pd_cmp (op_notInO ⟨T.mono, T.ex⟩ (hr.mono hk) hG) (snd_inO T.mono) ha hb hm
theorem tinO (T : SpsG P w K mg base k C "__contains__" 2 ct) (hr : Room k' X.A) (hk : k ≤ k') (hG : X.A.guards = some []) (ha : PD X W e f1) (hb : PD X W o f2)
    (h1 : X.prog = P := by rfl) (h2 : X.w = w := by rfl) (h3 : X.K = K := by rfl) (h4 : X.mg = mg := by rfl) (h5 : X.base = base := by rfl) (hm : behindInMarks .In o = false := by rfl) : PDT X W (.Compare e [.In] [o] pos) (dTest (dOp (gInO C ct id) f1 f2)) := by
  subst h1 h2 h3 h4 h5
  exact pdt_cmp (op_inO ⟨T.mono, T.ex⟩ (hr.mono hk) hG) (snd_inO T.mono) ha hb hm
theorem tnotinO (T : SpsG P w K mg base k C "__contains__" 2 ct) (hr : Room k' X.A) (hk : k ≤ k') (hG : X.A.guards = some []) (ha : PD X W e f1) (hb : PD X W o f2)
    (h1 : X.prog = P := by rfl) (h2 : X.w = w := by rfl) (h3 : X.K = K := by rfl) (h4 : X.mg = mg := by rfl) (h5 : X.base = base := by rfl) (hm : behindInMarks .NotIn o = false := by rfl) : PDT X W (.Compare e [.NotIn] [o] pos) (dTest (dOp (gInO C ct not) f1 f2)) := by
  subst h1 h2 h3 h4 h5
  exact pdt_cmp (op_notInO ⟨T.mono, T.ex⟩ (hr.mono hk) hG) (snd_inO T.mono) ha hb hm
end
end Pg
namespace Pg
open PySem PySem.Spec PyProof.Rows L2 Pd Pf
theorem hu_1 {n : Nat} (h : n + 64 < cLine) : n + 1 < cLine := by omega
section
variable {X : Cx} {W : Wz} {pos : Pos}
/-- xs[k], xs a list of one's own -/
@[simp] def dIxV (i : Nat) (f : De) : De := fun sv Q E => (∃ ds0, sv[i]? = some (.own ds0)) ∧ f sv (fun k sv1 => ∃ ds j z, sv1[i]? = some (.own ds) ∧ k = .int j ∧ atI ds j = some z ∧ Q z sv1) E
theorem pd_ixV {i : Nat} {x : Str} {p : Pos} {b : Expr} {f : De} (hN : X.N[i]? = some x) (hv : Vis X.env.scope x) (h : PD X W b f) (hd : (x == ("__debug__" : Str)) = false := by decide) (hcd : (x == ("__classdict__" : Str)) = false := by decide) (hs : PlainIx b := by exact fun _ _ => rfl) : PD X W (.Subscript (.Name x p) b pos) (dIxV i f) := by
  obtain ⟨tb, p2, s2⟩ := h
  refine ⟨_, pe_ix ix_list (pe_var hN hv hd hcd) p2 hs, fun F P H σ sv Q E R re kk kx q => ?_⟩
  obtain ⟨⟨ds0, e0⟩, q⟩ := q
  obtain ⟨o, ho, p', vs0, rfl, _⟩ := rel_get re e0
  refine ⟨_, ho, s2 F P H σ sv _ E _ re (fun y H1 P1 k sv1 r1 t1 ry q1 => ?_) kx q⟩
  obtain ⟨ds, j, z, e1, rfl, ez, q1⟩ := q1
  obtain ⟨o', ho', p2', vs, rfl, h1, h2, h3, h4⟩ := rel_get r1 e1
  rw [ho] at ho'
  cases ho'
  obtain rfl := ry
  obtain ⟨v, ev, rv⟩ := atI_rel h4 ez
  exact ⟨_, vs, j, v, rfl, rfl, SqL.of h1, ev, kk v H1 P1 z sv1 r1 t1 rv q1⟩
end
end Pg
namespace Pg
open PySem PySem.Spec PyProof.Rows L2 Pd Pf
theorem pe_makeI0 {X : Cx} {W : WX} {k : Nat} {f C : Addr} {sp : List V → List V → Hp → VK → XK → Prop} {x : Str} {p pos : Pos} (M : Mk X.K C f) (F : FnI X.prog X.w X.K X.mg X.base k f [] sp) (hr : Room (k + 1) X.A) (hG : X.A.guards = some []) (tk' : Takes X W) (hg : Gl X x) (hm : X.mg x = some (.ref C)) (hdb : (x == ("__debug__" : Str)) = false := by decide) :
    PE X (.Call (.Name x p) [] [] pos) (tMakeI C 0 sp W tNil tNil) := by
  refine ⟨fun pins s σ H Q I h => wpAny_Call_Name_kw (ld_glob I hg hm ?_ hdb)⟩
  obtain ⟨_, q⟩ := h
  exact PySem.W.callWith_K0 I.kIn M.kp (run_makeI (us := []) (ws := []) (vs := []) (zs := []) M F hr hG tk' I .nil .nil rfl q)
theorem dmake0 {X : Cx} {W : Wz} {P : Program} {w : World} {K : PySem.W.Frag} {mg : Str → Option Value} {base : Heap} {k k' m n : Nat} {x : Str} {C : Addr} {ns : List Str} {gV : List V → List V → List V} {gD : List D → List D → List D} {ci : Ci} {p pos : Pos} (T : CnG P w K mg base k x C [] m n ns gV gD ci) (hr : Room k' X.A) (hk : k + 1 ≤ k') (hG : X.A.guards = some []) (tk : Takes X W.w)
    (h1 : X.prog = P := by rfl) (h2 : X.w = w := by rfl) (h3 : X.K = K := by rfl) (h4 : X.mg = mg := by rfl) (h5 : X.base = base := by rfl) (hg : Gl X x := by rfl) (hdb : (x == ("__debug__" : Str)) = false := by decide) :
    PD X W (.Call (.Name x p) [] [] pos) (dMake C 0 m ns gD ci dNil dNil) := by
  subst h1 h2 h3 h4 h5
  obtain ⟨f, M, F⟩ := T.ex
  have sn : SndA X.K W tNil dNil := fun F P H σ sv Q E R r k kx q => k [] H P [] sv r (Sub.refl P) rfl q
  exact ⟨_, pe_makeI0 M F (hr.mono hk) hG tk hg T.mg hdb, snd_make T.mono T.rel sn sn⟩
end Pg
end
section
set_option autoImplicit true
set_option Elab.async false
set_option linter.all false
set_option maxRecDepth 100000
set_option maxHeartbeats 4000000
namespace K3
open PySem PySem.Spec PyProof.Rows L2 Pd
open Pg Pf
def top (i : Nat) : Stmt := PySem.Challenge.pw_keyactions_k03_schemas_made.main.body.getD i (.Pass ⟨0, 0, 0, 0⟩)
def letters : Str := "abcdefghijklmnopqrstuvwxyz"
def isNameD : D → Bool
  | .str s => decide (1 ≤ s.length) && decide (s.length ≤ 8) && s.cps.toList.all fun c => decide (c ∈ letters.cps.toList)
  | _ => false
def isLinkD : D → Bool
  | .tup [a, b] => isNameD a
  | _ => false
def acts : List Str := ["cascade", "set_null", "set_default", "restrict", "no_action"]
def mayD (v : D) (nb : Bool) (df : D) : Bool := if v.isStr "set_null" then nb else if v.isStr "set_default" then nb || !df.isNon else acts.any fun s => v.isStr s
def sndD : D → D
  | .tup [a, b] => b
  | _ => .non
def badL (nb : Bool) (df : D) (l : D) : Bool := !(isLinkD l && mayD (sndD l) nb df)
theorem qb {Q : D → Prop} {a b : Bool} (q : Q (.bl a)) (e : a = b) : Q (.bl b) := e ▸ q
abbrev s_is_integer : Stmt := top 12
abbrev N_is_integer : List Str := ["value"]
theorem sc_is_integer : FnScope N_is_integer ["value"] (defScope s_is_integer) := ⟨rfl, rfl, rfl, by decide +kernel, rfl, by decide +kernel, by decide +kernel⟩
def ct_is_integer : Ct := Ct.ex 0 (fun d : D => [some d]) (fun d => d.wt < 1000000) (fun d z => z = .bl (isIntD d)) (fun _ _ => False)
theorem ok_is_integer {P : Program} {w : World} {K : PySem.W.Frag} {mg : Str → Option Value} {base : Heap} {f : Addr} {fd : FuncData} (F : FunD K "is_integer" "is_integer" (defArgs s_is_integer) (defBody s_is_integer) (defScope s_is_integer) [] [] f fd) (m_bool : mg "bool" = none) (m_int : mg "int" = none) (m_isinstance : mg "isinstance" = none) : Fd P w K mg base 1 f fd ["value"] (spC K 1 (ct_is_integer )) := by
  have nd := sc_is_integer.nd
  refine fd_body (N := N_is_integer) (ct := ct_is_integer ) F sc_is_integer (fun cdv A outer s H E hr hG tk pw => have hu := Room.units hr; have hv := room_u hr; (pdss_one (pds_ret (pd_and (disiT K boot_int'' m_int m_isinstance (dv 0)) (pd_one (pd_not (disiT K boot_bool'' m_bool m_isinstance (dv 0)))))))) ?_
  rintro as Q E hl ⟨d, rfl, hw, q, -⟩
  have q := q _ rfl
  cases d <;> simp_all [isIntD, D.wt]

theorem fg_is_integer {P : Program} {w : World} {K : PySem.W.Frag} {mg : Str → Option Value} {base : Heap} {f : Addr} {fd : FuncData} (F : FunD K "is_integer" "is_integer" (defArgs s_is_integer) (defBody s_is_integer) (defScope s_is_integer) [] [] f fd) (hm : mg "is_integer" = some (.ref f)) (m_bool : mg "bool" = none) (m_int : mg "int" = none) (m_isinstance : mg "isinstance" = none) : FnG P w K mg base 1 "is_integer" 1 (ct_is_integer ) :=
  fnG_of F sc_is_integer hm (ok_is_integer F m_bool m_int m_isinstance) (F.bindsN fun _ _ _ _ _ _ us hl => match us, hl with | [_], _ => rfl) Ct.ex_mono
abbrev s_is_name : Stmt := top 13
abbrev N_is_name : List Str := ["value", "letter"]
theorem sc_is_name : FnScope N_is_name ["value"] (defScope s_is_name) := ⟨rfl, rfl, rfl, by decide +kernel, rfl, by decide +kernel, by decide +kernel⟩
def ct_is_name : Ct := Ct.ex 0 (fun d : D => [some d]) (fun d => d.wt < 1000000) (fun d z => z = .bl (isNameD d)) (fun _ _ => False)
theorem ok_is_name {P : Program} {w : World} {K : PySem.W.Frag} {mg : Str → Option Value} {base : Heap} {f : Addr} {fd : FuncData} (F : FunD K "is_name" "is_name" (defArgs s_is_name) (defBody s_is_name) (defScope s_is_name) [] [] f fd) (m_LETTERS : ∃ t, mg "LETTERS" = some (.str "abcdefghijklmnopqrstuvwxyz" t)) (m_MOST_LETTERS : ∃ t, mg "MOST_LETTERS" = some (.int 8 t)) (m_all : mg "all" = none) (m_isinstance : mg "isinstance" = none) (m_len : mg "len" = none) (m_str : mg "str" = none) : Fd P w K mg base 1 f fd ["value"] (spC K 1 (ct_is_name )) := by
  have nd := sc_is_name.nd
  refine fd_body (N := N_is_name) (ct := ct_is_name ) F sc_is_name (fun cdv A outer s H E hr hG tk pw => have hu := Room.units hr; have hv := room_u hr; (pdss_cons (pds_if (pdt_w (pdw_or (pdt_not (pdt_tru (disiT K boot_str'' m_str m_isinstance (dv 0)))) (pdw_or1 (pdt_not (pdt_chain op_le snd_le op_le snd_le pd_int (pd_lenV (i := 0) rfl (by first | exact .inl rfl | exact .inr (.inl rfl) | exact .inr (.inr rfl)) (by rfl) m_len) (pd_globI (by rfl) m_MOST_LETTERS)))))) (pdss_one (pds_ret pd_bl)) pdss_nil)
    (pdss_one (pds_ret (pd_all rfl (by rfl) m_all (pda_cons (pd_L (pdl_lc (own := [("letter", 1)]) rfl nd (blkOk_by (by kernel_rfl)) (pdi_any (dv 0)) (fun i => (pdgw_name (i := 1) nd rfl (by first | exact .inl rfl | exact .inr rfl) (by decide))) (fun i => pdts_nil) (fun i => (pd_cmp (op_inA hv) snd_in (dv 1) (pd_globS (by rfl) m_LETTERS))))) pda_nil)))))) ?_
  rintro as Q E hl ⟨d, rfl, hw, q, -⟩
  have q := q _ rfl
  cases d with
  | str s =>
    have hz := wt_str hw
    have hz2 : s.cps.toList.length = s.length := by simp [Str.length]
    simp
    refine ⟨hz, ?_⟩
    split
    · rename_i h1
      split
      · rename_i h2
        refine goLc_mapl _ (fun c => .bl (decide (c ∈ letters.cps.toList))) (by simp [hz2]; omega) (fun c hc T N hT => by simpa [letters] using hT) ?_
        refine ⟨_, asB_map _ _, qb q ?_⟩
        have e1 : 1 ≤ s.length := by omega
        have e2 : s.length ≤ 8 := by omega
        simp [isNameD, e1, e2, List.all_map, Function.comp_def]
      · exact qb q (by simp [isNameD]; omega)
    · exact qb q (by simp [isNameD]; omega)
  | _ => simp_all [isNameD, D.wt]

theorem fg_is_name {P : Program} {w : World} {K : PySem.W.Frag} {mg : Str → Option Value} {base : Heap} {f : Addr} {fd : FuncData} (F : FunD K "is_name" "is_name" (defArgs s_is_name) (defBody s_is_name) (defScope s_is_name) [] [] f fd) (hm : mg "is_name" = some (.ref f)) (m_LETTERS : ∃ t, mg "LETTERS" = some (.str "abcdefghijklmnopqrstuvwxyz" t)) (m_MOST_LETTERS : ∃ t, mg "MOST_LETTERS" = some (.int 8 t)) (m_all : mg "all" = none) (m_isinstance : mg "isinstance" = none) (m_len : mg "len" = none) (m_str : mg "str" = none) : FnG P w K mg base 1 "is_name" 1 (ct_is_name ) :=
  fnG_of F sc_is_name hm (ok_is_name F m_LETTERS m_MOST_LETTERS m_all m_isinstance m_len m_str) (F.bindsN fun _ _ _ _ _ _ us hl => match us, hl with | [_], _ => rfl) Ct.ex_mono
abbrev s_is_link : Stmt := top 26
abbrev N_is_link : List Str := ["value"]
theorem sc_is_link : FnScope N_is_link ["value"] (defScope s_is_link) := ⟨rfl, rfl, rfl, by decide +kernel, rfl, by decide +kernel, by decide +kernel⟩
def ct_is_link : Ct := Ct.ex 0 (fun d : D => [some d]) (fun d => d.wt < 1000000) (fun d z => z = .bl (isLinkD d)) (fun _ _ => False)
theorem ok_is_link {P : Program} {w : World} {K : PySem.W.Frag} {mg : Str → Option Value} {base : Heap} {f : Addr} {fd : FuncData} (F : FunD K "is_link" "is_link" (defArgs s_is_link) (defBody s_is_link) (defScope s_is_link) [] [] f fd) (F_is_name : FnG P w K mg base 1 "is_name" 1 (ct_is_name )) (m_isinstance : mg "isinstance" = none) (m_len : mg "len" = none) (m_tuple : mg "tuple" = none) : Fd P w K mg base 2 f fd ["value"] (spC K 1 (ct_is_link )) := by
  have nd := sc_is_link.nd
  refine fd_body (N := N_is_link) (ct := ct_is_link ) F sc_is_link (fun cdv A outer s H E hr hG tk pw => have hu := Room.units hr; have hv := room_u hr; (pdss_one (pds_ret (pd_and (disiT K boot_tuple'' m_tuple m_isinstance (dv 0)) (pd_and (pd_cmp (op_eqP hu) snd_eq (pd_lenV (i := 0) rfl (by first | exact .inl rfl | exact .inr (.inl rfl) | exact .inr (.inr rfl)) (by rfl) m_len) pd_int) (pd_one (dcall F_is_name hr (by decide) hG tk (pda_cons (pd_ix (dv 0) pd_int) pda_nil)))))))) ?_
  rintro as Q E hl ⟨d, rfl, hw, q, -⟩
  have q := q _ rfl
  match d, hw, q with
  | .tup [], hw, q => simpa [isLinkD, ct_is_name, Ct.ex, PyData.eqv] using q
  | .tup [a], hw, q => simpa [isLinkD, ct_is_name, Ct.ex, PyData.eqv] using q
  | .tup [a, b], hw, q =>
    have h1 : a.wt < 1000000 := by simp only [D.wt, D.wtL] at hw; omega
    simpa [isLinkD, ct_is_name, Ct.ex, PyData.eqv, atI, ixN, h1] using q
  | .tup (a :: b :: c :: r), hw, q =>
    have e : ¬ ((r.length : Int) + 1 + 1 + 1 = 2) := by omega
    simpa [isLinkD, ct_is_name, Ct.ex, PyData.eqv, e] using q
  | .non, hw, q => simpa [isLinkD] using q
  | .bl _, hw, q => simpa [isLinkD] using q
  | .int _, hw, q => simpa [isLinkD] using q
  | .str _, hw, q => simpa [isLinkD] using q
  | .lst _, hw, q => simpa [isLinkD] using q
  | .ins _ _ _, hw, q => simp [D.wt] at hw
  | .dk _ _, hw, q => simp [D.wt] at hw
  | .dt _ _, hw, q => simp [D.wt] at hw
  | .scr _, hw, q => simp [D.wt] at hw
  | .cst _, hw, q => simp [D.wt] at hw

theorem fg_is_link {P : Program} {w : World} {K : PySem.W.Frag} {mg : Str → Option Value} {base : Heap} {f : Addr} {fd : FuncData} (F : FunD K "is_link" "is_link" (defArgs s_is_link) (defBody s_is_link) (defScope s_is_link) [] [] f fd) (hm : mg "is_link" = some (.ref f)) (F_is_name : FnG P w K mg base 1 "is_name" 1 (ct_is_name )) (m_isinstance : mg "isinstance" = none) (m_len : mg "len" = none) (m_tuple : mg "tuple" = none) : FnG P w K mg base 2 "is_link" 1 (ct_is_link ) :=
  fnG_of F sc_is_link hm (ok_is_link F F_is_name m_isinstance m_len m_tuple) (F.bindsN fun _ _ _ _ _ _ us hl => match us, hl with | [_], _ => rfl) Ct.ex_mono
abbrev s_may_have : Stmt := top 27
abbrev N_may_have : List Str := ["value", "nullable", "default"]
theorem sc_may_have : FnScope N_may_have ["value", "nullable", "default"] (defScope s_may_have) := ⟨rfl, rfl, rfl, by decide +kernel, rfl, by decide +kernel, by decide +kernel⟩
def ct_may_have : Ct := Ct.ex 0 (fun t : D × Bool × D => [some t.1, some (.bl t.2.1), some t.2.2]) (fun t => t.1.wt < 1000000 ∧ t.2.2.wt < 1000000) (fun t z => z = .bl (mayD t.1 t.2.1 t.2.2)) (fun _ _ => False)
theorem ok_may_have {P : Program} {w : World} {K : PySem.W.Frag} {mg : Str → Option Value} {base : Heap} {f : Addr} {fd : FuncData} {cc_Schema : Addr} (F : FunD K "may_have" "may_have" (defArgs s_may_have) (defBody s_may_have) (defScope s_may_have) [] [] f fd) (m_Schema : mg "Schema" = some (.ref cc_Schema)) (T_Schema_ACTIONS : ClsT K cc_Schema "ACTIONS" ["cascade", "set_null", "set_default", "restrict", "no_action"]) : Fd P w K mg base 1 f fd ["value", "nullable", "default"] (spC K 3 (ct_may_have )) := by
  have nd := sc_may_have.nd
  refine fd_body (N := N_may_have) (ct := ct_may_have ) F sc_may_have (fun cdv A outer s H E hr hG tk pw => have hu := Room.units hr; have hv := room_u hr; (pdss_cons (pds_if (pdt_cmp (op_eqP hu) snd_eq (dv 0) pd_str) (pdss_one (pds_ret (dv 1))) pdss_nil)
    (pdss_cons (pds_if (pdt_cmp (op_eqP hu) snd_eq (dv 0) pd_str) (pdss_one (pds_ret (pd_or (dv 1) (pd_one (pd_cmp op_notN1 snd_notN (dv 2) pd_non))))) pdss_nil)
    (pdss_one (pds_ret (pd_cmp (op_inA hv) snd_in (dv 0) (dclsT T_Schema_ACTIONS m_Schema))))))) ?_
  rintro as Q E hl ⟨⟨v, nb, df⟩, rfl, ⟨hw, hd⟩, q, -⟩
  have q := q _ rfl
  dsimp only at hw hd q
  obtain ⟨p, t⟩ := tame v hw
  simp [t.py, eqv_str t.py, eqv_str' t.py, str_depth, PyData.depthAll]
  unfold mayD at q
  by_cases h1 : v.isStr "set_null" = true
  · simpa [h1] using q
  · by_cases h2 : v.isStr "set_default" = true
    · cases nb
      · simpa [h1, h2] using q
      · simpa [h1, h2] using q
    · simpa [h1, h2, acts] using q

theorem fg_may_have {P : Program} {w : World} {K : PySem.W.Frag} {mg : Str → Option Value} {base : Heap} {f : Addr} {fd : FuncData} {cc_Schema : Addr} (F : FunD K "may_have" "may_have" (defArgs s_may_have) (defBody s_may_have) (defScope s_may_have) [] [] f fd) (hm : mg "may_have" = some (.ref f)) (m_Schema : mg "Schema" = some (.ref cc_Schema)) (T_Schema_ACTIONS : ClsT K cc_Schema "ACTIONS" ["cascade", "set_null", "set_default", "restrict", "no_action"]) : FnG P w K mg base 1 "may_have" 3 (ct_may_have ) :=
  fnG_of F sc_may_have hm (ok_may_have F m_Schema T_Schema_ACTIONS) (F.bindsN fun _ _ _ _ _ _ us hl => match us, hl with | [_, _, _], _ => rfl) Ct.ex_mono
abbrev s_check_links : Stmt := top 25
abbrev N_check_links : List Str := ["links", "nullable", "default", "link"]
theorem sc_check_links : FnScope N_check_links ["links", "nullable", "default"] (defScope s_check_links) := ⟨rfl, rfl, rfl, by decide +kernel, rfl, by decide +kernel, by decide +kernel⟩
def ct_check_links (c_BadAction : Addr) : Ct := Ct.ex 0 (fun t : List D × Bool × D => [some (.tup t.1), some (.bl t.2.1), some t.2.2]) (fun t => (D.tup t.1).wt < 1000000 ∧ t.2.2.wt < 1000000) (fun t z => t.1.find? (badL t.2.1 t.2.2) = none ∧ z = .non) (fun t x => ∃ l, t.1.find? (badL t.2.1 t.2.2) = some l ∧ x = ⟨c_BadAction, ["value"], [l]⟩)
theorem ok_check_links {P : Program} {w : World} {K : PySem.W.Frag} {mg : Str → Option Value} {base : Heap} {f : Addr} {fd : FuncData} {c_BadAction : Addr} (F : FunD K "check_links" "check_links" (defArgs s_check_links) (defBody s_check_links) (defScope s_check_links) [] [] f fd) (F_is_link : FnG P w K mg base 2 "is_link" 1 (ct_is_link )) (F_may_have : FnG P w K mg base 1 "may_have" 3 (ct_may_have )) (E_BadAction : ExG P w K mg base 1 "BadAction" c_BadAction ["value"]) : Fd P w K mg base 3 f fd ["links", "nullable", "default"] (spC K 3 (ct_check_links c_BadAction)) := by
  have nd := sc_check_links.nd
  refine fd_body (N := N_check_links) (ct := ct_check_links c_BadAction) F sc_check_links (fun cdv A outer s H E hr hG tk pw => have hu := Room.units hr; have hv := room_u hr; (pdss_one (pds_for pw rfl (pdi_any (dv 0)) (pdg_name (i := 3) nd rfl (by first | exact .inl rfl | exact .inr rfl)) (pdss_one (pds_if (pdt_w (pdw_or (pdt_not (pdt_tru (dcall F_is_link hr (by decide) hG tk (av 3 pda_nil)))) (pdw_or1 (pdt_not (pdt_tru (dcall F_may_have hr (by decide) hG tk (pda_cons (pd_ix (dv 3) pd_int) (av 1 (av 2 pda_nil))))))))) (pdss_one (draise E_BadAction hr (by decide) tk (av 3 pda_nil))) pdss_nil))))) ?_
  rintro as Q E hl ⟨⟨ls, nb, df⟩, rfl, ⟨hw, hd⟩, q, qe⟩
  dsimp only at hw hd q qe
  simp
  have hw2 : ∀ l ∈ ls, l.wt < 1000000 := fun l hl => by
    have := wt_mem hl
    simp only [D.wt] at hw
    omega
  refine loopD_inv (fun ds sv => (∃ s, sv = [.dat (.tup ls), .dat (.bl nb), .dat df, s]) ∧ ls.find? (badL nb df) = ds.find? (badL nb df) ∧ ∀ l ∈ ds, l.wt < 1000000) ⟨⟨_, rfl⟩, rfl, hw2⟩ (fun sv' ⟨_, e, _⟩ => q _ ⟨by simpa using e, rfl⟩) ?_
  rintro l r sv' ⟨⟨s, rfl⟩, e, hr⟩ nx hnx
  have h1 := hr l List.mem_cons_self
  have h3 : ∀ l ∈ r, l.wt < 1000000 := fun l hl => hr l (List.mem_cons_of_mem _ hl)
  simp [-Bool.exists_bool, ct_is_link, ct_may_have, Ct.ex, h1, hd]
  by_cases c : isLinkD l = true
  · obtain ⟨a, b, rfl⟩ : ∃ a b, l = .tup [a, b] := by
      unfold isLinkD at c
      split at c
      · exact ⟨_, _, rfl⟩
      · cases c
    have h4 : b.wt < 1000000 := by simp only [D.wt, D.wtL] at h1; omega
    by_cases c2 : mayD b nb df = true
    · have nb' : badL nb df (.tup [a, b]) = false := by simp [badL, c, sndD, c2]
      simp [-Bool.exists_bool, c, atI, ixN]
      refine ⟨b, nb, df, ⟨rfl, rfl, rfl⟩, ⟨h4, hd⟩, ?_⟩
      simp [c2]
      exact hnx _ ⟨⟨_, rfl⟩, by rw [e, List.find?_cons, nb'], h3⟩
    · have nb' : badL nb df (.tup [a, b]) = true := by simp [badL, c, sndD, c2]
      simp [-Bool.exists_bool, c, atI, ixN]
      refine ⟨b, nb, df, ⟨rfl, rfl, rfl⟩, ⟨h4, hd⟩, ?_⟩
      simp [c2]
      exact qe _ ⟨_, by rw [e, List.find?_cons, nb'], rfl⟩
  · have nb' : badL nb df l = true := by simp [badL, c]
    simp [c]
    exact qe _ ⟨_, by rw [e, List.find?_cons, nb'], rfl⟩

theorem fg_check_links {P : Program} {w : World} {K : PySem.W.Frag} {mg : Str → Option Value} {base : Heap} {f : Addr} {fd : FuncData} {c_BadAction : Addr} (F : FunD K "check_links" "check_links" (defArgs s_check_links) (defBody s_check_links) (defScope s_check_links) [] [] f fd) (hm : mg "check_links" = some (.ref f)) (F_is_link : FnG P w K mg base 2 "is_link" 1 (ct_is_link )) (F_may_have : FnG P w K mg base 1 "may_have" 3 (ct_may_have )) (E_BadAction : ExG P w K mg base 1 "BadAction" c_BadAction ["value"]) : FnG P w K mg base 3 "check_links" 3 (ct_check_links c_BadAction) :=
  fnG_of F sc_check_links hm (ok_check_links F F_is_link F_may_have E_BadAction) (F.bindsN fun _ _ _ _ _ _ us hl => match us, hl with | [_, _, _], _ => rfl) Ct.ex_mono
abbrev s_targets_of : Stmt := top 29
abbrev N_targets_of : List Str := ["links", "target", "_"]
theorem sc_targets_of : FnScope N_targets_of ["links"] (defScope s_targets_of) := ⟨rfl, rfl, rfl, by decide +kernel, rfl, by decide +kernel, by decide +kernel⟩
def ct_targets_of : Ct := Ct.ex 0 (fun ps : List (D × D) => [some (.tup (ps.map fun p => .tup [p.1, p.2]))]) (fun ps => ps.length ≤ 1000) (fun ps z => z = .lst (ps.map (·.1))) (fun _ _ => False)
theorem ok_targets_of {P : Program} {w : World} {K : PySem.W.Frag} {mg : Str → Option Value} {base : Heap} {f : Addr} {fd : FuncData} (F : FunD K "targets_of" "targets_of" (defArgs s_targets_of) (defBody s_targets_of) (defScope s_targets_of) [] [] f fd)  : Fd P w K mg base 1 f fd ["links"] (spC K 1 (ct_targets_of )) := by
  have nd := sc_targets_of.nd
  refine fd_body (N := N_targets_of) (ct := ct_targets_of ) F sc_targets_of (fun cdv A outer s H E hr hG tk pw => have hu := Room.units hr; have hv := room_u hr; (pdss_one (pds_ret (pd_L (pdl_lc (own := [("target", 1), ("_", 2)]) rfl nd (blkOk_by (by kernel_rfl)) (pdi_any (dv 0)) (fun i => (pdgw_tup (n := 2) rfl (pdgsw_cons (pdgw_name (i := 1) nd rfl (by first | exact .inl rfl | exact .inr rfl) (by decide)) (pdgsw_cons (pdgw_name (i := 2) nd rfl (by first | exact .inl rfl | exact .inr rfl) (by decide)) pdgsw_nil)))) (fun i => pdts_nil) (fun i => (dv 1))))))) ?_
  rintro as Q E hl ⟨ps, rfl, hw, q, -⟩
  have q := q _ rfl
  simp
  refine goLc_mapl _ (fun p : D × D => p.1) (by simp; omega) (fun p hp T N hT => by simp; exact ⟨_, _, ⟨rfl, rfl⟩, _, _, rfl, rfl, hT⟩) (by simpa using q)

theorem fg_targets_of {P : Program} {w : World} {K : PySem.W.Frag} {mg : Str → Option Value} {base : Heap} {f : Addr} {fd : FuncData} (F : FunD K "targets_of" "targets_of" (defArgs s_targets_of) (defBody s_targets_of) (defScope s_targets_of) [] [] f fd) (hm : mg "targets_of" = some (.ref f))  : FnG P w K mg base 1 "targets_of" 1 (ct_targets_of ) :=
  fnG_of F sc_targets_of hm (ok_targets_of F ) (F.bindsN fun _ _ _ _ _ _ us hl => match us, hl with | [_], _ => rfl) Ct.ex_mono
abbrev s_have_one_target_twice : Stmt := top 30
abbrev N_have_one_target_twice : List Str := ["links"]
theorem sc_have_one_target_twice : FnScope N_have_one_target_twice ["links"] (defScope s_have_one_target_twice) := ⟨rfl, rfl, rfl, by decide +kernel, rfl, by decide +kernel, by decide +kernel⟩
def ct_have_one_target_twice : Ct := Ct.ex 0 (fun ps : List (Str × D) => [some (.tup (ps.map fun p => .tup [.str p.1, p.2]))]) (fun ps => ps.length ≤ 1000) (fun ps z => z = .bl (!decide (ps.map (·.1)).Nodup)) (fun _ _ => False)
theorem ok_have_one_target_twice {P : Program} {w : World} {K : PySem.W.Frag} {mg : Str → Option Value} {base : Heap} {f : Addr} {fd : FuncData} (F : FunD K "have_one_target_twice" "have_one_target_twice" (defArgs s_have_one_target_twice) (defBody s_have_one_target_twice) (defScope s_have_one_target_twice) [] [] f fd) (F_targets_of : FnG P w K mg base 1 "targets_of" 1 (ct_targets_of )) (m_len : mg "len" = none) (m_set : mg "set" = none) : Fd P w K mg base 2 f fd ["links"] (spC K 1 (ct_have_one_target_twice )) := by
  have nd := sc_have_one_target_twice.nd
  refine fd_body (N := N_have_one_target_twice) (ct := ct_have_one_target_twice ) F sc_have_one_target_twice (fun cdv A outer s H E hr hG tk pw => have hu := Room.units hr; have hv := room_u hr; (pdss_one (pds_ret (pd_cmp op_lt snd_lt (pd_lenSet rfl m_len m_set (dcall F_targets_of hr (by decide) hG tk (av 0 pda_nil))) (pd_lenV (i := 0) rfl (by first | exact .inl rfl | exact .inr (.inl rfl) | exact .inr (.inr rfl)) (by rfl) m_len))))) ?_
  rintro as Q E hl ⟨ps, rfl, hw, q, -⟩
  have q := q _ rfl
  simp [dLenSet, ct_targets_of, Ct.ex]
  refine ⟨ps.map fun p => (.str p.1, p.2), by simp, by simpa using hw, ps.map (·.1), by simp, by simp; omega, ?_⟩
  have lt := Sx.many_lt (ps.map (·.1))
  rw [List.length_map] at lt
  refine qb q ?_
  by_cases c : (ps.map (·.1)).Nodup
  · have : ¬ Sx.many (ps.map (·.1)) ps.length < ps.length := fun z => lt.mp z c
    simp [c]
    omega
  · have : Sx.many (ps.map (·.1)) ps.length < ps.length := lt.mpr c
    simp [c]
    omega

theorem fg_have_one_target_twice {P : Program} {w : World} {K : PySem.W.Frag} {mg : Str → Option Value} {base : Heap} {f : Addr} {fd : FuncData} (F : FunD K "have_one_target_twice" "have_one_target_twice" (defArgs s_have_one_target_twice) (defBody s_have_one_target_twice) (defScope s_have_one_target_twice) [] [] f fd) (hm : mg "have_one_target_twice" = some (.ref f)) (F_targets_of : FnG P w K mg base 1 "targets_of" 1 (ct_targets_of )) (m_len : mg "len" = none) (m_set : mg "set" = none) : FnG P w K mg base 2 "have_one_target_twice" 1 (ct_have_one_target_twice ) :=
  fnG_of F sc_have_one_target_twice hm (ok_have_one_target_twice F F_targets_of m_len m_set) (F.bindsN fun _ _ _ _ _ _ us hl => match us, hl with | [_], _ => rfl) Ct.ex_mono
/-- the fields of a column -/
def colNs : List Str := ["name", "links", "nullable", "default"]
def colD (C : Addr) (t : D × D × D × D) : D := .ins C colNs [t.1, t.2.1, t.2.2.1, t.2.2.2]
def tame4 (t : D × D × D × D) : Prop := (t.1.wt < 1000000 ∧ t.1.dep ≤ 60) ∧ (t.2.1.wt < 1000000 ∧ t.2.1.dep ≤ 60) ∧ (t.2.2.1.wt < 1000000 ∧ t.2.2.1.dep ≤ 60) ∧ (t.2.2.2.wt < 1000000 ∧ t.2.2.2.dep ≤ 60)
def eq4 (a b : D × D × D × D) : Bool := eqD a.1 b.1 && (eqD a.2.1 b.2.1 && (eqD a.2.2.1 b.2.2.1 && eqD a.2.2.2 b.2.2.2))
/-- the other side of ==: a column, or tame data -/
def OkO (C : Addr) (d : D) : Prop := d.wt < 1000000 ∨ ∃ b, tame4 b ∧ d = colD C b
def eqO (C : Addr) (a : D × D × D × D) (d : D) (r : Bool) : Prop := (d.wt < 1000000 ∧ r = false) ∨ ∃ b, d = colD C b ∧ r = eq4 a b
abbrev s_Column___eq__ : Stmt := inClass (top 19) 1
abbrev N_Column___eq__ : List Str := ["self", "other"]
theorem sc_Column___eq__ : FnScope N_Column___eq__ ["self", "other"] (defScope s_Column___eq__) := ⟨rfl, rfl, rfl, by decide +kernel, rfl, by decide +kernel, by decide +kernel⟩
def ct_Column___eq__ (cc_Column : Addr) : Ct := Ct.ex 0 (fun t : (D × D × D × D) × D => [some (colD cc_Column t.1), some t.2]) (fun t => tame4 t.1 ∧ OkO cc_Column t.2) (fun t z => ∃ r, z = .bl r ∧ eqO cc_Column t.1 t.2 r) (fun _ _ => False)
theorem ok_Column___eq__ {P : Program} {w : World} {K : PySem.W.Frag} {mg : Str → Option Value} {base : Heap} {f : Addr} {fd : FuncData} {cc_Column : Addr} (F : FunD K "__eq__" "Column.__eq__" (defArgs s_Column___eq__) (defBody s_Column___eq__) (defScope s_Column___eq__) [] [] f fd) (m_Column : mg "Column" = some (.ref cc_Column)) (m_isinstance : mg "isinstance" = none) (T_Column : ClsD K cc_Column colNs) : Fd P w K mg base 1 f fd ["self", "other"] (spC K 2 (ct_Column___eq__ cc_Column)) := by
  have nd := sc_Column___eq__.nd
  refine fd_body (N := N_Column___eq__) (ct := ct_Column___eq__ cc_Column) F sc_Column___eq__ (fun cdv A outer s H E hr hG tk pw => have hu := Room.units hr; have hv := room_u hr; (pdss_one (pds_ret (pd_and (disiC K m_Column m_isinstance (dv 1)) (pd_and (pd_cmp (op_eqP hu) snd_eq (dfld K (dv 0)) (dfld K (dv 1))) (pd_and (pd_cmp (op_eqP hu) snd_eq (dfld K (dv 0)) (dfld K (dv 1))) (pd_and (pd_cmp (op_eqP hu) snd_eq (dfld K (dv 0)) (dfld K (dv 1))) (pd_one (pd_cmp (op_eqP hu) snd_eq (dfld K (dv 0)) (dfld K (dv 1))))))))))) ?_
  rintro as Q E hl ⟨⟨⟨a1, a2, a3, a4⟩, d⟩, rfl, ⟨⟨⟨h1, h1'⟩, ⟨h2, h2'⟩, ⟨h3, h3'⟩, ⟨h4, h4'⟩⟩, ho⟩, q, -⟩
  dsimp only at h1 h1' h2 h2' h3 h3' h4 h4' ho q
  have o1 := T_Column.ok "name" (by simp [colNs])
  have o2 := T_Column.ok "links" (by simp [colNs])
  have o3 := T_Column.ok "nullable" (by simp [colNs])
  have o4 := T_Column.ok "default" (by simp [colNs])
  rcases ho with hd | ⟨⟨b1, b2, b3, b4⟩, ⟨⟨g1, g1'⟩, ⟨g2, g2'⟩, ⟨g3, g3'⟩, ⟨g4, g4'⟩⟩, rfl⟩
  · have q := q _ ⟨false, rfl, .inl ⟨hd, rfl⟩⟩
    have kn := kit_no T_Column hd
    have ot := okTy_tame (K := K) hd
    simp only [dRet, dAndV, dIsi, dVar, sv0, sl0, gIsi, List.map_cons, List.map_nil, List.getElem?_cons_succ, List.getElem?_cons_zero, List.cons_append]
    exact ⟨ot, false, kn, false, rfl, by simpa using q⟩
  · have q := q (.bl (eq4 (a1, a2, a3, a4) (b1, b2, b3, b4))) ⟨_, rfl, .inr ⟨_, rfl, rfl⟩⟩
    have ks := kit_self (K := K) (C := cc_Column)
    simp only [dRet, dAndV, dIsi, dVar, sv0, sl0, gIsi, List.map_cons, List.map_nil, List.getElem?_cons_succ, List.getElem?_cons_zero, List.cons_append, colD]
    refine ⟨T_Column.ity, true, ks, true, rfl, ?_⟩
    rw [if_pos rfl]
    refine ⟨o1, a1, rfl, o1, b1, rfl, gEq_tame h1 g1 h1' ⟨_, rfl, ?_⟩⟩
    cases e1 : eqD a1 b1 with
    | false => simpa [eq4, e1] using q
    | true =>
      refine ⟨o2, a2, rfl, o2, b2, rfl, gEq_tame h2 g2 h2' ⟨_, rfl, ?_⟩⟩
      cases e2 : eqD a2 b2 with
      | false => simpa [eq4, e1, e2] using q
      | true =>
        refine ⟨o3, a3, rfl, o3, b3, rfl, gEq_tame h3 g3 h3' ⟨_, rfl, ?_⟩⟩
        cases e3 : eqD a3 b3 with
        | false => simpa [eq4, e1, e2, e3] using q
        | true =>
          refine ⟨o4, a4, rfl, o4, b4, rfl, gEq_tame h4 g4 h4' ?_⟩
          simpa [eq4, e1, e2, e3] using q

theorem fg_Column___eq__ {P : Program} {w : World} {K : PySem.W.Frag} {mg : Str → Option Value} {base : Heap} {f : Addr} {fd : FuncData} {cc_Column : Addr} (F : FunD K "__eq__" "Column.__eq__" (defArgs s_Column___eq__) (defBody s_Column___eq__) (defScope s_Column___eq__) [] [] f fd) (hm : mg "__eq__" = some (.ref f)) (m_Column : mg "Column" = some (.ref cc_Column)) (m_isinstance : mg "isinstance" = none) (T_Column : ClsD K cc_Column colNs) : FnG P w K mg base 1 "__eq__" 2 (ct_Column___eq__ cc_Column) :=
  fnG_of F sc_Column___eq__ hm (ok_Column___eq__ F m_Column m_isinstance T_Column) (F.bindsN fun _ _ _ _ _ _ us hl => match us, hl with | [_, _], _ => rfl) Ct.ex_mono
end K3
end
section
set_option autoImplicit true
set_option Elab.async false
set_option linter.all false
set_option maxRecDepth 100000
set_option maxHeartbeats 4000000
namespace K3
open PySem PySem.Spec PyProof.Rows L2 Pd
open Pg Pf
inductive Out where
  | ok | name | col | act (l : D)
def blOf : D → Bool
  | .bl b => b
  | _ => false
def fstS : D → Str
  | .tup [.str s, _] => s
  | _ => ""
def colOut (t : D) (ls : List D) (nb df : D) : Out :=
  if !isNameD t || t.isStr "id" then .name
  else if !isBlD nb || !(df.isNon || isIntD df) then .col
  else match ls.find? (badL (blOf nb) df) with
    | some l => .act l
    | none => if !decide (ls.map fstS).Nodup || decide (4 < ls.length) then .col else .ok
def ciCol (cn cb ca : Addr) : Ci := fun ds Q E => ∃ (t nb df : D) (ls : List D), ds = [t, nb, df, .tup ls] ∧ (t.wt < 1000000 ∧ nb.wt < 1000000 ∧ df.wt < 1000000 ∧ (D.tup ls).wt < 1000000 ∧ ls.length ≤ 1000) ∧
  match colOut t ls nb df with
  | .ok => Q [t, .tup ls, nb, df]
  | .name => E ⟨cn, ["value"], [t]⟩
  | .col => E ⟨cb, ["name"], [t]⟩
  | .act l => E ⟨ca, ["value"], [l]⟩
theorem ciCol_mono {cn cb ca : Addr} : ∀ ds Q Q' E E', (∀ d, Q d → Q' d) → (∀ x, E x → E' x) → ciCol cn cb ca ds Q E → ciCol cn cb ca ds Q' E' := by
  rintro ds Q Q' E E' h1 h2 ⟨t, nb, df, ls, e, hw, h⟩
  refine ⟨t, nb, df, ls, e, hw, ?_⟩
  cases c : colOut t ls nb df with
  | ok => rw [c] at h; exact h1 _ h
  | name => rw [c] at h; exact h2 _ h
  | col => rw [c] at h; exact h2 _ h
  | act l => rw [c] at h; exact h2 _ h
theorem links_of {nb : Bool} {df : D} : ∀ {ls : List D}, ls.find? (badL nb df) = none → ∃ ps : List (Str × D), ls = ps.map (fun p => .tup [.str p.1, p.2]) ∧ ls.map fstS = ps.map (·.1)
  | [], _ => ⟨[], rfl, rfl⟩
  | l :: ls, h => by
    rw [List.find?_cons] at h
    cases c : badL nb df l with
    | true => rw [c] at h; cases h
    | false =>
      rw [c] at h
      obtain ⟨ps, e1, e2⟩ := links_of h
      have c1 : isLinkD l = true := by
        unfold badL at c
        simp at c
        exact c.1
      unfold isLinkD at c1
      split at c1
      · rename_i a b
        cases a with
        | str s => exact ⟨(s, b) :: ps, by simp [e1], by simp [fstS, e2]⟩
        | _ => cases c1
      · cases c1
def BodyI (P : Program) (w : World) (K : PySem.W.Frag) (mg : Str → Option Value) (base : Heap) (f : Addr) (k : Nat) (N : List Str) (qual : Str) (body : List Stmt) (scope : Scope) (sp : Sp) : Prop :=
  ∀ (cdv : Value) (A : Around) (outer : List Env) (s : Shared) (H : Hp) (vs : List V) (Q : VK) (E : XK), Room k (A.deeper (envOfC qual scope s.heap.objs.size f cdv)) → A.guards = some [] → sp vs H Q E →
      ∃ t, PSs (cxOf (L2.CX P w) P w K mg base N qual scope f cdv A outer s H E) body t ∧ t { nx := fun _ H' => Q .non H', rt := Q } (L2.start N vs) H
abbrev kwsC : List (Str × V) := [("nullable", .bl false), ("default", .non)]
abbrev s_Column___init__ : Stmt := inClass (top 19) 0
abbrev N_Column___init__ : List Str := ["self", "name", "nullable", "default", "references"]
theorem sc_Column___init__ : FnScope N_Column___init__ ["self", "name", "nullable", "default", "references"] (defScope s_Column___init__) := ⟨rfl, rfl, rfl, by decide +kernel, rfl, by decide +kernel, by decide +kernel⟩
theorem bd_Column {P : Program} {w : World} {K : PySem.W.Frag} {mg : Str → Option Value} {base : Heap} {f : Addr} {fd : FuncData} {c_BadAction c_BadColumn c_BadName cc_Column : Addr} (m_MOST_LINKS : ∃ t, mg "MOST_LINKS" = some (.int 4 t)) (m_bool : mg "bool" = none) (F_check_links : FnG P w K mg base 3 "check_links" 3 (ct_check_links c_BadAction)) (F_have_one_target_twice : FnG P w K mg base 2 "have_one_target_twice" 1 (ct_have_one_target_twice )) (F_is_integer : FnG P w K mg base 1 "is_integer" 1 (ct_is_integer )) (F_is_name : FnG P w K mg base 1 "is_name" 1 (ct_is_name )) (E_BadColumn : ExG P w K mg base 1 "BadColumn" c_BadColumn ["name"]) (E_BadName : ExG P w K mg base 1 "BadName" c_BadName ["value"]) (m_isinstance : mg "isinstance" = none) (m_len : mg "len" = none) (T_Column : ClsD K cc_Column colNs) : BodyI P w K mg base f (4 - 1) N_Column___init__ "Column.__init__" (defBody s_Column___init__) (defScope s_Column___init__) (spI K cc_Column 4 colNs (ciCol c_BadName c_BadColumn c_BadAction)) := by
  have nd := sc_Column___init__.nd
  refine init_body (N := N_Column___init__) (ps := ["self", "name", "nullable", "default", "references"]) (by decide) (fun cdv A outer s H E hr hG tk pw => have hu := Room.units hr; have hv := room_u hr; (pdss_cons (pds_if (pdt_w (pdw_or (pdt_not (pdt_tru (dcall F_is_name hr (by decide) hG tk (av 1 pda_nil)))) (pdw_or1 (pdt_cmp (op_eqP hu) snd_eq (dv 1) pd_str)))) (pdss_one (draise E_BadName hr (by decide) tk (av 1 pda_nil))) pdss_nil)
    (pdss_cons (pds_if (pdt_w (pdw_or (pdt_not (pdt_tru (disiT K boot_bool'' m_bool m_isinstance (dv 2)))) (pdw_or1 (pdt_not (pdt_w (pdw_or (pdt_cmp op_isN1 snd_isN (dv 3) pd_non) (pdw_or1 (pdt_tru (dcall F_is_integer hr (by decide) hG tk (av 3 pda_nil)))))))))) (pdss_one (draise E_BadColumn hr (by decide) tk (av 1 pda_nil))) pdss_nil)
    (pdss_cons (pds_expr (dcall F_check_links hr (by decide) hG tk (av 4 (av 2 (av 3 pda_nil)))))
    (pdss_cons (pds_if (pdt_w (pdw_or (pdt_tru (dcall F_have_one_target_twice hr (by decide) hG tk (av 4 pda_nil))) (pdw_or1 (pdt_cmp op_gt snd_gt (pd_lenV (i := 4) rfl (by first | exact .inl rfl | exact .inr (.inl rfl) | exact .inr (.inr rfl)) (by rfl) m_len) (pd_globI (by rfl) m_MOST_LINKS))))) (pdss_one (draise E_BadColumn hr (by decide) tk (av 1 pda_nil))) pdss_nil)
    (pdss_cons (dself K 0 (dv 1))
    (pdss_cons (dself K 0 (dv 4))
    (pdss_cons (dself K 0 (dv 2))
    (pdss_one (dself K 0 (dv 3))))))))))) ?_
  rintro ds Q E hl ⟨t, nb, df, ls, rfl, ⟨h1, h2, h3, h4, h5⟩, h⟩
  have o1 := T_Column.ok "name" (by simp [colNs])
  have o2 := T_Column.ok "links" (by simp [colNs])
  have o3 := T_Column.ok "nullable" (by simp [colNs])
  have o4 := T_Column.ok "default" (by simp [colNs])
  obtain ⟨p, tp⟩ := tame t h1
  unfold colOut at h
  cases c1 : isNameD t with
  | false => simpa [-Bool.exists_bool, ct_is_name, Ct.ex, h1, c1] using h
  | true =>
  cases c2 : t.isStr "id" with
  | true => simpa [-Bool.exists_bool, ct_is_name, Ct.ex, h1, c1, c2, tp.py, eqv_str tp.py] using h
  | false =>
  rw [c1, c2] at h
  cases nb with
  | ins _ _ _ => simp [D.wt] at h2
  | dk _ _ => simp [D.wt] at h2
  | dt _ _ => simp [D.wt] at h2
  | scr _ => simp [D.wt] at h2
  | cst _ => simp [D.wt] at h2
  | bl bb =>
    cases df with
    | ins _ _ _ => simp [D.wt] at h3
    | dk _ _ => simp [D.wt] at h3
    | dt _ _ => simp [D.wt] at h3
    | scr _ => simp [D.wt] at h3
    | cst _ => simp [D.wt] at h3
    | non | int _ =>
      all_goals
        simp [-Bool.exists_bool, ct_is_name, ct_is_integer, ct_check_links, ct_have_one_target_twice, Ct.ex, h1, h3, c1, c2, tp.py, eqv_str tp.py, isIntD]
        simp [isBlD, isIntD, blOf] at h
        refine ⟨ls, bb, _, ⟨rfl, rfl, rfl⟩, ⟨h4, h3⟩, fun hall => ?_, fun x l e1 e2 => ?_⟩
        · have e0 : ls.find? (badL bb _) = none := List.find?_eq_none.mpr fun x hx => by rw [hall x hx]; decide
          rw [e0] at h
          obtain ⟨ps, e1, e2⟩ := links_of e0
          refine ⟨ps, e1, by rw [e1, List.length_map] at h5; exact h5, _, (by rw [Bool.not_not]), ?_⟩
          rw [e2] at h
          by_cases nd' : (ps.map (·.1)).Nodup
          · have x1 : (!decide (ps.map (·.1)).Nodup) = false := by simp [nd']
            rw [x1]
            by_cases l4 : 4 < ls.length
            · have l5 : (4 : Int) < ls.length := by omega
              simpa [nd', l4, l5] using h
            · have l5 : ¬ (4 : Int) < ls.length := by omega
              simp only [if_neg l5]
              refine ⟨_, _, _, ⟨rfl, rfl, rfl⟩, o1, by decide, by decide, _, _, _, ⟨rfl, rfl, rfl⟩, o2, by decide, by decide, _, _, _, ⟨rfl, rfl, rfl⟩, o3, by decide, by decide, _, _, _, ⟨rfl, rfl, rfl⟩, o4, by decide, by decide, ?_⟩
              simpa [nd', l4, colNs] using h
          · have x1 : (!decide (ps.map (·.1)).Nodup) = true := by simp [nd']
            rw [x1]
            simpa [nd'] using h
        · rw [e1] at h
          rw [e2]
          exact h
    | _ => simpa [-Bool.exists_bool, ct_is_name, ct_is_integer, Ct.ex, h1, h3, c1, c2, tp.py, eqv_str tp.py, isIntD, isBlD] using h
  | _ => simpa [-Bool.exists_bool, ct_is_name, Ct.ex, h1, c1, c2, tp.py, eqv_str tp.py, isBlD] using h
theorem fnI_imp {P : Program} {w : World} {K : PySem.W.Frag} {mg : Str → Option Value} {base : Heap} {k : Nat} {f : Addr} {ks : List Str} {sp sp' : List V → List V → Hp → VK → XK → Prop} (h : FnI P w K mg base k f ks sp) (i : ∀ vs zs H Q E, sp' vs zs H Q E → sp vs zs H Q E) : FnI P w K mg base k f ks sp' :=
  fun A outer s H us ws vs zs Q E hr hG e0 r rz lz hsp => h A outer s H us ws vs zs Q E hr hG e0 r rz lz (i vs zs H Q E hsp)
abbrev gV1 : List V → List V → List V := fun vs zs => vs ++ zs
abbrev gD1 : List D → List D → List D := fun vs zs => vs ++ zs
abbrev gV2 : List V → List V → List V := fun vs zs => vs ++ zs.reverse
abbrev gD2 : List D → List D → List D := fun vs zs => vs ++ zs.reverse
abbrev gV3 : List V → List V → List V := fun vs zs => vs ++ [.bl false, .non]
abbrev gD3 : List D → List D → List D := fun vs zs => vs ++ [.bl false, .non]
theorem valsRev : ∀ {xs : List V} {us : List Value}, Vals xs us → Vals xs.reverse us.reverse
  | _, _, .nil => .nil
  | _, _, .cons r t => by
    rw [List.reverse_cons, List.reverse_cons]
    exact (valsRev t).append (.cons r .nil)
section
variable {P : Program} {w : World} {K : PySem.W.Frag} {mg : Str → Option Value} {base : Heap} {f C c1 c2 c3 : Addr} {fd : FuncData}
abbrev FDC (K : PySem.W.Frag) (f : Addr) (fd : FuncData) : Prop := FunD K "__init__" "Column.__init__" (defArgs s_Column___init__) (defBody s_Column___init__) (defScope s_Column___init__) [] kwsC f fd
abbrev BDC (P : Program) (w : World) (K : PySem.W.Frag) (mg : Str → Option Value) (base : Heap) (f C c1 c2 c3 : Addr) : Prop := BodyI P w K mg base f (4 - 1) N_Column___init__ "Column.__init__" (defBody s_Column___init__) (defScope s_Column___init__) (spI K C 4 colNs (ciCol c1 c2 c3))
theorem cn_a (F : FDC K f fd) (B : BDC P w K mg base f C c1 c2 c3) (M : Mk K C f) (hm : mg "Column" = some (.ref C)) : CnG P w K mg base 4 "Column" C ["nullable", "default"] 1 4 colNs gV1 gD1 (ciCol c1 c2 c3) := by
  refine ⟨ciCol_mono, fun P ds es vs zs h1 h2 h3 h4 => ⟨h3.append h4, by simp [h1, h2]⟩, ⟨f, M, fnI_imp (init_star (ps := ["self", "name", "nullable", "default"]) (pv := "references") (m := 2) (lack := []) (fun us mv ws => us ++ ws) F sc_Column___init__ (fun q hq => by cases hq) (fun a b c => a.append c) (fun a b c => by simp [a, c])
    (fun kV D doc pm an cdv ct us rest mv ws hk h1 h2 h3 => ?_) B) ?_⟩, hm⟩
  · match us, ws, mv, rest with
    | [a, b], [c, d], [], [] => rfl
    | [a, b], [c, d], [], r :: rs => rfl
  · rintro vs zs H Q E ⟨a, ws, rest, rfl, hl, hz, h⟩
    exact ⟨a :: ws, rest, rfl, by simp [hl], hz, h⟩
theorem cn_b (F : FDC K f fd) (B : BDC P w K mg base f C c1 c2 c3) (M : Mk K C f) (hm : mg "Column" = some (.ref C)) : CnG P w K mg base 4 "Column" C ["default", "nullable"] 1 4 colNs gV2 gD2 (ciCol c1 c2 c3) := by
  refine ⟨ciCol_mono, fun P ds es vs zs h1 h2 h3 h4 => ?_, ⟨f, M, fnI_imp (init_star (ps := ["self", "name", "nullable", "default"]) (pv := "references") (m := 2) (lack := []) (fun us mv ws => us ++ ws.reverse) F sc_Column___init__ (fun q hq => by cases hq) (fun a b c => ?_) (fun a b c => by simp [a, c])
    (fun kV D doc pm an cdv ct us rest mv ws hk h1 h2 h3 => ?_) B) ?_⟩, hm⟩
  · match es, h2, h4 with
    | [x, y], _, h4 =>
      obtain ⟨v, r, rfl, e1, v2, r2, rfl, e2, h5⟩ := h4
      obtain rfl : r2 = [] := h5
      exact ⟨h3.append (show RpL K P [y, x] [v2, v] from ⟨_, _, rfl, e2, _, _, rfl, e1, rfl⟩), by simp [h1]⟩
  · exact a.append (valsRev c)
  · match us, ws, mv, rest with
    | [a, b], [c, d], [], [] => rfl
    | [a, b], [c, d], [], r :: rs => rfl
  · rintro vs zs H Q E ⟨a, ws, rest, rfl, hl, hz, h⟩
    exact ⟨a :: ws, rest, rfl, by simp [hl], hz, h⟩
theorem cn_c (F : FDC K f fd) (B : BDC P w K mg base f C c1 c2 c3) (M : Mk K C f) (hm : mg "Column" = some (.ref C)) : CnG P w K mg base 4 "Column" C [] 1 4 colNs gV3 gD3 (ciCol c1 c2 c3) := by
  refine ⟨ciCol_mono, fun P ds es vs zs h1 h2 h3 h4 => ⟨h3.append (show RpL K P [.bl false, .non] [.bl false, .non] from ⟨_, _, rfl, rfl, _, _, rfl, rfl, rfl⟩), by simp [h1]⟩, ⟨f, M, fnI_imp (init_star (ps := ["self", "name", "nullable", "default"]) (pv := "references") (m := 2) (lack := kwsC) (fun us mv ws => us ++ mv) F sc_Column___init__ (fun q hq => hq) (fun a b c => a.append b) (fun a b c => by simp [a, b])
    (fun kV D doc pm an cdv ct us rest mv ws hk h1 h2 h3 => ?_) B) ?_⟩, hm⟩
  · obtain rfl : kV = .ref D := hk.resolve_left (by simp)
    match us, ws, mv, rest with
    | [a, b], [], [c, d], [] => exact ⟨_, _, _, _, _, _, rfl, rfl, _, _, _, _, _, _, rfl, rfl, rfl⟩
    | [a, b], [], [c, d], r :: rs => exact ⟨_, _, _, _, _, _, rfl, rfl, _, _, _, _, _, _, rfl, rfl, rfl⟩
  · rintro vs zs H Q E ⟨a, ws, rest, rfl, hl, hz, h⟩
    exact ⟨a :: ws, rest, rfl, by simp [hl], hz, h⟩
end

end K3
end
section
set_option autoImplicit true
set_option Elab.async false
set_option linter.all false
set_option maxRecDepth 100000
set_option maxHeartbeats 4000000
namespace K3
open PySem PySem.Spec PyProof.Rows L2 Pd
open Pg Pf
abbrev sT : Stmt := top 39
abbrev NT : List Str := ["_law_bag_here", "_law_many", "_law_digit", "_law_mixed"]
theorem scT : FnScope NT ["_law_bag_here", "_law_many"] (defScope sT) := ⟨rfl, rfl, rfl, by decide +kernel, rfl, by decide +kernel, by decide +kernel⟩
/-- a draw: below so many -/
def ctTake : Ct := ⟨1, fun as Q _ => ∃ m : Int, as = [none, some (.int m)] ∧ 0 < m ∧ m < 2 ^ 60 ∧ ∀ j : Int, 0 ≤ j → j < m → Q (.int j)⟩
theorem ctTake_mono : ∀ as Q Q' E E', (∀ d, Q d → Q' d) → (∀ x, E x → E' x) → ctTake.c as Q E → ctTake.c as Q' E' := fun as Q Q' E E' h1 h2 ⟨m, e, a, b, q⟩ => ⟨m, e, a, b, fun j x y => h1 _ (q j x y)⟩
section
variable {P : Program} {w : World} {K : PySem.W.Frag} {mg : Str → Option Value} {base : Heap} {f : Addr} {fd : FuncData}
theorem okT {k : Nat} (F : FunD K "_law_take" "_law_take" (defArgs sT) (defBody sT) (defScope sT) [] [] f fd) (m_int : mg "int" = none) : Fd P w K mg base (k + 1) f fd ["_law_bag_here", "_law_many"] (spC K 2 ctTake) := by
  have nd := scT.nd
  refine fd_of F scT spC_len fun cdv A outer s H vs Q E hr hG hsp => ⟨_, (pss_cons (ps_if (pt_cmpR op_gt (pe_ix ix_list (pv 0) pe_int (fun _ _ => rfl)) pe_int (nomark _))
      (pss_cons (ps_set (i := 2) nd rfl (.inl rfl) (pe_callTy call_int1 (by rfl) m_int boot_int'' (pa_cons (pe_op op_mod (pe_ix ix_list (pv 0) pe_int (fun _ _ => rfl)) (pv 1)) pa_nil)))
      (pss_cons (ps_asg (pe_op op_fdivW (pe_ix ix_list (pv 0) pe_int (fun _ _ => rfl)) (pv 1)) (pg_sub (pv 0) pe_int set_list))
      (pss_one (ps_ret (pv 2))))) pss_nil)
    (pss_cons (ps_asg (pe_op op_add (pe_ix ix_list (pv 0) pe_int (fun _ _ => rfl)) pe_int) (pg_sub (pv 0) pe_int set_list))
    (pss_cons (ps_set (i := 3) nd rfl (.inl rfl) (pe_op op_mod (pe_op op_pow (pe_op op_add (pe_ix ix_list (pv 0) pe_int (fun _ _ => rfl)) (pe_op op_mul pe_int (pe_ix ix_list (pv 0) pe_int (fun _ _ => rfl)))) pe_int) pe_int))
    (pss_cons (ps_set (i := 3) nd rfl (.inl rfl) (pe_op op_mod (pe_op op_pow (pe_op op_add (pv 3) (pe_op op_mul pe_int (pe_ix ix_list (pv 0) pe_int (fun _ _ => rfl)))) pe_int) pe_int))
    (pss_one (ps_ret (pe_callTy call_int1 (by rfl) m_int boot_int'' (pa_cons (pe_op op_mod (pe_op op_fdivW (pv 3) pe_int) (pv 1)) pa_nil)))))))), ?_⟩
  obtain ⟨P0, B, L, as, h1, h2, h3, h4, h5, h6, m, rfl, hm0, hm1, hq⟩ := hsp
  obtain ⟨v0, r0, rfl, ⟨p, rfl, hB⟩, v1, r1, rfl, e1, rfl⟩ := h3
  obtain rfl : v1 = .int m := e1
  obtain ⟨hP, x, y, z, hH, hx, hy0, hy1, hz0, hzL⟩ := h6 p hB
  have hzL : z + 1 ≤ L := hzL
  have bl : SqL K H p [.int x, .int y, .int z] := SqL.of hH
  refine ⟨.ref p, rfl, p, _, 0, .int x, rfl, rfl, bl, rfl, x, 0, rfl, rfl, _, rfl, ?_⟩
  have done_ : ∀ (H' : Hp) (j : Int), 0 ≤ j → j < m → (∃ x y z : Int, H' = upd H p (.lst [.int x, .int y, .int z]) ∧ 0 ≤ x ∧ 0 ≤ y ∧ y < 2 ^ 61 ∧ 0 ≤ z ∧ z ≤ L) → Q (.int j) H' := fun H' j hj0 hjm ⟨x', y', z', eH, a1, a2, a3, a4, a5⟩ => by
    subst eH
    refine hq j hj0 hjm (.int j) _ P0 ⟨fun a o e => ?_, Sub.refl P0, fun a o e => .inl e, fun a o e nb => ?_, fun a ha => ?_⟩ rfl
    · have ne : a ≠ p := fun q => by
        rw [q, hP] at e
        cases e
      rw [upd_ne ne]
      exact h1 a o e
    · have ne : a ≠ p := fun q => nb (by rw [q]; exact hB)
      rw [upd_ne ne]
      exact e
    · by_cases ea : a = p
      · exact ⟨x', y', z', by rw [ea, upd_same], a1, a2, a3, a4, by simpa using a5⟩
      · obtain ⟨_, d⟩ := h6 a ha
        obtain ⟨x1, y1, z1, b1, b2, b3, b4, b5, b6⟩ := d
        exact ⟨x1, y1, z1, by rw [upd_ne ea]; exact b1, b2, b3, b4, b5, by have b6 : z1 + 1 ≤ L := b6; simp; omega⟩
  by_cases hx0 : 0 < x
  · rw [decide_eq_true hx0]
    refine ⟨.ref p, rfl, p, _, 0, .int x, rfl, rfl, bl, rfl, .int m, rfl, x, m, rfl, rfl, hm0, .inl ⟨x % m, rfl, ?_⟩⟩
    refine ⟨.ref p, rfl, p, _, 0, .int x, rfl, rfl, bl, rfl, .int m, rfl, x, m, rfl, rfl, wide_div hm0 (b := 60) (by omega) (by decide) (by decide), ?_⟩
    refine ⟨.ref p, rfl, p, _, 0, 0, rfl, rfl, hH, rfl, ?_⟩
    refine ⟨.int (x % m), rfl, done_ _ _ (Int.emod_nonneg _ (by omega)) (Int.emod_lt_of_pos _ hm0) ⟨x / m, y, z, rfl, Int.ediv_nonneg hx (by omega), hy0, hy1, hz0, by omega⟩⟩
  · rw [decide_eq_false hx0]
    have hL : L ≤ 2 ^ 39 := h2
    refine ⟨.ref p, rfl, p, _, 2, .int z, rfl, rfl, bl, rfl, z, 1, rfl, rfl, ?_⟩
    refine ⟨.ref p, rfl, p, _, 2, 2, rfl, rfl, hH, rfl, ?_⟩
    have b2 : SqL K (upd H p (.lst [.int x, .int y, .int (z + 1)])) p [.int x, .int y, .int (z + 1)] := SqL.of upd_same
    refine ⟨.ref p, rfl, p, _, 1, .int y, rfl, rfl, b2, rfl, .ref p, rfl, p, _, 2, .int (z + 1), rfl, rfl, b2, rfl, 1000003, z + 1, rfl, rfl, .inl (by decide), ?_⟩
    have g1 : ∀ a : Int, 0 ≤ a % 2305843009213693921 ∧ a % 2305843009213693921 < 2305843009213693921 := fun a => ⟨Int.emod_nonneg _ (by decide), Int.emod_lt_of_pos _ (by decide)⟩
    have g2 : ∀ a : Int, 0 ≤ a % 2305843009213693951 ∧ a % 2305843009213693951 < 2305843009213693951 := fun a => ⟨Int.emod_nonneg _ (by decide), Int.emod_lt_of_pos _ (by decide)⟩
    have bnd : ∀ u : Int, 0 ≤ u ∧ u < 2305843009213693921 → (u + 15485863 * (z + 1)).natAbs < 2 ^ 64 := fun u ⟨_, _⟩ => by omega
    refine ⟨y, 1000003 * (z + 1), rfl, rfl, y + 1000003 * (z + 1), 3, rfl, rfl, ⟨by decide, by decide, by omega⟩, _, 2305843009213693921, rfl, rfl, (show (0 : Int) < 2305843009213693921 by decide), ?_⟩
    refine ⟨_, rfl, .ref p, rfl, p, _, 2, .int (z + 1), rfl, rfl, b2, rfl, 15485863, z + 1, rfl, rfl, .inl (by decide), ?_⟩
    refine ⟨_, 15485863 * (z + 1), rfl, rfl, _, 2, rfl, rfl, ⟨by decide, by decide, bnd _ (g1 _)⟩, _, 2305843009213693951, rfl, rfl, (show (0 : Int) < 2305843009213693951 by decide), ?_⟩
    refine ⟨_, rfl, _, 2048, rfl, rfl, wide_div (by decide) (b := 60) (by decide) (by decide) (by decide), .int m, rfl, _, m, rfl, rfl, hm0, .inl ⟨_, rfl, ?_⟩⟩
    exact done_ _ _ (Int.emod_nonneg _ (by omega)) (Int.emod_lt_of_pos _ hm0) ⟨x, y, z + 1, rfl, hx, hy0, hy1, by omega, hzL⟩
end
abbrev s__law_of : Stmt := top 40
abbrev N__law_of : List Str := ["_law_bag_here", "_law_some"]
theorem sc__law_of : FnScope N__law_of ["_law_bag_here", "_law_some"] (defScope s__law_of) := ⟨rfl, rfl, rfl, by decide +kernel, rfl, by decide +kernel, by decide +kernel⟩
def ct__law_of : Ct := Ct.ex 1 (fun xs : List D => [none, some (.lst xs)]) (fun xs => 0 < xs.length ∧ xs.length ≤ 1000) (fun xs d => d ∈ xs) (fun _ _ => False)
theorem ok__law_of {P : Program} {w : World} {K : PySem.W.Frag} {mg : Str → Option Value} {base : Heap} {f : Addr} {fd : FuncData} (F : FunD K "_law_of" "_law_of" (defArgs s__law_of) (defBody s__law_of) (defScope s__law_of) [] [] f fd) (F__law_take : FnG P w K mg base 1 "_law_take" 2 (ctTake )) (m_len : mg "len" = none) : Fd P w K mg base 2 f fd ["_law_bag_here", "_law_some"] (spC K 2 (ct__law_of )) := by
  have nd := sc__law_of.nd
  refine fd_body (N := N__law_of) (ct := ct__law_of ) F sc__law_of (fun cdv A outer s H E hr hG tk pw => have hu := Room.units hr; have hv := room_u hr; (pdss_one (pds_ret (pd_ix (dv 1) (dcall F__law_take hr (by decide) hG tk (av 0 (pda_cons (pd_lenV (i := 1) rfl (by first | exact .inl rfl | exact .inr (.inl rfl) | exact .inr (.inr rfl)) (by rfl) m_len) pda_nil))))))) ?_
  rintro as Q E hl ⟨xs, rfl, ⟨h0, h1⟩, q, -⟩
  dsimp only at h0 h1 q
  simp [ctTake, ct__law_of, Ct.ex]
  refine ⟨h0, by omega, fun j hj0 hj1 => ?_⟩
  obtain ⟨n, rfl⟩ := Int.eq_ofNat_of_zero_le hj0
  have hn : n < xs.length := by omega
  refine ⟨xs[n], ?_, q _ (List.getElem_mem hn)⟩
  simp [atI, ixN, hn]

theorem fg__law_of {P : Program} {w : World} {K : PySem.W.Frag} {mg : Str → Option Value} {base : Heap} {f : Addr} {fd : FuncData} (F : FunD K "_law_of" "_law_of" (defArgs s__law_of) (defBody s__law_of) (defScope s__law_of) [] [] f fd) (hm : mg "_law_of" = some (.ref f)) (F__law_take : FnG P w K mg base 1 "_law_take" 2 (ctTake )) (m_len : mg "len" = none) : FnG P w K mg base 2 "_law_of" 2 (ct__law_of ) :=
  fnG_of F sc__law_of hm (ok__law_of F F__law_take m_len) (F.bindsN fun _ _ _ _ _ _ us hl => match us, hl with | [_, _], _ => rfl) Ct.ex_mono
end K3
end
section
set_option autoImplicit true
set_option Elab.async false
set_option linter.all false
set_option maxRecDepth 100000
set_option maxHeartbeats 4000000
namespace K3
open PySem PySem.Spec PyProof.Rows L2 Pd
open Pg Pf
/-- a column that may be: what Column makes of its own parts -/
abbrev Q0 : Type := D × D × D × D
theorem asD_dat : ∀ ls : List D, asD (ls.map Ar.dat) = some ls
  | [] => rfl
  | d :: ls => by simp [asD, asD_dat ls]
def okQ (q : Q0) : Prop := ∃ (s : Str) (ls : List D) (nb df : D), q = (.str s, .tup ls, nb, df) ∧ ((D.str s).wt < 100000 ∧ nb.wt < 100000 ∧ df.wt < 100000 ∧ (D.tup ls).wt < 100000 ∧ nb.dep ≤ 50 ∧ df.dep ≤ 50 ∧ (D.tup ls).dep ≤ 50 ∧ ls.length ≤ 1000) ∧ colOut (.str s) ls nb df = .ok
abbrev s_with_links : Stmt := top 32
abbrev N_with_links : List Str := ["column", "links"]
theorem sc_with_links : FnScope N_with_links ["column", "links"] (defScope s_with_links) := ⟨rfl, rfl, rfl, by decide +kernel, rfl, by decide +kernel, by decide +kernel⟩
def ct_with_links (cc_Column : Addr) : Ct := Ct.ex 0 (fun q : Q0 => [some (colD cc_Column q), some q.2.1]) okQ (fun q z => z = colD cc_Column q) (fun _ _ => False)
theorem ok_with_links {P : Program} {w : World} {K : PySem.W.Frag} {mg : Str → Option Value} {base : Heap} {f : Addr} {fd : FuncData} {c_BadAction c_BadColumn c_BadName cc_Column : Addr} (F : FunD K "with_links" "with_links" (defArgs s_with_links) (defBody s_with_links) (defScope s_with_links) [] [] f fd) (C_Column_nullable_default : CnG P w K mg base 4 "Column" cc_Column ["nullable", "default"] 1 4 colNs gV1 gD1 (ciCol c_BadName c_BadColumn c_BadAction)) (T_Column : ClsD K cc_Column colNs) : Fd P w K mg base 6 f fd ["column", "links"] (spC K 2 (ct_with_links cc_Column)) := by
  have nd := sc_with_links.nd
  refine fd_body (N := N_with_links) (ct := ct_with_links cc_Column) F sc_with_links (fun cdv A outer s H E hr hG tk pw => have hu := Room.units hr; have hv := room_u hr; (pdss_one (pds_ret (dmakeS C_Column_nullable_default hr (by decide) hG tk (pda_cons (dfld K (dv 0)) (pda_star (dv 1) pda_nil)) (pdk_cons (dfld K (dv 0)) (pdk_cons (dfld K (dv 0)) pdk_nil)))))) ?_
  rintro as Q E hl ⟨q, rfl, ⟨s, ls, nb, df, rfl, ⟨h1, h2, h3, h4, h5, h6, h7, h8⟩, ho⟩, q, -⟩
  have q := q _ rfl
  have o1 := T_Column.ok "name" (by simp [colNs])
  have o2 := T_Column.ok "links" (by simp [colNs])
  have o3 := T_Column.ok "nullable" (by simp [colNs])
  have o4 := T_Column.ok "default" (by simp [colNs])
  have fin : ciCol c_BadName c_BadColumn c_BadAction [.str s, nb, df, .tup ls] (fun fs => Q (.ins cc_Column colNs fs)) E := by
    refine ⟨.str s, nb, df, ls, rfl, ⟨by omega, by omega, by omega, by omega, h8⟩, ?_⟩
    rw [ho]
    exact q
  simp [-D.isNon, colD, colNs]
  refine ⟨o1, o3, nb, rfl, o4, df, rfl, .str s :: ls, ⟨ls, asD_dat ls, rfl⟩, by simp, by simp; omega, ?_⟩
  simpa [colNs] using fin

theorem fg_with_links {P : Program} {w : World} {K : PySem.W.Frag} {mg : Str → Option Value} {base : Heap} {f : Addr} {fd : FuncData} {c_BadAction c_BadColumn c_BadName cc_Column : Addr} (F : FunD K "with_links" "with_links" (defArgs s_with_links) (defBody s_with_links) (defScope s_with_links) [] [] f fd) (hm : mg "with_links" = some (.ref f)) (C_Column_nullable_default : CnG P w K mg base 4 "Column" cc_Column ["nullable", "default"] 1 4 colNs gV1 gD1 (ciCol c_BadName c_BadColumn c_BadAction)) (T_Column : ClsD K cc_Column colNs) : FnG P w K mg base 6 "with_links" 2 (ct_with_links cc_Column) :=
  fnG_of F sc_with_links hm (ok_with_links F C_Column_nullable_default T_Column) (F.bindsN fun _ _ _ _ _ _ us hl => match us, hl with | [_, _], _ => rfl) Ct.ex_mono
theorem eqvSS (a s : Str) : PyData.eqv (.str a) (.str s) = (a == s) := by
  first | rfl | simp [PyData.eqv]
inductive TOut where
  | ok | name | tab | act (l : D)
def strOf : D → Str
  | .str s => s
  | _ => ""
theorem strOf_str (s : Str) : strOf (.str s) = s := rfl
def tabOut (n : D) (ls : List D) (qs : List Q0) : TOut :=
  if !isNameD n then .name
  else match ls.find? (badL false .non) with
    | some l => .act l
    | none => if !decide (ls.map fstS).Nodup || (decide (strOf n ∈ ls.map fstS) || decide (4 < ls.length)) then .tab
      else if !decide (qs.map fun q => strOf q.1).Nodup || decide (3 < qs.length) then .tab else .ok
def tabNs : List Str := ["name", "parts", "links"]
def tabD (C CC : Addr) (t : D × List Q0 × List D) : D := .ins C tabNs [t.1, .tup (t.2.1.map (colD CC)), .tup t.2.2]
def ciTab (CC cn cb ca : Addr) : Ci := fun ds Q E => ∃ (n : D) (qs : List Q0) (ls : List D), ds = [n, .tup ls, .tup (qs.map (colD CC))] ∧ (n.wt < 1000000 ∧ (D.tup ls).wt < 1000000 ∧ ls.length ≤ 1000 ∧ qs.length ≤ 1000 ∧ ∀ q ∈ qs, okQ q) ∧
  match tabOut n ls qs with
  | .ok => Q [n, .tup (qs.map (colD CC)), .tup ls]
  | .name => E ⟨cn, ["value"], [n]⟩
  | .tab => E ⟨cb, ["name"], [n]⟩
  | .act l => E ⟨ca, ["value"], [l]⟩
theorem ciTab_mono {CC cn cb ca : Addr} : ∀ ds Q Q' E E', (∀ d, Q d → Q' d) → (∀ x, E x → E' x) → ciTab CC cn cb ca ds Q E → ciTab CC cn cb ca ds Q' E' := by
  rintro ds Q Q' E E' h1 h2 ⟨n, qs, ls, e, hw, h⟩
  refine ⟨n, qs, ls, e, hw, ?_⟩
  cases c : tabOut n ls qs with
  | ok => rw [c] at h; exact h1 _ h
  | name => rw [c] at h; exact h2 _ h
  | tab => rw [c] at h; exact h2 _ h
  | act l => rw [c] at h; exact h2 _ h
abbrev s_Table___init__ : Stmt := inClass (top 20) 0
abbrev N_Table___init__ : List Str := ["self", "name", "ids", "columns", "names", "column"]
theorem sc_Table___init__ : FnScope N_Table___init__ ["self", "name", "ids", "columns"] (defScope s_Table___init__) := ⟨rfl, rfl, rfl, by decide +kernel, rfl, by decide +kernel, by decide +kernel⟩
theorem bd_Table {kwsT : List (Str × V)} {P : Program} {w : World} {K : PySem.W.Frag} {mg : Str → Option Value} {base : Heap} {f : Addr} {fd : FuncData} {c_BadAction c_BadName c_BadTable cc_Column cc_Table : Addr} (m_MOST_COLUMNS : ∃ t, mg "MOST_COLUMNS" = some (.int 3 t)) (m_MOST_LINKS : ∃ t, mg "MOST_LINKS" = some (.int 4 t)) (F_check_links : FnG P w K mg base 3 "check_links" 3 (ct_check_links c_BadAction)) (F_have_one_target_twice : FnG P w K mg base 2 "have_one_target_twice" 1 (ct_have_one_target_twice )) (F_is_name : FnG P w K mg base 1 "is_name" 1 (ct_is_name )) (F_targets_of : FnG P w K mg base 1 "targets_of" 1 (ct_targets_of )) (F_with_links : FnG P w K mg base 6 "with_links" 2 (ct_with_links cc_Column)) (E_BadName : ExG P w K mg base 1 "BadName" c_BadName ["value"]) (E_BadTable : ExG P w K mg base 1 "BadTable" c_BadTable ["name"]) (m_len : mg "len" = none) (m_set : mg "set" = none) (m_tuple : mg "tuple" = none) (T_Column : ClsD K cc_Column colNs) (T_Table : ClsD K cc_Table tabNs) (F_with_links_ : True) : BodyI P w K mg base f (7 - 1) N_Table___init__ "Table.__init__" (defBody s_Table___init__) (defScope s_Table___init__) (spI K cc_Table 3 tabNs (ciTab cc_Column c_BadName c_BadTable c_BadAction)) := by
  have nd := sc_Table___init__.nd
  refine init_body (N := N_Table___init__) (ps := ["self", "name", "ids", "columns"]) (by decide) (fun cdv A outer s H E hr hG tk pw => have hu := Room.units hr; have hv := room_u hr; (pdss_cons (pds_if (pdt_not (pdt_tru (dcall F_is_name hr (by decide) hG tk (av 1 pda_nil)))) (pdss_one (draise E_BadName hr (by decide) tk (av 1 pda_nil))) pdss_nil)
    (pdss_cons (pds_expr (dcall F_check_links hr (by decide) hG tk (av 2 (pda_cons pd_bl (pda_cons pd_non pda_nil)))))
    (pdss_cons (pds_if (pdt_w (pdw_or (pdt_tru (dcall F_have_one_target_twice hr (by decide) hG tk (av 2 pda_nil))) (pdw_or (pdt_cmp (op_inA hv) snd_in (dv 1) (dcall F_targets_of hr (by decide) hG tk (av 2 pda_nil))) (pdw_or1 (pdt_cmp op_gt snd_gt (pd_lenV (i := 2) rfl (by first | exact .inl rfl | exact .inr (.inl rfl) | exact .inr (.inr rfl)) (by rfl) m_len) (pd_globI (by rfl) m_MOST_LINKS)))))) (pdss_one (draise E_BadTable hr (by decide) tk (av 1 pda_nil))) pdss_nil)
    (pdss_cons (pds_setLc (i := 4) (own := [("column", 5)]) rfl nd rfl rfl (sw_true rfl rfl rfl rfl) (blkOk_by (by kernel_rfl)) (pdi_any (dv 3)) (fun i => (pdgw_name (i := 5) nd rfl (by first | exact .inl rfl | exact .inr rfl) (by decide))) (fun i => pdts_nil) (fun i => (dfld K (dv 5))))
    (pdss_cons (pds_if (pdt_w (pdw_or (pdt_cmp op_lt snd_lt (pd_lenSet rfl m_len m_set (dv 4)) (pd_lenV (i := 4) rfl (by first | exact .inl rfl | exact .inr (.inl rfl) | exact .inr (.inr rfl)) (by rfl) m_len)) (pdw_or1 (pdt_cmp op_gt snd_gt (pd_lenV (i := 4) rfl (by first | exact .inl rfl | exact .inr (.inl rfl) | exact .inr (.inr rfl)) (by rfl) m_len) (pd_globI (by rfl) m_MOST_COLUMNS))))) (pdss_one (draise E_BadTable hr (by decide) tk (av 1 pda_nil))) pdss_nil)
    (pdss_cons (dself K 0 (dv 1))
    (pdss_cons (dself K 0 (pd_tuple (by rfl) m_tuple (pda_cons (pd_L (pdl_lc (own := [("column", 5)]) rfl nd (blkOk_by (by kernel_rfl)) (pdi_any (dv 3)) (fun i => (pdgw_name (i := 5) nd rfl (by first | exact .inl rfl | exact .inr rfl) (by decide))) (fun i => pdts_nil) (fun i => (dcall F_with_links hr (by decide) hG takes_no (av 5 (pda_cons (dfld K (dv 5)) pda_nil)))))) pda_nil)))
    (pdss_one (dself K 0 (pd_tuple (by rfl) m_tuple (av 2 pda_nil)))))))))))) ?_
  rintro ds Q E hl ⟨n, qs, ls, rfl, ⟨h1, h2, h3, h4, h5⟩, h⟩
  have o1 := T_Table.ok "name" (by simp [tabNs])
  have o2 := T_Table.ok "parts" (by simp [tabNs])
  have o3 := T_Table.ok "links" (by simp [tabNs])
  have oc := T_Column.ok "name" (by simp [colNs])
  have oc2 := T_Column.ok "links" (by simp [colNs])
  obtain ⟨p, tp⟩ := tame n h1
  unfold tabOut at h
  cases c1 : isNameD n with
  | false => simpa [-Bool.exists_bool, ct_is_name, Ct.ex, h1, c1] using h
  | true =>
    rw [c1] at h
    obtain ⟨s, rfl⟩ : ∃ s, n = .str s := by
      cases n <;> first | exact ⟨_, rfl⟩ | (simp [isNameD] at c1)
    simp [-Bool.exists_bool, ct_is_name, ct_check_links, ct_have_one_target_twice, ct_targets_of, Ct.ex, h1, c1]
    simp only [Bool.not_true, Bool.false_eq_true, if_false] at h
    refine ⟨ls, false, .non, ⟨rfl, rfl, rfl⟩, ⟨h2, by decide⟩, fun hall => ?_, fun x l e1 e2 => ?_⟩
    · have e0 : ls.find? (badL false .non) = none := List.find?_eq_none.mpr fun x hx => by rw [hall x hx]; decide
      rw [e0] at h
      dsimp only at h
      obtain ⟨ps, e1, e2⟩ := links_of e0
      have lp : ps.length = ls.length := by rw [e1, List.length_map]
      rw [e2] at h
      refine ⟨ps, e1, by omega, _, (by rw [Bool.not_not]), ?_⟩
      by_cases nd' : (ps.map (·.1)).Nodup
      · have x1 : (!decide (ps.map (·.1)).Nodup) = false := by simp [nd']
        rw [x1]
        simp only [Bool.false_eq_true, if_false]
        refine ⟨ps.map fun p => (.str p.1, p.2), by simp [e1], by simpa using (by omega : ps.length ≤ 1000), (ps.map (·.1)).map PyData.str, by rw [show List.map (fun x => x.fst) (List.map (fun p => (D.str p.1, p.2)) ps) = (ps.map (·.1)).map D.str from by simp]; exact pyL_strs _, ?_⟩
        have iff : (∃ x_1, x_1 ∈ (ps.map (·.1)).map PyData.str ∧ x_1.eqv (PyData.str s) = true) ↔ s ∈ ps.map (·.1) := by
          constructor
          · rintro ⟨x, hx, e⟩
            obtain ⟨a, ha, rfl⟩ := List.mem_map.mp hx
            rw [eqvSS] at e
            rw [← beq_iff_eq.mp e]
            exact ha
          · exact fun h => ⟨_, List.mem_map.mpr ⟨s, h, rfl⟩, by rw [eqvSS]; exact beq_self_eq_true s⟩
        by_cases ms : s ∈ ps.map (·.1)
        · rw [if_pos (iff.mpr ms)]
          simpa [nd', strOf, ms] using h
        · rw [if_neg fun z => ms (iff.mp z)]
          by_cases l4 : 4 < ls.length
          · have l5 : (4 : Int) < ls.length := by omega
            rw [if_pos l5]
            simpa [nd', strOf, ms, l4] using h
          · have l5 : ¬ (4 : Int) < ls.length := by omega
            rw [if_neg l5]
            simp only [nd', strOf_str, ms, l4, decide_true, decide_false, Bool.not_true, Bool.or_false, Bool.false_eq_true, if_false] at h
            refine goLc_mapl (colD cc_Column) (fun q : Q0 => q.1) (by simp; omega) (fun q hq T N hT => by simp [-Bool.exists_bool, colD, colNs, oc]; exact hT) ?_
            have eN : qs.map (fun q => q.1) = (qs.map fun q => strOf q.1).map D.str := by
              rw [List.map_map]
              exact List.map_congr_left fun q hq => by
                obtain ⟨s, _, _, _, rfl, _⟩ := h5 q hq
                rfl
            have lt := Sx.many_lt (qs.map fun q => strOf q.1)
            have lz : (qs.map fun q => strOf q.1).length = qs.length := by simp
            simp [-Bool.exists_bool, dLenSet]
            refine ⟨qs.map fun q => strOf q.1, eN, by omega, ?_⟩
            rw [lz] at lt ⊢
            by_cases nq : (qs.map fun q => strOf q.1).Nodup
            · have l6 : ¬ Sx.many (qs.map fun q => strOf q.1) qs.length < qs.length := fun z => lt.mp z nq
              rw [if_neg l6]
              by_cases l3 : 3 < qs.length
              · have l7 : (3 : Int) < qs.length := by omega
                rw [if_pos l7]
                simpa [nq, l3] using h
              · have l7 : ¬ (3 : Int) < qs.length := by omega
                rw [if_neg l7]
                refine ⟨_, _, _, ⟨rfl, rfl, rfl⟩, o1, by simp, by simp, ?_⟩
                refine goLc_mapl (colD cc_Column) (colD cc_Column) (by simp; omega) (fun q hq T N hT => ?_) ?_
                · simp [-Bool.exists_bool, colD, colNs, oc2]
                  refine ⟨_, rfl, Ct.exI q rfl (h5 q hq) (fun d hd => ?_) fun _ z => z.elim⟩
                  obtain rfl := hd
                  simpa using hT
                · simp [-Bool.exists_bool]
                  exact ⟨_, _, _, ⟨rfl, rfl, rfl⟩, o2, by decide, by decide, _, _, _, ⟨rfl, rfl, rfl⟩, o3, by decide, by decide, _, ⟨rfl, rfl, rfl⟩, by simpa [nq, l3] using h⟩
            · have l6 : Sx.many (qs.map fun q => strOf q.1) qs.length < qs.length := lt.mpr nq
              rw [if_pos l6]
              simpa [nq] using h
      · have x1 : (!decide (ps.map (·.1)).Nodup) = true := by simp [nd']
        rw [x1]
        simpa [nd'] using h
    · rw [e1] at h
      rw [e2]
      exact h
abbrev gV4 (d0 : V) : List V → List V → List V := fun vs zs => vs ++ [d0]
abbrev gD4 : List D → List D → List D := fun vs zs => vs ++ [.tup []]
section
variable {P : Program} {w : World} {K : PySem.W.Frag} {mg : Str → Option Value} {base : Heap} {f CC C c1 c2 c3 : Addr} {fd : FuncData} {d0 : V}
abbrev FDT (K : PySem.W.Frag) (d0 : V) (f : Addr) (fd : FuncData) : Prop := FunD K "__init__" "Table.__init__" (defArgs s_Table___init__) (defBody s_Table___init__) (defScope s_Table___init__) [] [("ids", d0)] f fd
abbrev BDT (P : Program) (w : World) (K : PySem.W.Frag) (mg : Str → Option Value) (base : Heap) (f CC C c1 c2 c3 : Addr) : Prop := BodyI P w K mg base f (7 - 1) N_Table___init__ "Table.__init__" (defBody s_Table___init__) (defScope s_Table___init__) (spI K C 3 tabNs (ciTab CC c1 c2 c3))
theorem cn_Ta (F : FDT K d0 f fd) (B : BDT P w K mg base f CC C c1 c2 c3) (M : Mk K C f) (hm : mg "Table" = some (.ref C)) : CnG P w K mg base 7 "Table" C ["ids"] 1 3 tabNs gV1 gD1 (ciTab CC c1 c2 c3) := by
  refine ⟨ciTab_mono, fun P ds es vs zs h1 h2 h3 h4 => ⟨h3.append h4, by simp [h1, h2]⟩, ⟨f, M, fnI_imp (init_star (ps := ["self", "name", "ids"]) (pv := "columns") (m := 2) (lack := []) (fun us mv ws => us ++ ws) F sc_Table___init__ (fun q hq => by cases hq) (fun a b c => a.append c) (fun a b c => by simp [a, c])
    (fun kV D doc pm an cdv ct us rest mv ws hk h1 h2 h3 => ?_) B) ?_⟩, hm⟩
  · match us, ws, mv, rest with
    | [a, b], [c], [], [] => rfl
    | [a, b], [c], [], r :: rs => rfl
  · rintro vs zs H Q E ⟨a, ws, rest, rfl, hl, hz, h⟩
    exact ⟨a :: ws, rest, rfl, by simp [hl], hz, h⟩
theorem cn_Tb (F : FDT K d0 f fd) (hd0 : ∀ P, Rp K P (.tup []) d0) (B : BDT P w K mg base f CC C c1 c2 c3) (M : Mk K C f) (hm : mg "Table" = some (.ref C)) : CnG P w K mg base 7 "Table" C [] 1 3 tabNs (gV4 d0) gD4 (ciTab CC c1 c2 c3) := by
  refine ⟨ciTab_mono, fun P ds es vs zs h1 h2 h3 h4 => ⟨h3.append (show RpL K P [.tup []] [d0] from ⟨_, _, rfl, hd0 P, rfl⟩), by simp [h1]⟩, ⟨f, M, fnI_imp (init_star (ps := ["self", "name", "ids"]) (pv := "columns") (m := 2) (lack := [("ids", d0)]) (fun us mv ws => us ++ mv) F sc_Table___init__ (fun q hq => hq) (fun a b c => a.append b) (fun a b c => by simp [a, b])
    (fun kV D doc pm an cdv ct us rest mv ws hk h1 h2 h3 => ?_) B) ?_⟩, hm⟩
  · obtain rfl : kV = .ref D := hk.resolve_left (by simp)
    match us, ws, mv, rest with
    | [a, b], [], [c], [] => exact ⟨_, _, _, _, _, _, rfl, rfl, rfl⟩
    | [a, b], [], [c], r :: rs => exact ⟨_, _, _, _, _, _, rfl, rfl, rfl⟩
  · rintro vs zs H Q E ⟨a, ws, rest, rfl, hl, hz, h⟩
    exact ⟨a :: ws, rest, rfl, by simp [hl], hz, h⟩
end
end K3
end
section
set_option autoImplicit true
set_option Elab.async false
set_option linter.all false
set_option maxRecDepth 100000
set_option maxHeartbeats 4000000
namespace K3
open PySem PySem.Spec PyProof.Rows L2 Pd
open Pg Pf
/-- a column, a table, in the law's words -/
structure Col where
  ti : Str
  ln : List (Str × Str)
  op : Bool
  pre : D
structure Tab where
  nm : Str
  ids : List (Str × Str)
  cs : List Col
abbrev T0 : Type := D × List Q0 × List D
def pairsD (ps : List (Str × Str)) : List D := ps.map fun p => .tup [.str p.1, .str p.2]
def colQ (c : Col) : Q0 := (.str c.ti, .tup (pairsD c.ln), .bl c.op, c.pre)
def tabT (t : Tab) : T0 := (.str t.nm, t.cs.map colQ, pairsD t.ids)
def tD (C CC : Addr) (t : Tab) : D := tabD C CC (tabT t)
structure OkT (t : Tab) : Prop where
  cols : ∀ c ∈ t.cs, okQ (colQ c)
  out : tabOut (.str t.nm) (pairsD t.ids) (t.cs.map colQ) = .ok
  w1 : (D.str t.nm).wt < 1000000
  w2 : (D.tup (pairsD t.ids)).wt < 1000000
  l1 : t.ids.length ≤ 4
  l2 : t.cs.length ≤ 3
  l3 : ∀ c ∈ t.cs, c.ln.length ≤ 4
def linksOf (t : Tab) : List (Str × List (Str × Str)) := ("id", t.ids) :: t.cs.map fun c => (c.ti, c.ln)
def linkedD (t : Tab) : List D := (linksOf t).map fun p => .tup [.str p.1, .tup (pairsD p.2)]
/-- a reference's key, its action -/
def refT (t : Tab) : List (List Key × D) := (linksOf t).flatMap fun l => l.2.map fun p => (([.inr t.nm, .inr l.1, .inr p.1] : List Key), D.str p.2)
def refS (ts : List Tab) : List (List Key × D) := ts.flatMap refT
def actD (ts : List Tab) : D := .dt ((refS ts).map (·.1)) ((refS ts).map (·.2))
def firstDup : List Str → List Str → Option Str
  | _, [] => none
  | seen, n :: r => if n ∈ seen then some n else firstDup (seen ++ [n]) r
def tgts (t : Tab) : List Str := (linksOf t).flatMap fun l => l.2.map (·.1)
theorem OkT.links {t : Tab} (h : OkT t) : ∀ l ∈ linksOf t, l.2.length ≤ 4 := by
  intro l hl
  rcases List.mem_cons.mp hl with rfl | hl
  · exact h.l1
  · obtain ⟨c, hc, rfl⟩ := List.mem_map.mp hl
    exact h.l3 c hc
def lost (ts : List Tab) : Option Str := (ts.flatMap tgts).find? fun x => decide (x ∉ ts.map (·.nm))
inductive SOut where
  | ok | dup (n : Str) | lost (n : Str) | few | many
def schOut (ts : List Tab) : SOut := match firstDup [] (ts.map (·.nm)) with
  | some n => .dup n
  | none => match lost ts with
    | some n => .lost n
    | none => if 1 ≤ ts.length ∧ ts.length ≤ 5 then if 10 < (refS ts).length then .many else .ok else .few
def schNs : List Str := ["_tables", "_actions", "layout"]
def schD (CS C CC : Addr) (ts : List Tab) : D := .ins CS schNs [.tup (ts.map (tD C CC)), actD ts, .dk (ts.map fun t => .inr t.nm) (ts.map (tD C CC))]
theorem asD_comp {α : Type} (f : α → D) : ∀ l : List α, asD (l.map (Ar.dat ∘ f)) = some (l.map f)
  | [] => rfl
  | d :: ds => by
    have h := asD_comp f ds
    simp only [List.map_cons, Function.comp]
    show (asD (List.map (Ar.dat ∘ f) ds)).map (f d :: ·) = _
    rw [h]
    rfl
theorem getZ_mapk {β κ α : Type} [DecidableEq κ] {k : κ} {f : β → κ} {g : β → α} : ∀ {l : List β}, getZ k (l.map f) (l.map g) = (l.find? fun b => decide (f b = k)).map g
  | [] => rfl
  | b :: l => by
    simp only [List.map_cons, getZ, List.find?_cons]
    by_cases c : f b = k
    · simp [c]
    · simp [c, getZ_mapk]
theorem putD_dk {k : Key} {ks : List Key} {xs : List D} {d x : D} (h : keyD d = some k) (hl : ks.length < 100000) (hn : k ∉ ks) : putD (.dk ks xs) d x = some (.dk (ks ++ [k]) (xs ++ [x])) := by
  simp only [putD, h]
  rw [if_pos hl, if_neg fun z => hn (memZ_iff.mp z)]
theorem putD_dt {k : List Key} {ks : List (List Key)} {xs : List D} {ds : List D} {x : D} (h : keysD ds = some k) (hl : ks.length < 100000) (hn : k ∉ ks) : putD (.dt ks xs) (.tup ds) x = some (.dt (ks ++ [k]) (xs ++ [x])) := by
  simp only [putD, h]
  rw [if_pos hl, if_neg fun z => hn (memZ_iff.mp z)]
theorem lkT1 {a b c : D} : List.lookup (Str.ofString "name") [(Str.ofString "name", a), (Str.ofString "parts", b), (Str.ofString "links", c)] = some a := by rfl
theorem lkT2 {a b c : D} : List.lookup (Str.ofString "parts") [(Str.ofString "name", a), (Str.ofString "parts", b), (Str.ofString "links", c)] = some b := by rfl
theorem lkT3 {a b c : D} : List.lookup (Str.ofString "links") [(Str.ofString "name", a), (Str.ofString "parts", b), (Str.ofString "links", c)] = some c := by rfl
theorem lkC1 {a b c d : D} : List.lookup (Str.ofString "name") [(Str.ofString "name", a), (Str.ofString "links", b), (Str.ofString "nullable", c), (Str.ofString "default", d)] = some a := by rfl
theorem lkC2 {a b c d : D} : List.lookup (Str.ofString "links") [(Str.ofString "name", a), (Str.ofString "links", b), (Str.ofString "nullable", c), (Str.ofString "default", d)] = some b := by rfl
theorem lkC3 {a b c d : D} : List.lookup (Str.ofString "nullable") [(Str.ofString "name", a), (Str.ofString "links", b), (Str.ofString "nullable", c), (Str.ofString "default", d)] = some c := by rfl
theorem lkC4 {a b c d : D} : List.lookup (Str.ofString "default") [(Str.ofString "name", a), (Str.ofString "links", b), (Str.ofString "nullable", c), (Str.ofString "default", d)] = some d := by rfl
theorem lkS1 {a b c : D} : List.lookup (Str.ofString "_tables") [(Str.ofString "_tables", a), (Str.ofString "_actions", b), (Str.ofString "layout", c)] = some a := by rfl
theorem lkS2 {a b c : D} : List.lookup (Str.ofString "_actions") [(Str.ofString "_tables", a), (Str.ofString "_actions", b), (Str.ofString "layout", c)] = some b := by rfl
theorem lkS3 {a b c : D} : List.lookup (Str.ofString "layout") [(Str.ofString "_tables", a), (Str.ofString "_actions", b), (Str.ofString "layout", c)] = some c := by rfl
theorem refS_len {ts : List Tab} (h : ∀ t ∈ ts, OkT t) : (refS ts).length ≤ 16 * ts.length := by
  unfold refS
  induction ts with
  | nil => simp
  | cons t r ih =>
    have := ih fun x hx => h x (List.mem_cons_of_mem _ hx)
    have k := h t List.mem_cons_self
    have hl : ∀ ls : List (Str × List (Str × Str)), (∀ l ∈ ls, l.2.length ≤ 4) → (ls.flatMap fun l => l.2.map fun p => (([.inr t.nm, .inr l.1, .inr p.1] : List Key), D.str p.2)).length ≤ 4 * ls.length := by
      intro ls
      induction ls with
      | nil => intro _; simp
      | cons l ls ih =>
        intro hh
        have h1 := ih fun x hx => hh x (List.mem_cons_of_mem _ hx)
        have h2 := hh l List.mem_cons_self
        rw [List.flatMap_cons, List.length_append, List.length_map, List.length_cons]
        omega
    have h1 := hl (linksOf t) k.links
    have h2 : (linksOf t).length ≤ 4 := by have := k.l2; simp [linksOf]; omega
    rw [List.flatMap_cons, List.length_append, List.length_cons]
    have h3 : (refT t).length ≤ 4 * (linksOf t).length := h1
    omega
theorem OkT.names {t : Tab} (h : OkT t) : ((linksOf t).map (·.1)).Nodup := by
  have ho := h.out
  unfold tabOut at ho
  split at ho
  · cases ho
  · split at ho
    · cases ho
    · split at ho
      · cases ho
      · split at ho
        · cases ho
        · rename_i _ _ _ c
          have c : (List.map (fun q => strOf q.1) (t.cs.map colQ)).Nodup := by
            simp only [Bool.or_eq_true, Bool.not_eq_true', decide_eq_false_iff_not, decide_eq_true_iff, not_or, Decidable.not_not] at c
            exact c.1
          have e : (t.cs.map colQ).map (fun q => strOf q.1) = t.cs.map (·.ti) := by
            rw [List.map_map]
            exact List.map_congr_left fun c _ => rfl
          rw [e] at c
          have e2 : (linksOf t).map (·.1) = (Str.ofString "id") :: t.cs.map (·.ti) := by simp [linksOf, Function.comp_def]
          rw [e2, List.nodup_cons]
          refine ⟨fun hm => ?_, c⟩
          obtain ⟨x, hx, ex⟩ := List.mem_map.mp hm
          obtain ⟨s, ls, nb, df, e3, _, e4⟩ := h.cols x hx
          unfold colQ at e3
          injection e3 with e5 _
          injection e5 with e5
          rw [← e5, ex] at e4
          unfold colOut at e4
          split at e4
          · cases e4
          · rename_i c9
            simp [D.isStr] at c9
theorem find_nd {α β : Type} [DecidableEq α] {p : α × β} : ∀ {l : List (α × β)}, (l.map (·.1)).Nodup → p ∈ l → l.find? (fun b => decide (b.1 = p.1)) = some p
  | b :: l, hn, hm => by
    rw [List.map_cons, List.nodup_cons] at hn
    rw [List.find?_cons]
    rcases List.mem_cons.mp hm with e | hm
    · subst e
      simp
    · have ne : b.1 ≠ p.1 := fun e => hn.1 (e ▸ List.mem_map_of_mem hm)
      simp only [ne, decide_false]
      exact find_nd hn.2 hm
def linkDict (t : Tab) : D := .dk ((linksOf t).map fun l => .inr l.1) ((linksOf t).map fun l => .tup (pairsD l.2))
theorem linkDict_get {t : Tab} (h : OkT t) {l : Str × List (Str × Str)} (hl : l ∈ linksOf t) : getD' (linkDict t) (.str l.1) = some (some (.tup (pairsD l.2))) := by
  unfold linkDict getD'
  simp only [keyD]
  rw [getZ_mapk (f := fun l : Str × List (Str × Str) => (Sum.inr l.1 : Key)) (g := fun l => D.tup (pairsD l.2))]
  have : (fun b : Str × List (Str × Str) => decide ((Sum.inr b.1 : Key) = Sum.inr l.1)) = fun b => decide (b.1 = l.1) := by
    funext b
    simp
  rw [this, find_nd h.names hl]
  rfl
theorem goD_run {α : Type} {c : Dcl} {rest : Drs} {sv : Sv} {Q : D → Sv → Prop} (f : α → D) (St : List α → D → Prop) : ∀ {as : List α} {dd : D}, St as dd →
    (∀ a r dd, St (a :: r) dd → ∀ (N : D → Sv → Prop), (∀ dd', St r dd' → N dd' sv) → c.dg (f a) sv fun sv1 => c.dt sv1 (fun b sv2 => if b = true then rest sv2 dd fun dd' sv3 => N dd' (unAt sv3 c.vs) else N dd (unAt sv2 c.vs)) fun _ _ => False) →
    (∀ dd, St [] dd → Q dd sv) → goD c rest (as.map f) sv dd Q
  | [], dd, h, _, k => k dd h
  | a :: r, dd, h, hs, k => hs a r dd h (fun dd' sv' => goD c rest (r.map f) sv' dd' Q) fun dd' h' => goD_run f St h' hs k
abbrev s_linked : Stmt := top 31
abbrev N_linked : List Str := ["table", "column"]
theorem sc_linked : FnScope N_linked ["table"] (defScope s_linked) := ⟨rfl, rfl, rfl, by decide +kernel, rfl, by decide +kernel, by decide +kernel⟩
def ct_linked (cc_Table cc_Column : Addr) : Ct := Ct.ex 0 (fun t : Tab => [some (tD cc_Table cc_Column t)]) (fun t => t.cs.length ≤ 1000) (fun t z => z = .lst (linkedD t)) (fun _ _ => False)
theorem ok_linked {P : Program} {w : World} {K : PySem.W.Frag} {mg : Str → Option Value} {base : Heap} {f : Addr} {fd : FuncData} {cc_Column cc_Table : Addr} (F : FunD K "linked" "linked" (defArgs s_linked) (defBody s_linked) (defScope s_linked) [] [] f fd) (T_Table : ClsD K cc_Table tabNs) (T_Column : ClsD K cc_Column colNs) : Fd P w K mg base 1 f fd ["table"] (spC K 1 (ct_linked cc_Table cc_Column)) := by
  have nd := sc_linked.nd
  refine fd_body (N := N_linked) (ct := ct_linked cc_Table cc_Column) F sc_linked (fun cdv A outer s H E hr hG tk pw => have hu := Room.units hr; have hv := room_u hr; (pdss_one (pds_ret (pd_L (pdl_lst (pda_cons (pd_tup (pda_cons pd_str (pda_cons (dfld K (dv 0)) pda_nil))) (pda_star (pd_L (pdl_lc (own := [("column", 1)]) rfl nd (blkOk_by (by kernel_rfl)) (pdi_any (dfld K (dv 0))) (fun i => (pdgw_name (i := 1) nd rfl (by first | exact .inl rfl | exact .inr rfl) (by decide))) (fun i => pdts_nil) (fun i => (pd_tup (pda_cons (dfld K (dv 1)) (pda_cons (dfld K (dv 1)) pda_nil)))))) pda_nil))))))) ?_
  rintro as Q E hl ⟨t, rfl, hw, q, -⟩
  have q := q _ rfl
  have o2 := T_Table.ok "parts" (by simp [tabNs])
  have o3 := T_Table.ok "links" (by simp [tabNs])
  have c1 := T_Column.ok "name" (by simp [colNs])
  have c2 := T_Column.ok "links" (by simp [colNs])
  simp [-Bool.exists_bool, tD, tabD, tabT, tabNs, o2, o3, lkT2, lkT3]
  refine goLc_mapl _ (fun c : Col => .tup [.str c.ti, .tup (pairsD c.ln)]) (by simp; omega) (fun c hc T N hT => by simp [-Bool.exists_bool, colD, colNs, colQ, c1, c2, lkC1, lkC2]; exact hT) ?_
  simp [-Bool.exists_bool]
  exact ⟨_, ⟨_, asD_comp _ _, rfl⟩, by simp; omega, by simpa [linkedD, linksOf, Function.comp_def] using q⟩

theorem fg_linked {P : Program} {w : World} {K : PySem.W.Frag} {mg : Str → Option Value} {base : Heap} {f : Addr} {fd : FuncData} {cc_Column cc_Table : Addr} (F : FunD K "linked" "linked" (defArgs s_linked) (defBody s_linked) (defScope s_linked) [] [] f fd) (hm : mg "linked" = some (.ref f)) (T_Table : ClsD K cc_Table tabNs) (T_Column : ClsD K cc_Column colNs) : FnG P w K mg base 1 "linked" 1 (ct_linked cc_Table cc_Column) :=
  fnG_of F sc_linked hm (ok_linked F T_Table T_Column) (F.bindsN fun _ _ _ _ _ _ us hl => match us, hl with | [_], _ => rfl) Ct.ex_mono
abbrev s_check_names : Stmt := top 35
abbrev N_check_names : List Str := ["tables", "seen", "table"]
theorem sc_check_names : FnScope N_check_names ["tables"] (defScope s_check_names) := ⟨rfl, rfl, rfl, by decide +kernel, rfl, by decide +kernel, by decide +kernel⟩
def ct_check_names (cc_Table cc_Column c_BadTable : Addr) : Ct := Ct.ex 0 (fun ts : List Tab => [some (.tup (ts.map (tD cc_Table cc_Column)))]) (fun ts => ts.length ≤ 1000) (fun ts z => firstDup [] (ts.map (·.nm)) = none ∧ z = .non) (fun ts x => ∃ n, firstDup [] (ts.map (·.nm)) = some n ∧ x = ⟨c_BadTable, ["name"], [.str n]⟩)
theorem ok_check_names {P : Program} {w : World} {K : PySem.W.Frag} {mg : Str → Option Value} {base : Heap} {f : Addr} {fd : FuncData} {c_BadTable cc_Column cc_Table : Addr} (F : FunD K "check_names" "check_names" (defArgs s_check_names) (defBody s_check_names) (defScope s_check_names) [] [] f fd) (E_BadTable : ExG P w K mg base 1 "BadTable" c_BadTable ["name"]) (T_Table : ClsD K cc_Table tabNs) : Fd P w K mg base 3 f fd ["tables"] (spC K 1 (ct_check_names cc_Table cc_Column c_BadTable)) := by
  have nd := sc_check_names.nd
  refine fd_body (N := N_check_names) (ct := ct_check_names cc_Table cc_Column c_BadTable) F sc_check_names (fun cdv A outer s H E hr hG tk pw => have hu := Room.units hr; have hv := room_u hr; (pdss_cons (pds_setN (i := 1) nd rfl (by first | exact .inl rfl | exact .inr rfl) pdn_newK)
    (pdss_one (pds_for pw rfl (pdi_any (dv 0)) (pdg_name (i := 2) nd rfl (by first | exact .inl rfl | exact .inr rfl)) (pdss_cons (pds_if (pdt_dinV (i := 1) (hu_1 hu) rfl (by first | exact .inl rfl | exact .inr (.inl rfl) | exact .inr (.inr rfl)) (dfld K (dv 2))) (pdss_one (draise E_BadTable hr (by decide) tk (pda_cons (dfld K (dv 2)) pda_nil))) pdss_nil)
    (pdss_one (pds_putV (i := 1) (hu_1 hu) rfl (by first | exact .inl rfl | exact .inr (.inl rfl) | exact .inr (.inr rfl)) (dfld K (dv 2)) pd_bl))))))) ?_
  rintro as Q E hl ⟨ts, rfl, hw, q, qe⟩
  have o1 := T_Table.ok "name" (by simp [tabNs])
  dsimp only at q qe
  simp [-Bool.exists_bool]
  rw [show List.map (tD cc_Table cc_Column) ts = ts.map (tD cc_Table cc_Column) from rfl]
  refine loopD_inv (fun ds sv => ∃ (seen : List Str) (r : List Tab) (s : Sl), ds = r.map (tD cc_Table cc_Column) ∧ sv = [.dat (.tup (ts.map (tD cc_Table cc_Column))), .dct (.dk (seen.map Sum.inr) (seen.map fun _ => .bl true)), s] ∧ seen.length + r.length ≤ 1000 ∧ firstDup [] (ts.map (·.nm)) = firstDup seen (r.map (·.nm))) ⟨[], ts, .un, rfl, rfl, by simpa using hw, rfl⟩ ?_ ?_
  · rintro sv ⟨seen, r, s, e, rfl, _, e2⟩
    obtain rfl : r = [] := by simpa using e.symm
    simpa [firstDup, e2] using q
  · rintro d r0 sv ⟨seen, r, s, e, rfl, hl, e2⟩ nx hnx
    match r, e, hl, e2 with
    | t :: r, e, hl, e2 =>
      simp only [List.map_cons, List.cons.injEq] at e
      obtain ⟨rfl, rfl⟩ := e
      simp [-Bool.exists_bool, tD, tabD, tabT, tabNs, o1, lkT1, getD', keyD]
      rw [getZ_mapk (f := fun s : Str => (Sum.inr s : Key)) (g := fun _ => D.bl true)]
      by_cases c : t.nm ∈ seen
      · rw [if_pos (by simpa using c)]
        refine qe _ ⟨t.nm, ?_, rfl⟩
        rw [e2]
        simp [firstDup, c]
      · rw [if_neg (by simpa using c)]
        have c' : (Sum.inr t.nm : Key) ∉ seen.map Sum.inr := by simpa using c
        refine ⟨_, putD_dk (k := .inr t.nm) rfl (by simp only [List.length_cons] at hl; simp; omega) c', hnx _ ⟨seen ++ [t.nm], r, .dat (tD cc_Table cc_Column t), rfl, by simp [tD, tabD, tabT, tabNs], by simp only [List.length_cons] at hl; simp; omega, by rw [e2]; simp [firstDup, c]⟩⟩

theorem fg_check_names {P : Program} {w : World} {K : PySem.W.Frag} {mg : Str → Option Value} {base : Heap} {f : Addr} {fd : FuncData} {c_BadTable cc_Column cc_Table : Addr} (F : FunD K "check_names" "check_names" (defArgs s_check_names) (defBody s_check_names) (defScope s_check_names) [] [] f fd) (hm : mg "check_names" = some (.ref f)) (E_BadTable : ExG P w K mg base 1 "BadTable" c_BadTable ["name"]) (T_Table : ClsD K cc_Table tabNs) : FnG P w K mg base 3 "check_names" 1 (ct_check_names cc_Table cc_Column c_BadTable) :=
  fnG_of F sc_check_names hm (ok_check_names F E_BadTable T_Table) (F.bindsN fun _ _ _ _ _ _ us hl => match us, hl with | [_], _ => rfl) Ct.ex_mono
abbrev s_check_targets : Stmt := top 36
abbrev N_check_targets : List Str := ["tables", "names", "table", "_", "links", "target"]
theorem sc_check_targets : FnScope N_check_targets ["tables"] (defScope s_check_targets) := ⟨rfl, rfl, rfl, by decide +kernel, rfl, by decide +kernel, by decide +kernel⟩
def ct_check_targets (cc_Table cc_Column c_NoTable : Addr) : Ct := Ct.ex 0 (fun ts : List Tab => [some (.tup (ts.map (tD cc_Table cc_Column)))]) (fun ts => ts.length ≤ 1000 ∧ ∀ t ∈ ts, OkT t) (fun ts z => lost ts = none ∧ z = .non) (fun ts x => ∃ n, lost ts = some n ∧ x = ⟨c_NoTable, ["table"], [.str n]⟩)
theorem ok_check_targets {P : Program} {w : World} {K : PySem.W.Frag} {mg : Str → Option Value} {base : Heap} {f : Addr} {fd : FuncData} {c_NoTable cc_Column cc_Table : Addr} (F : FunD K "check_targets" "check_targets" (defArgs s_check_targets) (defBody s_check_targets) (defScope s_check_targets) [] [] f fd) (F_linked : FnG P w K mg base 1 "linked" 1 (ct_linked cc_Table cc_Column)) (F_targets_of : FnG P w K mg base 1 "targets_of" 1 (ct_targets_of )) (E_NoTable : ExG P w K mg base 1 "NoTable" c_NoTable ["table"]) (T_Table : ClsD K cc_Table tabNs) : Fd P w K mg base 3 f fd ["tables"] (spC K 1 (ct_check_targets cc_Table cc_Column c_NoTable)) := by
  have nd := sc_check_targets.nd
  refine fd_body (N := N_check_targets) (ct := ct_check_targets cc_Table cc_Column c_NoTable) F sc_check_targets (fun cdv A outer s H E hr hG tk pw => have hu := Room.units hr; have hv := room_u hr; (pdss_cons (pds_setLc (i := 1) (own := [("table", 2)]) rfl nd rfl rfl (sw_true rfl rfl rfl rfl) (blkOk_by (by kernel_rfl)) (pdi_any (dv 0)) (fun i => (pdgw_name (i := 2) nd rfl (by first | exact .inl rfl | exact .inr rfl) (by decide))) (fun i => pdts_nil) (fun i => (dfld K (dv 2))))
    (pdss_one (pds_for pw rfl (pdi_any (dv 0)) (pdg_name (i := 2) nd rfl (by first | exact .inl rfl | exact .inr rfl)) (pdss_one (pds_for pw rfl (pdi_any (dcall F_linked hr (by decide) hG tk (av 2 pda_nil))) (pdg_tup (n := 2) rfl (pdgs_cons (pdg_name (i := 3) nd rfl (by first | exact .inl rfl | exact .inr rfl)) (pdgs_cons (pdg_name (i := 4) nd rfl (by first | exact .inl rfl | exact .inr rfl)) pdgs_nil))) (pdss_one (pds_for pw rfl (pdi_any (dcall F_targets_of hr (by decide) hG tk (av 4 pda_nil))) (pdg_name (i := 5) nd rfl (by first | exact .inl rfl | exact .inr rfl)) (pdss_one (pds_if (pdt_cmp (op_notInA hv) snd_notIn (dv 5) (dv 1)) (pdss_one (draise E_NoTable hr (by decide) tk (av 5 pda_nil))) pdss_nil)))))))))) ?_
  rintro as Q E hl ⟨ts, rfl, ⟨hw, hk⟩, q, qe⟩
  have o1 := T_Table.ok "name" (by simp [tabNs])
  dsimp only at q qe hw hk
  simp [-Bool.exists_bool]
  refine goLc_mapl (tD cc_Table cc_Column) (fun t : Tab => .str t.nm) (by simp; omega) (fun t ht T N hT => by simp [-Bool.exists_bool, tD, tabD, tabT, tabNs, o1, lkT1]; exact hT) ?_
  have hin : ∀ x : Str, (∃ y, y ∈ (ts.map fun t : Tab => t.nm).map PyData.str ∧ y.eqv (PyData.str x) = true) ↔ x ∈ ts.map fun t : Tab => t.nm := fun x => by
    constructor
    · rintro ⟨y, hy, e⟩
      obtain ⟨a, ha, rfl⟩ := List.mem_map.mp hy
      rw [eqvSS] at e
      rw [← beq_iff_eq.mp e]
      exact ha
    · exact fun h => ⟨_, List.mem_map.mpr ⟨x, h, rfl⟩, by rw [eqvSS]; exact beq_self_eq_true x⟩
  have hpy : D.pyL (ts.map fun t : Tab => D.str t.nm) = some ((ts.map fun t : Tab => t.nm).map PyData.str) := by
    have := pyL_strs (ts.map fun t : Tab => t.nm)
    rw [List.map_map] at this
    exact this
  simp [-Bool.exists_bool]
  let p : Str → Bool := fun x => decide (x ∉ ts.map (·.nm))
  let S1 : Sl → Prop := fun s => s = .own (ts.map fun t => D.str t.nm) ∨ s = .dat (.lst (ts.map fun t => D.str t.nm))
  refine loopD_inv (fun ds sv => ∃ (r : List Tab) (s1 s2 s3 s4 s5 : Sl), ds = r.map (tD cc_Table cc_Column) ∧ S1 s1 ∧ sv = [.dat (.tup (ts.map (tD cc_Table cc_Column))), s1, s2, s3, s4, s5] ∧ (∀ t ∈ r, OkT t) ∧ lost ts = (r.flatMap tgts).find? p) ⟨ts, _, _, _, _, _, rfl, .inl rfl, rfl, hk, rfl⟩ ?_ ?_
  · rintro sv ⟨r, s1, s2, s3, s4, s5, e, _, rfl, _, e2⟩
    obtain rfl : r = [] := by simpa using e.symm
    exact q _ ⟨by simpa using e2, rfl⟩
  rintro d r0 sv ⟨r, s1, s2, s3, s4, s5, e, h1, rfl, hr, e2⟩ nx hnx
  match r, e, hr, e2 with
  | t :: r, e, hr, e2 =>
  simp only [List.map_cons, List.cons.injEq] at e
  obtain ⟨rfl, rfl⟩ := e
  have ht := hr t List.mem_cons_self
  have hr' : ∀ t ∈ r, OkT t := fun x hx => hr x (List.mem_cons_of_mem _ hx)
  simp [-Bool.exists_bool]
  refine .inl (Ct.exI t rfl (by have := ht.l2; omega) (fun z hz => ?_) fun _ h => h.elim)
  subst hz
  refine ⟨_, rfl, ?_⟩
  refine loopD_inv (fun ds sv => ∃ (ls : List (Str × List (Str × Str))) (s1 s2 s3 s4 s5 : Sl), ds = ls.map (fun p => .tup [.str p.1, .tup (pairsD p.2)]) ∧ S1 s1 ∧ sv = [.dat (.tup (ts.map (tD cc_Table cc_Column))), s1, s2, s3, s4, s5] ∧ (∀ l ∈ ls, l.2.length ≤ 4) ∧ lost ts = ((ls.flatMap fun l => l.2.map (·.1)) ++ r.flatMap tgts).find? p) ⟨linksOf t, _, _, _, _, _, rfl, h1, rfl, ht.links, by rw [e2, List.flatMap_cons]; rfl⟩ ?_ ?_
  · rintro sv ⟨ls, s1, s2, s3, s4, s5, e, h1, rfl, _, e2⟩
    obtain rfl : ls = [] := by simpa using e.symm
    exact hnx _ ⟨r, _, _, _, _, _, rfl, h1, rfl, hr', by simpa using e2⟩
  rintro d r0 sv ⟨ls, s1, s2, s3, s4, s5, e, h1, rfl, hls, e2⟩ nx2 hnx2
  match ls, e, hls, e2 with
  | l :: ls, e, hls, e2 =>
  simp only [List.map_cons, List.cons.injEq] at e
  obtain ⟨rfl, rfl⟩ := e
  have hl4 := hls l List.mem_cons_self
  have hls' : ∀ l ∈ ls, l.2.length ≤ 4 := fun x hx => hls x (List.mem_cons_of_mem _ hx)
  simp [-Bool.exists_bool]
  refine ⟨_, _, ⟨rfl, rfl⟩, _, _, rfl, rfl, .inl (Ct.exI (l.2.map fun p => (.str p.1, .str p.2)) (by simp [pairsD]) (by simp; omega) (fun z hz => ?_) fun _ h => h.elim)⟩
  subst hz
  refine ⟨_, rfl, ?_⟩
  refine loopD_inv (fun ds sv => ∃ (xs : List Str) (s1 s2 s3 s4 s5 : Sl), ds = xs.map .str ∧ S1 s1 ∧ sv = [.dat (.tup (ts.map (tD cc_Table cc_Column))), s1, s2, s3, s4, s5] ∧ lost ts = (xs ++ ((ls.flatMap fun l => l.2.map (·.1)) ++ r.flatMap tgts)).find? p) ⟨l.2.map (·.1), _, _, _, _, _, by simp, h1, rfl, by rw [e2, List.flatMap_cons, List.append_assoc]⟩ ?_ ?_
  · rintro sv ⟨xs, s1, s2, s3, s4, s5, e, h1, rfl, e2⟩
    obtain rfl : xs = [] := by simpa using e.symm
    exact hnx2 _ ⟨ls, _, _, _, _, _, rfl, h1, rfl, hls', by simpa using e2⟩
  rintro d r0 sv ⟨xs, s1, s2, s3, s4, s5, e, h1, rfl, e2⟩ nx3 hnx3
  match xs, e, e2 with
  | x :: xs, e, e2 =>
  simp only [List.map_cons, List.cons.injEq] at e
  obtain ⟨rfl, rfl⟩ := e
  have go : if x ∈ ts.map (·.nm) then nx3 [.dat (.tup (ts.map (tD cc_Table cc_Column))), .dat (.lst (ts.map fun t => D.str t.nm)), s2, s3, s4, .dat (.str x)] else E ⟨c_NoTable, ["table"], [.str x]⟩ := by
    by_cases c : x ∈ ts.map (·.nm)
    · rw [if_pos c]
      refine hnx3 _ ⟨xs, _, _, _, _, _, rfl, .inr rfl, rfl, ?_⟩
      rw [e2, List.cons_append, List.find?_cons]
      have : p x = false := by simpa [p] using c
      rw [this]
    · rw [if_neg c]
      refine qe _ ⟨x, ?_, rfl⟩
      rw [e2, List.cons_append, List.find?_cons]
      have : p x = true := by simpa [p] using c
      rw [this]
  have hany : (((ts.map fun t : Tab => t.nm).map PyData.str).any fun z => z.eqv (PyData.str x)) = decide (x ∈ ts.map fun t : Tab => t.nm) := by
    rw [Bool.eq_iff_iff, List.any_eq_true, decide_eq_true_iff]
    exact hin x
  have fin : ∃ b, (((ts.map fun t : Tab => t.nm).map PyData.str).any fun z => z.eqv (PyData.str x)) = !b ∧ if b = true then E ⟨c_NoTable, ["table"], [.str x]⟩ else nx3 [.dat (.tup (ts.map (tD cc_Table cc_Column))), .dat (.lst (ts.map fun t => D.str t.nm)), s2, s3, s4, .dat (.str x)] := by
    refine ⟨!decide (x ∈ ts.map fun t : Tab => t.nm), by rw [hany, Bool.not_not], ?_⟩
    by_cases c : x ∈ ts.map fun t : Tab => t.nm
    · rw [if_neg (by simpa using c)]
      rw [if_pos c] at go
      exact go
    · rw [if_pos (by simpa using c)]
      rw [if_neg c] at go
      exact go
  rcases h1 with rfl | rfl
  · simp [-Bool.exists_bool, -List.mem_map]
    exact ⟨_, hpy, fin⟩
  · simp [-Bool.exists_bool, -List.mem_map]
    exact ⟨_, hpy, fin⟩

theorem fg_check_targets {P : Program} {w : World} {K : PySem.W.Frag} {mg : Str → Option Value} {base : Heap} {f : Addr} {fd : FuncData} {c_NoTable cc_Column cc_Table : Addr} (F : FunD K "check_targets" "check_targets" (defArgs s_check_targets) (defBody s_check_targets) (defScope s_check_targets) [] [] f fd) (hm : mg "check_targets" = some (.ref f)) (F_linked : FnG P w K mg base 1 "linked" 1 (ct_linked cc_Table cc_Column)) (F_targets_of : FnG P w K mg base 1 "targets_of" 1 (ct_targets_of )) (E_NoTable : ExG P w K mg base 1 "NoTable" c_NoTable ["table"]) (T_Table : ClsD K cc_Table tabNs) : FnG P w K mg base 3 "check_targets" 1 (ct_check_targets cc_Table cc_Column c_NoTable) :=
  fnG_of F sc_check_targets hm (ok_check_targets F F_linked F_targets_of E_NoTable T_Table) (F.bindsN fun _ _ _ _ _ _ us hl => match us, hl with | [_], _ => rfl) Ct.ex_mono
abbrev s_actions_of : Stmt := top 34
abbrev N_actions_of : List Str := ["tables", "table", "name", "links", "target", "action"]
theorem sc_actions_of : FnScope N_actions_of ["tables"] (defScope s_actions_of) := ⟨rfl, rfl, rfl, by decide +kernel, rfl, by decide +kernel, by decide +kernel⟩
def ct_actions_of (cc_Table cc_Column : Addr) : Ct := Ct.ex 0 (fun ts : List Tab => [some (.tup (ts.map (tD cc_Table cc_Column)))]) (fun ts => ts.length ≤ 1000 ∧ (∀ t ∈ ts, OkT t) ∧ ((refS ts).map (·.1)).Nodup) (fun ts z => z = actD ts) (fun _ _ => False)
theorem ok_actions_of {P : Program} {w : World} {K : PySem.W.Frag} {mg : Str → Option Value} {base : Heap} {f : Addr} {fd : FuncData} {cc_Column cc_Table : Addr} (F : FunD K "actions_of" "actions_of" (defArgs s_actions_of) (defBody s_actions_of) (defScope s_actions_of) [] [] f fd) (F_linked : FnG P w K mg base 1 "linked" 1 (ct_linked cc_Table cc_Column)) (T_Table : ClsD K cc_Table tabNs) : Fd P w K mg base 2 f fd ["tables"] (spC K 1 (ct_actions_of cc_Table cc_Column)) := by
  have nd := sc_actions_of.nd
  refine fd_body (N := N_actions_of) (ct := ct_actions_of cc_Table cc_Column) F sc_actions_of (fun cdv A outer s H E hr hG tk pw => have hu := Room.units hr; have hv := room_u hr; (pdss_one (pds_ret (pd_N (pdn_dc (own := [("table", 1), ("name", 2), ("links", 3), ("target", 4), ("action", 5)]) (.dt [] []) (.inr rfl) rfl (hu_1 hu) nd (blkOk_by (by kernel_rfl)) (pdi_any (dv 0)) (fun i => (pdgw_name (i := 1) nd rfl (by first | exact .inl rfl | exact .inr rfl) (by decide))) (fun i => pdts_nil) (.cons (vs := [2, 3, 4, 5]) (fun i => (pdi_any (dcall F_linked hr (by decide) hG takes_no (av 1 pda_nil)))) (fun i => (pdgw_tup (n := 2) rfl (pdgsw_cons (pdgw_name (i := 2) nd rfl (by first | exact .inl rfl | exact .inr rfl) (by decide)) (pdgsw_cons (pdgw_name (i := 3) nd rfl (by first | exact .inl rfl | exact .inr rfl) (by decide)) pdgsw_nil)))) (fun i => pdts_nil) (fun _ _ => rfl) (by first | decide | simp [dvs]) (.cons (vs := [4, 5]) (fun i => (pdi_any (dv 3))) (fun i => (pdgw_tup (n := 2) rfl (pdgsw_cons (pdgw_name (i := 4) nd rfl (by first | exact .inl rfl | exact .inr rfl) (by decide)) (pdgsw_cons (pdgw_name (i := 5) nd rfl (by first | exact .inl rfl | exact .inr rfl) (by decide)) pdgsw_nil)))) (fun i => pdts_nil) (fun _ _ => rfl) (by first | decide | simp [dvs]) .nil)) (by first | decide | simp [dvs]) (fun i => (pd_tup (pda_cons (dfld K (dv 1)) (av 2 (av 4 pda_nil))))) (fun i => (dv 5))))))) ?_
  rintro as Q E hl ⟨ts, rfl, ⟨hw, hk, hnd⟩, q, -⟩
  have o1 := T_Table.ok "name" (by simp [tabNs])
  have q := q _ rfl
  have hlen : (refS ts).length ≤ 16 * ts.length := refS_len hk
  have key : ∀ {done rest : List (List Key × D)} {k : List Key} {x : D} {ds : List D}, refS ts = done ++ (k, x) :: rest → keysD ds = some k → putD (.dt (done.map (·.1)) (done.map (·.2))) (.tup ds) x = some (.dt ((done ++ [(k, x)]).map (·.1)) ((done ++ [(k, x)]).map (·.2))) := fun {done rest k x ds} e h => by
    have hl2 := congrArg List.length e
    simp only [List.length_append, List.length_cons] at hl2
    rw [e, List.map_append, List.map_cons] at hnd
    rw [putD_dt h (by simp; omega) fun hm => ?_]
    · simp
    · exact (List.nodup_append.mp hnd).2.2 _ hm _ List.mem_cons_self rfl
  simp [-Bool.exists_bool, dDcs]
  refine goD_run (tD cc_Table cc_Column) (fun r dd => (∀ t ∈ r, OkT t) ∧ ∃ done, refS ts = done ++ r.flatMap refT ∧ dd = .dt (done.map (·.1)) (done.map (·.2))) ⟨hk, [], rfl, rfl⟩ ?_ ?_
  rotate_left
  · rintro dd ⟨_, done, e, rfl⟩
    rw [List.flatMap_nil, List.append_nil] at e
    rw [← e]
    exact q
  rintro t r dd ⟨hr, done, e, rfl⟩ N hN
  have ht := hr t List.mem_cons_self
  have hr' : ∀ t ∈ r, OkT t := fun x hx => hr x (List.mem_cons_of_mem _ hx)
  simp [-Bool.exists_bool, clD]
  refine .inl (Ct.exI t rfl (by have := ht.l2; omega) (fun z hz => ?_) fun _ h => h.elim)
  subst hz
  refine ⟨_, rfl, ?_⟩
  refine goD_run (fun p : Str × List (Str × Str) => .tup [.str p.1, .tup (pairsD p.2)]) (fun ls dd => ∃ done, refS ts = done ++ ((ls.flatMap fun l => l.2.map fun p => (([.inr t.nm, .inr l.1, .inr p.1] : List Key), D.str p.2)) ++ r.flatMap refT) ∧ dd = .dt (done.map (·.1)) (done.map (·.2))) ⟨done, e, rfl⟩ ?_ ?_
  rotate_left
  · rintro dd ⟨done, e, rfl⟩
    simp [-Bool.exists_bool]
    refine hN _ ⟨hr', done, by simpa using e, rfl⟩
  rintro l ls dd ⟨done, e, rfl⟩ N2 hN2
  simp [-Bool.exists_bool, clD]
  refine ⟨_, _, ⟨rfl, rfl⟩, _, _, rfl, rfl, .inr (.inl ⟨_, .inl rfl, ?_⟩)⟩
  refine goD_run (fun p : Str × Str => .tup [.str p.1, .str p.2]) (fun ps dd => ∃ done, refS ts = done ++ ((ps.map fun p => (([.inr t.nm, .inr l.1, .inr p.1] : List Key), D.str p.2)) ++ ((ls.flatMap fun l => l.2.map fun p => (([.inr t.nm, .inr l.1, .inr p.1] : List Key), D.str p.2)) ++ r.flatMap refT)) ∧ dd = .dt (done.map (·.1)) (done.map (·.2))) ⟨done, by rw [e, List.flatMap_cons, List.append_assoc], rfl⟩ ?_ ?_
  rotate_left
  · rintro dd ⟨done, e, rfl⟩
    simp [-Bool.exists_bool]
    exact hN2 _ ⟨done, by simpa using e, rfl⟩
  rintro p ps dd ⟨done, e, rfl⟩ N3 hN3
  have hN3' := hN3 _ ⟨done ++ [(([.inr t.nm, .inr l.1, .inr p.1] : List Key), D.str p.2)], by rw [e]; simp, rfl⟩
  have kp := key (ds := [.str t.nm, .str l.1, .str p.1]) e rfl
  simp [-Bool.exists_bool, clD, sinkD, tD, tabD, tabT, tabNs, o1, lkT1]
  simp [tD, tabD, tabT, tabNs] at hN3' kp
  exact ⟨_, _, ⟨rfl, rfl⟩, _, _, rfl, rfl, _, kp, hN3'⟩

theorem fg_actions_of {P : Program} {w : World} {K : PySem.W.Frag} {mg : Str → Option Value} {base : Heap} {f : Addr} {fd : FuncData} {cc_Column cc_Table : Addr} (F : FunD K "actions_of" "actions_of" (defArgs s_actions_of) (defBody s_actions_of) (defScope s_actions_of) [] [] f fd) (hm : mg "actions_of" = some (.ref f)) (F_linked : FnG P w K mg base 1 "linked" 1 (ct_linked cc_Table cc_Column)) (T_Table : ClsD K cc_Table tabNs) : FnG P w K mg base 2 "actions_of" 1 (ct_actions_of cc_Table cc_Column) :=
  fnG_of F sc_actions_of hm (ok_actions_of F F_linked T_Table) (F.bindsN fun _ _ _ _ _ _ us hl => match us, hl with | [_], _ => rfl) Ct.ex_mono
end K3
end
section
set_option autoImplicit true
set_option Elab.async false
set_option linter.all false
set_option maxRecDepth 100000
set_option maxHeartbeats 4000000
namespace K3
open PySem PySem.Spec PyProof.Rows L2 Pd
open Pg Pf
abbrev s_with_actions : Stmt := top 33
abbrev N_with_actions : List Str := ["table", "actions", "links", "name", "old", "target", "columns", "column", "ids"]
theorem sc_with_actions : FnScope N_with_actions ["table", "actions"] (defScope s_with_actions) := ⟨rfl, rfl, rfl, by decide +kernel, rfl, by decide +kernel, by decide +kernel⟩
def ct_with_actions (cc_Table cc_Column : Addr) : Ct := Ct.ex 0 (fun t : Tab × List (List Key) × List D => [some (tD cc_Table cc_Column t.1), some (.dt t.2.1 t.2.2)]) (fun t => OkT t.1 ∧ ∀ r ∈ refT t.1, getZ r.1 t.2.1 t.2.2 = some r.2) (fun t z => z = tD cc_Table cc_Column t.1) (fun _ _ => False)
theorem ok_with_actions {P : Program} {w : World} {K : PySem.W.Frag} {mg : Str → Option Value} {base : Heap} {f : Addr} {fd : FuncData} {c_BadAction c_BadName c_BadTable cc_Column cc_Table : Addr} (F : FunD K "with_actions" "with_actions" (defArgs s_with_actions) (defBody s_with_actions) (defScope s_with_actions) [] [] f fd) (F_linked : FnG P w K mg base 1 "linked" 1 (ct_linked cc_Table cc_Column)) (F_targets_of : FnG P w K mg base 1 "targets_of" 1 (ct_targets_of )) (F_with_links : FnG P w K mg base 6 "with_links" 2 (ct_with_links cc_Column)) (m_tuple : mg "tuple" = none) (C_Table_ids : CnG P w K mg base 7 "Table" cc_Table ["ids"] 1 3 tabNs gV1 gD1 (ciTab cc_Column c_BadName c_BadTable c_BadAction)) (T_Table : ClsD K cc_Table tabNs) (T_Column : ClsD K cc_Column colNs) : Fd P w K mg base 9 f fd ["table", "actions"] (spC K 2 (ct_with_actions cc_Table cc_Column)) := by
  have nd := sc_with_actions.nd
  refine fd_body (N := N_with_actions) (ct := ct_with_actions cc_Table cc_Column) F sc_with_actions (fun cdv A outer s H E hr hG tk pw => have hu := Room.units hr; have hv := room_u hr; (pdss_cons (pds_set (i := 2) nd rfl (by first | exact .inl rfl | exact .inr rfl) (pd_N (pdn_dc (own := [("name", 3), ("old", 4)]) (.dk [] []) (.inl rfl) rfl (hu_1 hu) nd (blkOk_by (by kernel_rfl)) (pdi_any (dcall F_linked hr (by decide) hG tk (av 0 pda_nil))) (fun i => (pdgw_tup (n := 2) rfl (pdgsw_cons (pdgw_name (i := 3) nd rfl (by first | exact .inl rfl | exact .inr rfl) (by decide)) (pdgsw_cons (pdgw_name (i := 4) nd rfl (by first | exact .inl rfl | exact .inr rfl) (by decide)) pdgsw_nil)))) (fun i => pdts_nil) .nil (by first | decide | simp [dvs]) (fun i => (dv 3)) (fun i => (pd_tuple (by rfl) m_tuple (pda_cons (pd_L (pdl_lc (own := [("target", 5)]) rfl nd (blkOk_by (by kernel_rfl)) (pdi_any (dcall F_targets_of hr (by decide) hG takes_no (av 4 pda_nil))) (fun i => (pdgw_name (i := 5) nd rfl (by first | exact .inl rfl | exact .inr rfl) (by decide))) (fun i => pdts_nil) (fun i => (pd_tup (av 5 (pda_cons (pd_dget (hu_1 hu) (dv 1) (pd_tup (pda_cons (dfld K (dv 0)) (av 3 (av 5 pda_nil))))) pda_nil)))))) pda_nil))))))
    (pdss_cons (pds_setLc (i := 6) (own := [("column", 7)]) rfl nd rfl rfl (sw_true rfl rfl rfl rfl) (blkOk_by (by kernel_rfl)) (pdi_any (dfld K (dv 0))) (fun i => (pdgw_name (i := 7) nd rfl (by first | exact .inl rfl | exact .inr rfl) (by decide))) (fun i => pdts_nil) (fun i => (dcall F_with_links hr (by decide) hG takes_no (av 7 (pda_cons (pd_dget (hu_1 hu) (dv 2) (dfld K (dv 7))) pda_nil)))))
    (pdss_cons (pds_set (i := 8) nd rfl (by first | exact .inl rfl | exact .inr rfl) (pd_dget (hu_1 hu) (dv 2) pd_str))
    (pdss_one (pds_ret (dmakeS C_Table_ids hr (by decide) hG tk (pda_cons (dfld K (dv 0)) (pda_star (dv 6) pda_nil)) (pdk_cons (dv 8) pdk_nil)))))))) ?_
  rintro as Q E hl ⟨⟨t, ks, xs⟩, rfl, ⟨ht, hr⟩, q, -⟩
  have q := q _ rfl
  dsimp only at ht hr q
  have o1 := T_Table.ok "name" (by simp [tabNs])
  have o2 := T_Table.ok "parts" (by simp [tabNs])
  have c1 := T_Column.ok "name" (by simp [colNs])
  simp [-Bool.exists_bool, dDcs]
  refine .inl (Ct.exI t rfl (by have := ht.l2; omega) (fun z hz => ?_) fun _ h => h.elim)
  subst hz
  refine ⟨_, rfl, ?_⟩
  refine goD_run (fun p : Str × List (Str × Str) => .tup [.str p.1, .tup (pairsD p.2)]) (fun r dd => ∃ done, linksOf t = done ++ r ∧ dd = .dk (done.map fun l => .inr l.1) (done.map fun l => .tup (pairsD l.2))) ⟨[], rfl, rfl⟩ ?_ ?_
  rotate_left
  · rintro dd ⟨done, e, rfl⟩
    rw [List.append_nil] at e
    rw [← e]
    have fl : ∀ l ∈ linksOf t, getD' (.dk ((linksOf t).map fun l => .inr l.1) ((linksOf t).map fun l => .tup (pairsD l.2))) (.str l.1) = some (some (.tup (pairsD l.2))) := fun l hl => linkDict_get ht hl
    have g0 := fl (("id" : Str), t.ids) List.mem_cons_self
    have gc : ∀ c ∈ t.cs, getD' (.dk ((linksOf t).map fun l => .inr l.1) ((linksOf t).map fun l => .tup (pairsD l.2))) (.str c.ti) = some (some (.tup (pairsD c.ln))) := fun c hc => fl (c.ti, c.ln) (List.mem_cons_of_mem _ (List.mem_map_of_mem hc))
    have h2 := ht.l2
    simp [-Bool.exists_bool, tD, tabD, tabT, tabNs, o1, o2, lkT1, lkT2]
    refine goLc_mapl (colD cc_Column ∘ colQ) (colD cc_Column ∘ colQ) (by simp; omega) (fun c hc T N hT => ?_) ?_
    · have g1 := gc c hc
      simp [-Bool.exists_bool, colD, colNs, c1, lkC1]
      refine ⟨_, g1, ?_⟩
      refine Ct.exI (colQ c) (by simp [colD, colNs, colQ]) (ht.cols c hc) (fun z hz => ?_) fun _ z => z.elim
      obtain rfl := hz
      simpa using hT
    · have e9 : asD (List.map (Ar.dat ∘ colD cc_Column ∘ colQ) t.cs) = some (t.cs.map (colD cc_Column ∘ colQ)) := asD_comp _ _
      simp [-Bool.exists_bool, o1, lkT1]
      refine ⟨_, g0, _, ⟨_, e9, rfl⟩, by simp, by simp; omega, ?_⟩
      refine ⟨.str t.nm, t.cs.map colQ, pairsD t.ids, by simp, ⟨ht.w1, ht.w2, by have := ht.l1; simp [pairsD]; omega, by simp; omega, fun q hq => ?_⟩, ?_⟩
      · obtain ⟨c, hc, rfl⟩ := List.mem_map.mp hq
        exact ht.cols c hc
      · rw [ht.out]
        simpa [tD, tabD, tabT, tabNs] using q
  rintro l r dd ⟨done, e, rfl⟩ N hN
  simp [-Bool.exists_bool, clD, sinkD]
  have hl : l ∈ linksOf t := by rw [e]; simp
  have h4 := ht.links l hl
  refine ⟨_, _, ⟨rfl, rfl⟩, _, _, rfl, rfl, .inl (Ct.exI (l.2.map fun p => (.str p.1, .str p.2)) (by simp [pairsD]) (by simp; omega) (fun z hz => ?_) fun _ h => h.elim)⟩
  subst hz
  refine ⟨_, rfl, ?_⟩
  rw [List.map_map]
  refine goLc_mapl _ (fun p : Str × Str => .tup [.str p.1, .str p.2]) (by simp; omega) (fun p hp T N hT => ?_) ?_
  · have g1 : getD' (.dt ks xs) (.tup [.str t.nm, .str l.1, .str p.1]) = some (some (.str p.2)) := by
      have := hr (([.inr t.nm, .inr l.1, .inr p.1] : List Key), .str p.2) (List.mem_flatMap.mpr ⟨l, hl, List.mem_map.mpr ⟨p, hp, rfl⟩⟩)
      simp [getD', keysD, keyD, this]
    simp [-Bool.exists_bool, tD, tabD, tabT, tabNs, o1, lkT1]
    refine ⟨_, g1, ?_⟩
    simpa [tD, tabD, tabT, tabNs] using hT
  · have nn : (Sum.inr l.1 : Key) ∉ done.map fun l => Sum.inr l.1 := by
      have hn := ht.names
      rw [e, List.map_append, List.map_cons] at hn
      intro hm
      obtain ⟨b, hb, eb⟩ := List.mem_map.mp hm
      injection eb with eb
      exact (List.nodup_append.mp hn).2.2 _ (List.mem_map_of_mem hb) _ List.mem_cons_self eb
    have hd : done.length ≤ 4 := by
      have := congrArg List.length e
      have h2 := ht.l2
      simp [linksOf] at this
      omega
    have hN' := hN _ ⟨done ++ [l], by rw [e]; simp, rfl⟩
    simp [-Bool.exists_bool]
    refine ⟨_, putD_dk (k := .inr l.1) rfl (by simp; omega) nn, ?_⟩
    simpa [pairsD] using hN'

theorem fg_with_actions {P : Program} {w : World} {K : PySem.W.Frag} {mg : Str → Option Value} {base : Heap} {f : Addr} {fd : FuncData} {c_BadAction c_BadName c_BadTable cc_Column cc_Table : Addr} (F : FunD K "with_actions" "with_actions" (defArgs s_with_actions) (defBody s_with_actions) (defScope s_with_actions) [] [] f fd) (hm : mg "with_actions" = some (.ref f)) (F_linked : FnG P w K mg base 1 "linked" 1 (ct_linked cc_Table cc_Column)) (F_targets_of : FnG P w K mg base 1 "targets_of" 1 (ct_targets_of )) (F_with_links : FnG P w K mg base 6 "with_links" 2 (ct_with_links cc_Column)) (m_tuple : mg "tuple" = none) (C_Table_ids : CnG P w K mg base 7 "Table" cc_Table ["ids"] 1 3 tabNs gV1 gD1 (ciTab cc_Column c_BadName c_BadTable c_BadAction)) (T_Table : ClsD K cc_Table tabNs) (T_Column : ClsD K cc_Column colNs) : FnG P w K mg base 9 "with_actions" 2 (ct_with_actions cc_Table cc_Column) :=
  fnG_of F sc_with_actions hm (ok_with_actions F F_linked F_targets_of F_with_links m_tuple C_Table_ids T_Table T_Column) (F.bindsN fun _ _ _ _ _ _ us hl => match us, hl with | [_, _], _ => rfl) Ct.ex_mono
end K3
end
section
set_option autoImplicit true
set_option Elab.async false
set_option linter.all false
set_option maxRecDepth 100000
set_option maxHeartbeats 4000000
namespace K3
open PySem PySem.Spec PyProof.Rows L2 Pd
open Pg Pf
def ciSch (CS C CC cb cn cf : Addr) : Ci := fun ds Q E => ∃ ts : List Tab, ds = [.tup (ts.map (tD C CC))] ∧ (ts.length ≤ 1000 ∧ ∀ t ∈ ts, OkT t) ∧
  match schOut ts with
  | .ok => Q [.tup (ts.map (tD C CC)), actD ts, .dk (ts.map fun t => .inr t.nm) (ts.map (tD C CC))]
  | .dup n => E ⟨cb, ["name"], [.str n]⟩
  | .lost n => E ⟨cn, ["table"], [.str n]⟩
  | .few => E ⟨cf, ["most"], [.int 5]⟩
  | .many => E ⟨cf, ["most"], [.int 10]⟩
theorem ciSch_mono {CS C CC cb cn cf : Addr} : ∀ ds Q Q' E E', (∀ d, Q d → Q' d) → (∀ x, E x → E' x) → ciSch CS C CC cb cn cf ds Q E → ciSch CS C CC cb cn cf ds Q' E' := by
  rintro ds Q Q' E E' h1 h2 ⟨ts, e, hw, h⟩
  refine ⟨ts, e, hw, ?_⟩
  cases c : schOut ts <;> rw [c] at h <;> first | exact h1 _ h | exact h2 _ h
theorem dup_nodup : ∀ {ns seen : List Str}, firstDup seen ns = none → ns.Nodup ∧ ∀ n ∈ ns, n ∉ seen
  | [], seen, _ => ⟨List.nodup_nil, fun n h => by cases h⟩
  | n :: r, seen, h => by
    unfold firstDup at h
    split at h
    · cases h
    · rename_i c
      obtain ⟨h1, h2⟩ := dup_nodup h
      refine ⟨List.nodup_cons.mpr ⟨fun hm => h2 n hm (by simp), h1⟩, fun m hm => ?_⟩
      rcases List.mem_cons.mp hm with rfl | hm
      · exact c
      · exact fun z => h2 m hm (List.mem_append_left _ z)
theorem OkT.tgt {t : Tab} (h : OkT t) : ∀ l ∈ linksOf t, (l.2.map (·.1)).Nodup := by
  have fst : ∀ ps : List (Str × Str), (pairsD ps).map fstS = ps.map (·.1) := fun ps => by
    unfold pairsD
    rw [List.map_map]
    exact List.map_congr_left fun p _ => rfl
  intro l hl
  rcases List.mem_cons.mp hl with rfl | hl
  · have ho := h.out
    unfold tabOut at ho
    split at ho
    · cases ho
    · split at ho
      · cases ho
      · split at ho
        · cases ho
        · rename_i _ _ c
          rw [fst] at c
          simp only [Bool.or_eq_true, Bool.not_eq_true', decide_eq_false_iff_not, decide_eq_true_iff, not_or, Decidable.not_not] at c
          exact c.1
  · obtain ⟨x, hx, rfl⟩ := List.mem_map.mp hl
    obtain ⟨s, ls, nb, df, e3, _, e4⟩ := h.cols x hx
    unfold colQ at e3
    injection e3 with e5 e6
    injection e6 with e6 e7
    injection e6 with e6
    rw [← e6] at e4
    unfold colOut at e4
    split at e4
    · cases e4
    · split at e4
      · cases e4
      · split at e4
        · cases e4
        · split at e4
          · cases e4
          · rename_i c
            rw [fst] at c
            simp only [Bool.or_eq_true, Bool.not_eq_true', decide_eq_false_iff_not, decide_eq_true_iff, not_or, Decidable.not_not] at c
            exact c.1
theorem nodup_flat {α β : Type} {f : α → List β} : ∀ {l : List α}, (∀ a ∈ l, (f a).Nodup) → l.Pairwise (fun a b => ∀ x ∈ f a, x ∉ f b) → (l.flatMap f).Nodup
  | [], _, _ => by simp
  | a :: l, h, hp => by
    rw [List.pairwise_cons] at hp
    rw [List.flatMap_cons, List.nodup_append]
    refine ⟨h a List.mem_cons_self, nodup_flat (fun b hb => h b (List.mem_cons_of_mem _ hb)) hp.2, fun x hx y hy e => ?_⟩
    subst e
    obtain ⟨b, hb, hxb⟩ := List.mem_flatMap.mp hy
    exact hp.1 b hb x hx hxb
theorem refT_nd {t : Tab} (h : OkT t) : ((refT t).map (·.1)).Nodup := by
  unfold refT
  rw [List.map_flatMap]
  refine nodup_flat (fun l hl => ?_) ?_
  · rw [List.map_map]
    have := h.tgt l hl
    have e : l.2.map ((fun x => x.1) ∘ fun p : Str × Str => (([.inr t.nm, .inr l.1, .inr p.1] : List Key), D.str p.2)) = (l.2.map (·.1)).map fun s => ([.inr t.nm, .inr l.1, .inr s] : List Key) := by
      rw [List.map_map]
      rfl
    rw [e]
    exact this.map _ fun a b hab e => hab (by simpa using e)
  · have hn := h.names
    rw [List.nodup_iff_pairwise_ne, List.pairwise_map] at hn
    refine hn.imp fun hab x hx hy => ?_
    rw [List.map_map] at hx hy
    obtain ⟨p, _, rfl⟩ := List.mem_map.mp hx
    obtain ⟨q, _, e⟩ := List.mem_map.mp hy
    simp at e
    exact hab e.1.symm
theorem refS_nd {ts : List Tab} (h : ∀ t ∈ ts, OkT t) (hn : (ts.map (·.nm)).Nodup) : ((refS ts).map (·.1)).Nodup := by
  unfold refS
  rw [List.map_flatMap]
  refine nodup_flat (fun t ht => refT_nd (h t ht)) ?_
  rw [List.nodup_iff_pairwise_ne, List.pairwise_map] at hn
  refine hn.imp fun {a b} hab x hx hy => ?_
  obtain ⟨r, hr, rfl⟩ := List.mem_map.mp hx
  obtain ⟨s, hs, e⟩ := List.mem_map.mp hy
  obtain ⟨l, _, hr⟩ := List.mem_flatMap.mp hr
  obtain ⟨p, _, rfl⟩ := List.mem_map.mp hr
  obtain ⟨l', _, hs⟩ := List.mem_flatMap.mp hs
  obtain ⟨p', _, rfl⟩ := List.mem_map.mp hs
  simp at e
  exact hab e.1.symm
theorem getZ_nd {α : Type} {r : List Key × α} {l : List (List Key × α)} (hn : (l.map (·.1)).Nodup) (h : r ∈ l) : getZ r.1 (l.map (·.1)) (l.map (·.2)) = some r.2 := by
  rw [getZ_mapk (f := fun x : List Key × α => x.1) (g := fun x => x.2), find_nd hn h]
  rfl
abbrev s_Schema___init__ : Stmt := inClass (top 21) 1
abbrev N_Schema___init__ : List Str := ["self", "tables", "actions", "table"]
theorem sc_Schema___init__ : FnScope N_Schema___init__ ["self", "tables"] (defScope s_Schema___init__) := ⟨rfl, rfl, rfl, by decide +kernel, rfl, by decide +kernel, by decide +kernel⟩
theorem bd_Schema {P : Program} {w : World} {K : PySem.W.Frag} {mg : Str → Option Value} {base : Heap} {f : Addr} {fd : FuncData} {c_BadTable c_Full c_NoTable cc_Column cc_Schema cc_Table : Addr} (m_MOST_REFERENCES : ∃ t, mg "MOST_REFERENCES" = some (.int 10 t)) (m_MOST_TABLES : ∃ t, mg "MOST_TABLES" = some (.int 5 t)) (F_actions_of : FnG P w K mg base 2 "actions_of" 1 (ct_actions_of cc_Table cc_Column)) (F_check_names : FnG P w K mg base 3 "check_names" 1 (ct_check_names cc_Table cc_Column c_BadTable)) (F_check_targets : FnG P w K mg base 3 "check_targets" 1 (ct_check_targets cc_Table cc_Column c_NoTable)) (F_with_actions : FnG P w K mg base 9 "with_actions" 2 (ct_with_actions cc_Table cc_Column)) (E_Full : ExG P w K mg base 1 "Full" c_Full ["most"]) (m_len : mg "len" = none) (m_tuple : mg "tuple" = none) (T_Schema : ClsD K cc_Schema schNs) (T_Table : ClsD K cc_Table tabNs) : BodyI P w K mg base f (10 - 1) N_Schema___init__ "Schema.__init__" (defBody s_Schema___init__) (defScope s_Schema___init__) (spI K cc_Schema 1 schNs (ciSch cc_Schema cc_Table cc_Column c_BadTable c_NoTable c_Full)) := by
  have nd := sc_Schema___init__.nd
  refine init_body (N := N_Schema___init__) (ps := ["self", "tables"]) (by decide) (fun cdv A outer s H E hr hG tk pw => have hu := Room.units hr; have hv := room_u hr; (pdss_cons (pds_expr (dcall F_check_names hr (by decide) hG tk (av 1 pda_nil)))
    (pdss_cons (pds_expr (dcall F_check_targets hr (by decide) hG tk (av 1 pda_nil)))
    (pdss_cons (pds_if (pdt_not (pdt_chain op_le snd_le op_le snd_le pd_int (pd_lenV (i := 1) rfl (by first | exact .inl rfl | exact .inr (.inl rfl) | exact .inr (.inr rfl)) (by rfl) m_len) (pd_globI (by rfl) m_MOST_TABLES))) (pdss_one (draise E_Full hr (by decide) tk (pda_cons (pd_globI (by rfl) m_MOST_TABLES) pda_nil))) pdss_nil)
    (pdss_cons (pds_set (i := 2) nd rfl (by first | exact .inl rfl | exact .inr rfl) (dcall F_actions_of hr (by decide) hG tk (av 1 pda_nil)))
    (pdss_cons (pds_if (pdt_cmp op_gt snd_gt (pd_lenF m_len (av 2 pda_nil)) (pd_globI (by rfl) m_MOST_REFERENCES)) (pdss_one (draise E_Full hr (by decide) tk (pda_cons (pd_globI (by rfl) m_MOST_REFERENCES) pda_nil))) pdss_nil)
    (pdss_cons (dself K 0 (pd_tuple (by rfl) m_tuple (pda_cons (pd_L (pdl_lc (own := [("table", 3)]) rfl nd (blkOk_by (by kernel_rfl)) (pdi_any (dv 1)) (fun i => (pdgw_name (i := 3) nd rfl (by first | exact .inl rfl | exact .inr rfl) (by decide))) (fun i => pdts_nil) (fun i => (dcall F_with_actions hr (by decide) hG takes_no (av 3 (av 2 pda_nil)))))) pda_nil)))
    (pdss_cons (dself K 0 (dv 2))
    (pdss_one (dself K 0 (pd_N (pdn_dc (own := [("table", 3)]) (.dk [] []) (.inl rfl) rfl (hu_1 hu) nd (blkOk_by (by kernel_rfl)) (pdi_any (dselfF K 0)) (fun i => (pdgw_name (i := 3) nd rfl (by first | exact .inl rfl | exact .inr rfl) (by decide))) (fun i => pdts_nil) .nil (by first | decide | simp [dvs]) (fun i => (dfld K (dv 3))) (fun i => (dv 3)))))))))))))) ?_
  rintro ds Q E hl ⟨ts, rfl, ⟨h1, h2⟩, h⟩
  have o1 := T_Schema.ok "_tables" (by simp [schNs])
  have o2 := T_Schema.ok "_actions" (by simp [schNs])
  have o3 := T_Schema.ok "layout" (by simp [schNs])
  have t1 := T_Table.ok "name" (by simp [tabNs])
  unfold schOut at h
  simp [-Bool.exists_bool]
  refine Ct.exI ts rfl h1 (fun z hz => ?_) fun x hx => ?_
  rotate_left
  · obtain ⟨n, e, rfl⟩ := hx
    rw [e] at h
    exact h
  obtain ⟨e1, rfl⟩ := hz
  rw [e1] at h
  dsimp only at h
  refine Ct.exI ts rfl ⟨h1, h2⟩ (fun z hz => ?_) fun x hx => ?_
  rotate_left
  · obtain ⟨n, e, rfl⟩ := hx
    rw [e] at h
    exact h
  obtain ⟨e2, rfl⟩ := hz
  rw [e2] at h
  dsimp only at h
  have hnd := refS_nd h2 (dup_nodup e1).1
  by_cases c1 : 1 ≤ ts.length
  rotate_left
  · rw [if_neg (by omega)]
    rw [if_neg (by omega)] at h
    exact h
  by_cases c2 : ts.length ≤ 5
  rotate_left
  · rw [if_pos (by omega), if_neg (by omega)]
    rw [if_neg (by omega)] at h
    exact h
  rw [if_pos (by omega), if_pos (by omega)]
  rw [if_pos ⟨c1, c2⟩] at h
  refine Ct.exI ts rfl ⟨h1, h2, hnd⟩ (fun z hz => ?_) fun _ z => z.elim
  subst hz
  simp [-Bool.exists_bool, actD]
  by_cases c3 : 10 < (refS ts).length
  · rw [if_pos (by omega)]
    rw [if_pos c3] at h
    exact h
  rw [if_neg (by omega)]
  rw [if_neg c3] at h
  refine goLc_mapl (tD cc_Table cc_Column) (tD cc_Table cc_Column) (by simp; omega) (fun t ht T N hT => ?_) ?_
  · simp [-Bool.exists_bool]
    refine Ct.exI (t, (refS ts).map (·.1), (refS ts).map (·.2)) rfl ⟨h2 t ht, fun r hr => getZ_nd hnd (List.mem_flatMap.mpr ⟨t, ht, hr⟩)⟩ (fun z hz => ?_) fun _ z => z.elim
    obtain rfl := hz
    simpa using hT
  simp [-Bool.exists_bool, dDcs]
  refine ⟨_, _, _, ⟨rfl, rfl, rfl⟩, o1, by decide, by decide, _, _, _, ⟨rfl, rfl, rfl⟩, o2, by decide, by decide, .inr (.inl ⟨_, _, _, ⟨rfl, rfl, rfl⟩, o1, _, rfl, _, .inl rfl, ?_⟩)⟩
  refine goD_run (tD cc_Table cc_Column) (fun r dd => ∃ done, ts = done ++ r ∧ dd = .dk (done.map fun t => .inr t.nm) (done.map (tD cc_Table cc_Column))) ⟨[], rfl, rfl⟩ ?_ ?_
  rotate_left
  · rintro dd ⟨done, e, rfl⟩
    rw [List.append_nil] at e
    rw [← e]
    simp [-Bool.exists_bool]
    exact ⟨_, _, _, ⟨rfl, rfl, rfl⟩, o3, by decide, by decide, _, ⟨rfl, rfl, rfl⟩, by simpa [actD] using h⟩
  rintro t r dd ⟨done, e, rfl⟩ N hN
  have nn : (Sum.inr t.nm : Key) ∉ done.map fun t => Sum.inr t.nm := by
    have hn := (dup_nodup e1).1
    rw [e, List.map_append, List.map_cons] at hn
    intro hm
    obtain ⟨b, hb, eb⟩ := List.mem_map.mp hm
    injection eb with eb
    exact (List.nodup_append.mp hn).2.2 _ (List.mem_map_of_mem hb) _ List.mem_cons_self eb
  have hd : done.length ≤ 5 := by
    have := congrArg List.length e
    simp at this
    omega
  have hN' := hN _ ⟨done ++ [t], by rw [e]; simp, rfl⟩
  simp [-Bool.exists_bool, clD, sinkD, tD, tabD, tabT, tabNs, t1, lkT1]
  simp [tD, tabD, tabT, tabNs] at hN'
  exact ⟨_, putD_dk (k := .inr t.nm) rfl (by simp; omega) nn, hN'⟩
abbrev gV0 : List V → List V → List V := fun vs zs => vs ++ zs
abbrev gD0 : List D → List D → List D := fun vs zs => vs ++ zs
section
variable {P : Program} {w : World} {K : PySem.W.Frag} {mg : Str → Option Value} {base : Heap} {f CS CC C c1 c2 c3 : Addr} {fd : FuncData}
abbrev FDS (K : PySem.W.Frag) (f : Addr) (fd : FuncData) : Prop := FunD K "__init__" "Schema.__init__" (defArgs s_Schema___init__) (defBody s_Schema___init__) (defScope s_Schema___init__) [] [] f fd
abbrev BDS (P : Program) (w : World) (K : PySem.W.Frag) (mg : Str → Option Value) (base : Heap) (f CS C CC c1 c2 c3 : Addr) : Prop := BodyI P w K mg base f (10 - 1) N_Schema___init__ "Schema.__init__" (defBody s_Schema___init__) (defScope s_Schema___init__) (spI K CS 1 schNs (ciSch CS C CC c1 c2 c3))
theorem cn_S (F : FDS K f fd) (B : BDS P w K mg base f CS C CC c1 c2 c3) (M : Mk K CS f) (hm : mg "Schema" = some (.ref CS)) : CnG P w K mg base 10 "Schema" CS [] 0 1 schNs gV0 gD0 (ciSch CS C CC c1 c2 c3) := by
  refine ⟨ciSch_mono, fun P ds es vs zs h1 h2 h3 h4 => ⟨h3.append h4, by simp [h1, h2]⟩, ⟨f, M, fnI_imp (init_star (ps := ["self"]) (pv := "tables") (m := 1) (lack := []) (fun us mv ws => us ++ ws) F sc_Schema___init__ (fun q hq => by cases hq) (fun a b c => a.append c) (fun a b c => by simp [a, c])
    (fun kV D doc pm an cdv ct us rest mv ws hk h1 h2 h3 => ?_) B) ?_⟩, hm⟩
  · match us, ws, mv, rest with
    | [a], [], [], [] => rfl
    | [a], [], [], r :: rs => rfl
  · rintro vs zs H Q E ⟨a, ws, rest, rfl, hl, hz, h⟩
    exact ⟨a :: ws, rest, rfl, by simp [hl], hz, h⟩
end
end K3
end
section
set_option autoImplicit true
set_option Elab.async false
set_option linter.all false
set_option maxRecDepth 100000
set_option maxHeartbeats 4000000
namespace K3
open PySem PySem.Spec PyProof.Rows L2 Pd
open Pg Pf
structure OkS (ts : List Tab) : Prop where
  tabs : ∀ t ∈ ts, OkT t
  out : schOut ts = .ok
theorem OkS.facts {ts : List Tab} (h : OkS ts) : firstDup [] (ts.map (·.nm)) = none ∧ lost ts = none ∧ 1 ≤ ts.length ∧ ts.length ≤ 5 ∧ (refS ts).length ≤ 10 := by
  have ho := h.out
  unfold schOut at ho
  split at ho
  · cases ho
  · rename_i e1
    split at ho
    · cases ho
    · rename_i e2
      split at ho
      · rename_i c
        split at ho
        · cases ho
        · exact ⟨e1, e2, c.1, c.2, by omega⟩
      · cases ho
theorem OkS.nd {ts : List Tab} (h : OkS ts) : (ts.map (·.nm)).Nodup := (dup_nodup h.facts.1).1
def hasT (ts : List Tab) (d : D) : Bool := ts.any fun t => d.isStr t.nm
theorem lay_get {C CC : Addr} {ts : List Tab} (s : Str) : getD' (.dk (ts.map fun t => .inr t.nm) (ts.map (tD C CC))) (.str s) = some ((ts.find? fun t => decide (t.nm = s)).map (tD C CC)) := by
  unfold getD'
  simp only [keyD]
  rw [getZ_mapk (f := fun t : Tab => (Sum.inr t.nm : Key)) (g := tD C CC)]
  have : (fun b : Tab => decide ((Sum.inr b.nm : Key) = Sum.inr s)) = fun b => decide (b.nm = s) := by
    funext b
    simp
  rw [this]
theorem hasT_find {ts : List Tab} {s : Str} : hasT ts (.str s) = (ts.find? fun t => decide (t.nm = s)).isSome := by
  unfold hasT
  rw [Bool.eq_iff_iff, List.any_eq_true, List.find?_isSome]
  constructor
  · rintro ⟨t, h1, h2⟩
    exact ⟨t, h1, by simp [D.isStr] at h2; simp [h2]⟩
  · rintro ⟨t, h1, h2⟩
    exact ⟨t, h1, by simp at h2; simp [D.isStr, h2]⟩
theorem str_e (s : Str) : Str.empty ++ s = s := by
  cases s with
  | mk a => exact congrArg Str.mk (by simp [Str.empty])
def rp2 (n m : Nat) : Str := Str.ofString "Schema(" ++ Str.ofString (n : Int).repr ++ Str.ofString " tables, " ++ Str.ofString (m : Int).repr ++ Str.ofString " references)"
def schRepr (ts : List Tab) : Str := rp2 ts.length (refS ts).length
def rpOk (n m : Nat) : Bool := decide ((Str.ofString "Schema(").length ≤ sizeLine) && (decide (n.log2 < 1920) && (decide ((Str.ofString "Schema(" ++ Str.ofString (n : Int).repr).length ≤ sizeLine) && (decide ((Str.ofString "Schema(" ++ Str.ofString (n : Int).repr ++ Str.ofString " tables, ").length ≤ sizeLine) &&
  (decide (m.log2 < 1920) && (decide ((Str.ofString "Schema(" ++ Str.ofString (n : Int).repr ++ Str.ofString " tables, " ++ Str.ofString (m : Int).repr).length ≤ sizeLine) && decide ((rp2 n m).length ≤ sizeLine))))))
theorem rpOk_all : ∀ n ∈ List.range 6, ∀ m ∈ List.range 11, rpOk n m = true := by decide +kernel
abbrev s_Schema_tables : Stmt := inClass (top 21) 2
abbrev N_Schema_tables : List Str := ["self"]
theorem sc_Schema_tables : FnScope N_Schema_tables ["self"] (defScope s_Schema_tables) := ⟨rfl, rfl, rfl, by decide +kernel, rfl, by decide +kernel, by decide +kernel⟩
def ct_Schema_tables (cc_Schema cc_Table cc_Column : Addr) : Ct := Ct.ex 0 (fun ts : List Tab => [some (schD cc_Schema cc_Table cc_Column ts)]) OkS (fun ts z => z = .lst (ts.map fun t => .str t.nm)) (fun _ _ => False)
theorem ok_Schema_tables {P : Program} {w : World} {K : PySem.W.Frag} {mg : Str → Option Value} {base : Heap} {f : Addr} {fd : FuncData} {cc_Column cc_Schema cc_Table : Addr} (F : FunD K "tables" "Schema.tables" (defArgs s_Schema_tables) (defBody s_Schema_tables) (defScope s_Schema_tables) [] [] f fd) (m_list : mg "list" = none) (T_Schema : ClsD K cc_Schema schNs) : Fd P w K mg base 1 f fd ["self"] (spC K 1 (ct_Schema_tables cc_Schema cc_Table cc_Column)) := by
  have nd := sc_Schema_tables.nd
  refine fd_body (N := N_Schema_tables) (ct := ct_Schema_tables cc_Schema cc_Table cc_Column) F sc_Schema_tables (fun cdv A outer s H E hr hG tk pw => have hu := Room.units hr; have hv := room_u hr; (pdss_one (pds_ret (pd_L (pdl_listD rfl m_list (dfld K (dv 0))))))) ?_
  rintro as Q E hl ⟨ts, rfl, h, q, -⟩
  have q := q _ rfl
  have o3 := T_Schema.ok "layout" (by simp [schNs])
  simp [-Bool.exists_bool, schD, schNs, o3, lkS3]
  simpa [Function.comp_def, unK] using q

theorem mt_Schema_tables {P : Program} {w : World} {K : PySem.W.Frag} {mg : Str → Option Value} {base : Heap} {f : Addr} {fd : FuncData} {cc_Column cc_Schema cc_Table : Addr} (F : FunD K "tables" "Schema.tables" (defArgs s_Schema_tables) (defBody s_Schema_tables) (defScope s_Schema_tables) [] [] f fd) (cl : Cls K cc_Schema) (mh : Meth K cc_Schema "tables" f) (m_list : mg "list" = none) (T_Schema : ClsD K cc_Schema schNs) : MtG P w K mg base 1 cc_Schema "tables" 1 (ct_Schema_tables cc_Schema cc_Table cc_Column) :=
  ⟨Ct.ex_mono, cl, f, fd, _, rfl, ok_Schema_tables F m_list T_Schema, mh, (F.bindsN fun _ _ _ _ _ _ us hl => match us, hl with | [_], _ => rfl)⟩
theorem okF_Schema_tables {P : Program} {w : World} {K : PySem.W.Frag} {mg : Str → Option Value} {base : Heap} {f : Addr} {fd : FuncData} {cc_Column cc_Schema cc_Table : Addr} (F : FunD K "tables" "Schema.tables" (defArgs s_Schema_tables) (defBody s_Schema_tables) (defScope s_Schema_tables) [] [] f fd) (m_list : mg "list" = none) (T_Schema : ClsD K cc_Schema schNs) : Fd P w K mg base 1 f fd ["self"] (spF K 1 (ct_Schema_tables cc_Schema cc_Table cc_Column)) := by
  have nd := sc_Schema_tables.nd
  refine fd_bodyL (N := N_Schema_tables) (ct := ct_Schema_tables cc_Schema cc_Table cc_Column) F sc_Schema_tables (fun cdv A outer s H E hr hG tk pw => have hu := Room.units hr; have hv := room_u hr; (pdssL_ret (pdl_listD rfl m_list (dfld K (dv 0))))) ?_
  rintro as Q E hl ⟨ts, rfl, h, q, -⟩
  have q := q _ rfl
  have o3 := T_Schema.ok "layout" (by simp [schNs])
  simp [-Bool.exists_bool, schD, schNs, o3, lkS3]
  simpa [Function.comp_def, unK] using q
theorem mtF_Schema_tables {P : Program} {w : World} {K : PySem.W.Frag} {mg : Str → Option Value} {base : Heap} {f : Addr} {fd : FuncData} {cc_Column cc_Schema cc_Table : Addr} (F : FunD K "tables" "Schema.tables" (defArgs s_Schema_tables) (defBody s_Schema_tables) (defScope s_Schema_tables) [] [] f fd) (cl : Cls K cc_Schema) (mh : Meth K cc_Schema "tables" f) (m_list : mg "list" = none) (T_Schema : ClsD K cc_Schema schNs) : MtFG P w K mg base 1 cc_Schema "tables" 1 (ct_Schema_tables cc_Schema cc_Table cc_Column) :=
  ⟨Ct.ex_mono, cl, f, fd, _, rfl, okF_Schema_tables F m_list T_Schema, mh, (F.bindsN fun _ _ _ _ _ _ us hl => match us, hl with | [_], _ => rfl)⟩
abbrev s_Schema___len__ : Stmt := inClass (top 21) 15
abbrev N_Schema___len__ : List Str := ["self"]
theorem sc_Schema___len__ : FnScope N_Schema___len__ ["self"] (defScope s_Schema___len__) := ⟨rfl, rfl, rfl, by decide +kernel, rfl, by decide +kernel, by decide +kernel⟩
def ct_Schema___len__ (cc_Schema cc_Table cc_Column : Addr) : Ct := Ct.ex 0 (fun ts : List Tab => [some (schD cc_Schema cc_Table cc_Column ts)]) OkS (fun ts z => z = .int ts.length) (fun _ _ => False)
theorem ok_Schema___len__ {P : Program} {w : World} {K : PySem.W.Frag} {mg : Str → Option Value} {base : Heap} {f : Addr} {fd : FuncData} {cc_Column cc_Schema cc_Table : Addr} (F : FunD K "__len__" "Schema.__len__" (defArgs s_Schema___len__) (defBody s_Schema___len__) (defScope s_Schema___len__) [] [] f fd) (m_len : mg "len" = none) (T_Schema : ClsD K cc_Schema schNs) : Fd P w K mg base 1 f fd ["self"] (spC K 1 (ct_Schema___len__ cc_Schema cc_Table cc_Column)) := by
  have nd := sc_Schema___len__.nd
  refine fd_body (N := N_Schema___len__) (ct := ct_Schema___len__ cc_Schema cc_Table cc_Column) F sc_Schema___len__ (fun cdv A outer s H E hr hG tk pw => have hu := Room.units hr; have hv := room_u hr; (pdss_one (pds_ret (pd_len (by rfl) m_len (pda_cons (dfld K (dv 0)) pda_nil))))) ?_
  rintro as Q E hl ⟨ts, rfl, h, q, -⟩
  have q := q _ rfl
  have o1 := T_Schema.ok "_tables" (by simp [schNs])
  simp [-Bool.exists_bool, schD, schNs, o1, lkS1]
  exact q

theorem sp_Schema___len__ {P : Program} {w : World} {K : PySem.W.Frag} {mg : Str → Option Value} {base : Heap} {f : Addr} {fd : FuncData} {cc_Column cc_Schema cc_Table : Addr} (F : FunD K "__len__" "Schema.__len__" (defArgs s_Schema___len__) (defBody s_Schema___len__) (defScope s_Schema___len__) [] [] f fd) (hs : PySem.W.findIn K (.ref cc_Schema) "__len__" = some (some (.ref f))) (hf : PySem.W.isFn K (.ref f) = true) (m_len : mg "len" = none) (T_Schema : ClsD K cc_Schema schNs) : SpsG P w K mg base 1 cc_Schema "__len__" 1 (ct_Schema___len__ cc_Schema cc_Table cc_Column) :=
  ⟨Ct.ex_mono, f, fd, _, rfl, ok_Schema___len__ F m_len T_Schema, hs, hf, (F.bindsN fun _ _ _ _ _ _ us hl => match us, hl with | [_], _ => rfl)⟩
abbrev s_Schema___contains__ : Stmt := inClass (top 21) 16
abbrev N_Schema___contains__ : List Str := ["self", "x"]
theorem sc_Schema___contains__ : FnScope N_Schema___contains__ ["self", "x"] (defScope s_Schema___contains__) := ⟨rfl, rfl, rfl, by decide +kernel, rfl, by decide +kernel, by decide +kernel⟩
def ct_Schema___contains__ (cc_Schema cc_Table cc_Column : Addr) : Ct := Ct.ex 0 (fun t : List Tab × D => [some (schD cc_Schema cc_Table cc_Column t.1), some t.2]) (fun t => OkS t.1 ∧ t.2.wt < 1000000) (fun t z => z = .bl (hasT t.1 t.2)) (fun _ _ => False)
theorem ok_Schema___contains__ {P : Program} {w : World} {K : PySem.W.Frag} {mg : Str → Option Value} {base : Heap} {f : Addr} {fd : FuncData} {cc_Column cc_Schema cc_Table : Addr} (F : FunD K "__contains__" "Schema.__contains__" (defArgs s_Schema___contains__) (defBody s_Schema___contains__) (defScope s_Schema___contains__) [] [] f fd) (m_isinstance : mg "isinstance" = none) (m_str : mg "str" = none) (T_Schema : ClsD K cc_Schema schNs) : Fd P w K mg base 1 f fd ["self", "x"] (spC K 2 (ct_Schema___contains__ cc_Schema cc_Table cc_Column)) := by
  have nd := sc_Schema___contains__.nd
  refine fd_body (N := N_Schema___contains__) (ct := ct_Schema___contains__ cc_Schema cc_Table cc_Column) F sc_Schema___contains__ (fun cdv A outer s H E hr hG tk pw => have hu := Room.units hr; have hv := room_u hr; (pdss_one (pds_ret (pd_and (disiT K boot_str'' m_str m_isinstance (dv 1)) (pd_one (pd_din (hu_1 hu) (dv 1) (dfld K (dv 0)))))))) ?_
  rintro as Q E hl ⟨⟨ts, d⟩, rfl, ⟨h, hw⟩, q, -⟩
  have q := q _ rfl
  dsimp only at hw q
  have o3 := T_Schema.ok "layout" (by simp [schNs])
  cases d with
  | str s =>
    have g := lay_get (C := cc_Table) (CC := cc_Column) (ts := ts) s
    simp [-Bool.exists_bool, schD, schNs, o3, lkS3]
    refine ⟨_, g, ?_⟩
    rw [Option.isSome_map, ← hasT_find]
    exact q
  | ins _ _ _ => simp [D.wt] at hw
  | dk _ _ => simp [D.wt] at hw
  | dt _ _ => simp [D.wt] at hw
  | scr _ => simp [D.wt] at hw
  | cst _ => simp [D.wt] at hw
  | _ =>
    simp [-Bool.exists_bool]
    have e := (List.any_eq_false (l := ts) (p := fun _ => false)).mpr (by simp)
    simpa [hasT, D.isStr, e] using q

theorem sp_Schema___contains__ {P : Program} {w : World} {K : PySem.W.Frag} {mg : Str → Option Value} {base : Heap} {f : Addr} {fd : FuncData} {cc_Column cc_Schema cc_Table : Addr} (F : FunD K "__contains__" "Schema.__contains__" (defArgs s_Schema___contains__) (defBody s_Schema___contains__) (defScope s_Schema___contains__) [] [] f fd) (hs : PySem.W.findIn K (.ref cc_Schema) "__contains__" = some (some (.ref f))) (hf : PySem.W.isFn K (.ref f) = true) (m_isinstance : mg "isinstance" = none) (m_str : mg "str" = none) (T_Schema : ClsD K cc_Schema schNs) : SpsG P w K mg base 1 cc_Schema "__contains__" 2 (ct_Schema___contains__ cc_Schema cc_Table cc_Column) :=
  ⟨Ct.ex_mono, f, fd, _, rfl, ok_Schema___contains__ F m_isinstance m_str T_Schema, hs, hf, (F.bindsN fun _ _ _ _ _ _ us hl => match us, hl with | [_, _], _ => rfl)⟩
abbrev s_Schema_columns : Stmt := inClass (top 21) 3
abbrev N_Schema_columns : List Str := ["self", "table", "column"]
theorem sc_Schema_columns : FnScope N_Schema_columns ["self", "table"] (defScope s_Schema_columns) := ⟨rfl, rfl, rfl, by decide +kernel, rfl, by decide +kernel, by decide +kernel⟩
def ct_Schema_columns (cc_Schema cc_Table cc_Column c_NoTable : Addr) : Ct := Ct.ex 0 (fun t : List Tab × D => [some (schD cc_Schema cc_Table cc_Column t.1), some t.2]) (fun t => OkS t.1 ∧ t.2.wt < 1000000) (fun t z => ∃ b ∈ t.1, t.2 = .str b.nm ∧ z = .lst (b.cs.map fun c => .str c.ti)) (fun t x => hasT t.1 t.2 = false ∧ x = ⟨c_NoTable, ["table"], [t.2]⟩)
theorem ok_Schema_columns {P : Program} {w : World} {K : PySem.W.Frag} {mg : Str → Option Value} {base : Heap} {f : Addr} {fd : FuncData} {c_NoTable cc_Column cc_Schema cc_Table : Addr} (F : FunD K "columns" "Schema.columns" (defArgs s_Schema_columns) (defBody s_Schema_columns) (defScope s_Schema_columns) [] [] f fd) (E_NoTable : ExG P w K mg base 1 "NoTable" c_NoTable ["table"]) (S_Schema___contains__ : SpsG P w K mg base 1 cc_Schema "__contains__" 2 (ct_Schema___contains__ cc_Schema cc_Table cc_Column)) (T_Schema : ClsD K cc_Schema schNs) (T_Table : ClsD K cc_Table tabNs) (T_Column : ClsD K cc_Column colNs) : Fd P w K mg base 3 f fd ["self", "table"] (spC K 2 (ct_Schema_columns cc_Schema cc_Table cc_Column c_NoTable)) := by
  have nd := sc_Schema_columns.nd
  refine fd_body (N := N_Schema_columns) (ct := ct_Schema_columns cc_Schema cc_Table cc_Column c_NoTable) F sc_Schema_columns (fun cdv A outer s H E hr hG tk pw => have hu := Room.units hr; have hv := room_u hr; (pdss_cons (pds_if (tnotinO S_Schema___contains__ hr (by decide) hG (dv 1) (dv 0)) (pdss_one (draise E_NoTable hr (by decide) tk (av 1 pda_nil))) pdss_nil)
    (pdss_one (pds_ret (pd_L (pdl_lc (own := [("column", 2)]) rfl nd (blkOk_by (by kernel_rfl)) (pdi_any (dfld K (pd_dget (hu_1 hu) (dfld K (dv 0)) (dv 1)))) (fun i => (pdgw_name (i := 2) nd rfl (by first | exact .inl rfl | exact .inr rfl) (by decide))) (fun i => pdts_nil) (fun i => (dfld K (dv 2))))))))) ?_
  rintro as Q E hl ⟨⟨ts, d⟩, rfl, ⟨h, hw⟩, q, qe⟩
  dsimp only at hw q qe
  have o3 := T_Schema.ok "layout" (by simp [schNs])
  have t2 := T_Table.ok "parts" (by simp [tabNs])
  have c1 := T_Column.ok "name" (by simp [colNs])
  simp [-Bool.exists_bool, schD, schNs]
  refine Ct.exI (ts, d) rfl ⟨h, hw⟩ (fun z hz => ?_) fun _ z => z.elim
  obtain rfl := hz
  refine ⟨hasT ts d, rfl, ?_⟩
  cases e : hasT ts d with
  | false => simpa using qe _ ⟨e, rfl⟩
  | true =>
    obtain ⟨s, rfl⟩ : ∃ s, d = .str s := by
      unfold hasT at e
      obtain ⟨t, _, et⟩ := List.any_eq_true.mp e
      cases d <;> first | exact ⟨_, rfl⟩ | (simp [D.isStr] at et)
    have g := lay_get (C := cc_Table) (CC := cc_Column) (ts := ts) s
    rw [hasT_find] at e
    obtain ⟨b, eb⟩ := Option.isSome_iff_exists.mp e
    rw [eb] at g
    have hb := List.mem_of_find?_eq_some eb
    have es : b.nm = s := by simpa using List.find?_some eb
    have hb2 := (h.tabs b hb).l2
    have g' : getD' (.dk (ts.map fun t => .inr t.nm) (ts.map (tD cc_Table cc_Column))) (.str s) = some (some (.ins cc_Table tabNs [.str b.nm, .tup ((b.cs.map colQ).map (colD cc_Column)), .tup (pairsD b.ids)])) := g
    simp [-Bool.exists_bool, o3, lkS3]
    refine .inr (.inl ⟨_, g', t2, _, rfl, _, .inl rfl, ?_⟩)
    rw [List.map_map]
    refine goLc_mapl (colD cc_Column ∘ colQ) (fun c : Col => .str c.ti) (by simp; omega) (fun c hc T N hT => by simp [-Bool.exists_bool, colD, colNs, colQ, c1, lkC1]; exact hT) ?_
    simpa using q _ ⟨b, hb, by rw [es], rfl⟩

theorem mt_Schema_columns {P : Program} {w : World} {K : PySem.W.Frag} {mg : Str → Option Value} {base : Heap} {f : Addr} {fd : FuncData} {c_NoTable cc_Column cc_Schema cc_Table : Addr} (F : FunD K "columns" "Schema.columns" (defArgs s_Schema_columns) (defBody s_Schema_columns) (defScope s_Schema_columns) [] [] f fd) (cl : Cls K cc_Schema) (mh : Meth K cc_Schema "columns" f) (E_NoTable : ExG P w K mg base 1 "NoTable" c_NoTable ["table"]) (S_Schema___contains__ : SpsG P w K mg base 1 cc_Schema "__contains__" 2 (ct_Schema___contains__ cc_Schema cc_Table cc_Column)) (T_Schema : ClsD K cc_Schema schNs) (T_Table : ClsD K cc_Table tabNs) (T_Column : ClsD K cc_Column colNs) : MtG P w K mg base 3 cc_Schema "columns" 2 (ct_Schema_columns cc_Schema cc_Table cc_Column c_NoTable) :=
  ⟨Ct.ex_mono, cl, f, fd, _, rfl, ok_Schema_columns F E_NoTable S_Schema___contains__ T_Schema T_Table T_Column, mh, (F.bindsN fun _ _ _ _ _ _ us hl => match us, hl with | [_, _], _ => rfl)⟩
theorem okF_Schema_columns {P : Program} {w : World} {K : PySem.W.Frag} {mg : Str → Option Value} {base : Heap} {f : Addr} {fd : FuncData} {c_NoTable cc_Column cc_Schema cc_Table : Addr} (F : FunD K "columns" "Schema.columns" (defArgs s_Schema_columns) (defBody s_Schema_columns) (defScope s_Schema_columns) [] [] f fd) (E_NoTable : ExG P w K mg base 1 "NoTable" c_NoTable ["table"]) (S_Schema___contains__ : SpsG P w K mg base 1 cc_Schema "__contains__" 2 (ct_Schema___contains__ cc_Schema cc_Table cc_Column)) (T_Schema : ClsD K cc_Schema schNs) (T_Table : ClsD K cc_Table tabNs) (T_Column : ClsD K cc_Column colNs) : Fd P w K mg base 3 f fd ["self", "table"] (spF K 2 (ct_Schema_columns cc_Schema cc_Table cc_Column c_NoTable)) := by
  have nd := sc_Schema_columns.nd
  refine fd_bodyL (N := N_Schema_columns) (ct := ct_Schema_columns cc_Schema cc_Table cc_Column c_NoTable) F sc_Schema_columns (fun cdv A outer s H E hr hG tk pw => have hu := Room.units hr; have hv := room_u hr; (pdssL_cons (pds_if (tnotinO S_Schema___contains__ hr (by decide) hG (dv 1) (dv 0)) (pdss_one (draise E_NoTable hr (by decide) tk (av 1 pda_nil))) pdss_nil)
    (pdssL_ret (pdl_lc (own := [("column", 2)]) rfl nd (blkOk_by (by kernel_rfl)) (pdi_any (dfld K (pd_dget (hu_1 hu) (dfld K (dv 0)) (dv 1)))) (fun i => (pdgw_name (i := 2) nd rfl (by first | exact .inl rfl | exact .inr rfl) (by decide))) (fun i => pdts_nil) (fun i => (dfld K (dv 2))))))) ?_
  rintro as Q E hl ⟨⟨ts, d⟩, rfl, ⟨h, hw⟩, q, qe⟩
  dsimp only at hw q qe
  have o3 := T_Schema.ok "layout" (by simp [schNs])
  have t2 := T_Table.ok "parts" (by simp [tabNs])
  have c1 := T_Column.ok "name" (by simp [colNs])
  simp [-Bool.exists_bool, schD, schNs]
  refine Ct.exI (ts, d) rfl ⟨h, hw⟩ (fun z hz => ?_) fun _ z => z.elim
  obtain rfl := hz
  refine ⟨hasT ts d, rfl, ?_⟩
  cases e : hasT ts d with
  | false => simpa using qe _ ⟨e, rfl⟩
  | true =>
    obtain ⟨s, rfl⟩ : ∃ s, d = .str s := by
      unfold hasT at e
      obtain ⟨t, _, et⟩ := List.any_eq_true.mp e
      cases d <;> first | exact ⟨_, rfl⟩ | (simp [D.isStr] at et)
    have g := lay_get (C := cc_Table) (CC := cc_Column) (ts := ts) s
    rw [hasT_find] at e
    obtain ⟨b, eb⟩ := Option.isSome_iff_exists.mp e
    rw [eb] at g
    have hb := List.mem_of_find?_eq_some eb
    have es : b.nm = s := by simpa using List.find?_some eb
    have hb2 := (h.tabs b hb).l2
    have g' : getD' (.dk (ts.map fun t => .inr t.nm) (ts.map (tD cc_Table cc_Column))) (.str s) = some (some (.ins cc_Table tabNs [.str b.nm, .tup ((b.cs.map colQ).map (colD cc_Column)), .tup (pairsD b.ids)])) := g
    simp [-Bool.exists_bool, o3, lkS3]
    refine .inr (.inl ⟨_, g', t2, _, rfl, _, .inl rfl, ?_⟩)
    rw [List.map_map]
    refine goLc_mapl (colD cc_Column ∘ colQ) (fun c : Col => .str c.ti) (by simp; omega) (fun c hc T N hT => by simp [-Bool.exists_bool, colD, colNs, colQ, c1, lkC1]; exact hT) ?_
    simpa using q _ ⟨b, hb, by rw [es], rfl⟩
theorem mtF_Schema_columns {P : Program} {w : World} {K : PySem.W.Frag} {mg : Str → Option Value} {base : Heap} {f : Addr} {fd : FuncData} {c_NoTable cc_Column cc_Schema cc_Table : Addr} (F : FunD K "columns" "Schema.columns" (defArgs s_Schema_columns) (defBody s_Schema_columns) (defScope s_Schema_columns) [] [] f fd) (cl : Cls K cc_Schema) (mh : Meth K cc_Schema "columns" f) (E_NoTable : ExG P w K mg base 1 "NoTable" c_NoTable ["table"]) (S_Schema___contains__ : SpsG P w K mg base 1 cc_Schema "__contains__" 2 (ct_Schema___contains__ cc_Schema cc_Table cc_Column)) (T_Schema : ClsD K cc_Schema schNs) (T_Table : ClsD K cc_Table tabNs) (T_Column : ClsD K cc_Column colNs) : MtFG P w K mg base 3 cc_Schema "columns" 2 (ct_Schema_columns cc_Schema cc_Table cc_Column c_NoTable) :=
  ⟨Ct.ex_mono, cl, f, fd, _, rfl, okF_Schema_columns F E_NoTable S_Schema___contains__ T_Schema T_Table T_Column, mh, (F.bindsN fun _ _ _ _ _ _ us hl => match us, hl with | [_, _], _ => rfl)⟩
abbrev s_Schema___repr__ : Stmt := inClass (top 21) 18
abbrev N_Schema___repr__ : List Str := ["self"]
theorem sc_Schema___repr__ : FnScope N_Schema___repr__ ["self"] (defScope s_Schema___repr__) := ⟨rfl, rfl, rfl, by decide +kernel, rfl, by decide +kernel, by decide +kernel⟩
def ct_Schema___repr__ (cc_Schema cc_Table cc_Column : Addr) : Ct := Ct.ex 0 (fun ts : List Tab => [some (schD cc_Schema cc_Table cc_Column ts)]) OkS (fun ts z => z = .str (schRepr ts)) (fun _ _ => False)
theorem ok_Schema___repr__ {P : Program} {w : World} {K : PySem.W.Frag} {mg : Str → Option Value} {base : Heap} {f : Addr} {fd : FuncData} {cc_Column cc_Schema cc_Table : Addr} (F : FunD K "__repr__" "Schema.__repr__" (defArgs s_Schema___repr__) (defBody s_Schema___repr__) (defScope s_Schema___repr__) [] [] f fd) (m_len : mg "len" = none) (T_Schema : ClsD K cc_Schema schNs) : Fd P w K mg base 1 f fd ["self"] (spC K 1 (ct_Schema___repr__ cc_Schema cc_Table cc_Column)) := by
  have nd := sc_Schema___repr__.nd
  refine fd_body (N := N_Schema___repr__) (ct := ct_Schema___repr__ cc_Schema cc_Table cc_Column) F sc_Schema___repr__ (fun cdv A outer s H E hr hG tk pw => have hu := Room.units hr; have hv := room_u hr; (pdss_one (pds_ret (pd_joined (.cons pd_str (.cons (pd_fmt (pd_len (by rfl) m_len (pda_cons (dfld K (dv 0)) pda_nil))) (.cons pd_str (.cons (pd_fmt (pd_lenF m_len (pda_cons (dfld K (dv 0)) pda_nil))) (.cons pd_str .nil))))))))) ?_
  rintro as Q E hl ⟨ts, rfl, h, q, -⟩
  have q := q _ rfl
  have o1 := T_Schema.ok "_tables" (by simp [schNs])
  have o2 := T_Schema.ok "_actions" (by simp [schNs])
  obtain ⟨f1, f2, f3, f4, f5⟩ := h.facts
  have ok := rpOk_all ts.length (by simp; omega) (refS ts).length (by simp; omega)
  unfold rpOk at ok
  simp only [Bool.and_eq_true, decide_eq_true_eq] at ok
  obtain ⟨k1, k2, k3, k4, k5, k6, k7⟩ := ok
  simp [-Bool.exists_bool, schD, schNs, o1, o2, lkS1, lkS2, actD, dJs, str_e]
  exact ⟨k1, k2, k3, k4, k5, k6, k7, q⟩

theorem sp_Schema___repr__ {P : Program} {w : World} {K : PySem.W.Frag} {mg : Str → Option Value} {base : Heap} {f : Addr} {fd : FuncData} {cc_Column cc_Schema cc_Table : Addr} (F : FunD K "__repr__" "Schema.__repr__" (defArgs s_Schema___repr__) (defBody s_Schema___repr__) (defScope s_Schema___repr__) [] [] f fd) (hs : PySem.W.findIn K (.ref cc_Schema) "__repr__" = some (some (.ref f))) (hf : PySem.W.isFn K (.ref f) = true) (m_len : mg "len" = none) (T_Schema : ClsD K cc_Schema schNs) : SpsG P w K mg base 1 cc_Schema "__repr__" 1 (ct_Schema___repr__ cc_Schema cc_Table cc_Column) :=
  ⟨Ct.ex_mono, f, fd, _, rfl, ok_Schema___repr__ F m_len T_Schema, hs, hf, (F.bindsN fun _ _ _ _ _ _ us hl => match us, hl with | [_], _ => rfl)⟩
end K3
end
section
set_option autoImplicit true
set_option Elab.async false
set_option linter.all false
set_option maxRecDepth 100000
set_option maxHeartbeats 4000000
namespace K3
open PySem PySem.Spec PyProof.Rows L2 Pd
open Pg Pf
def lawC (c : Col) : D := .tup [.str c.ti, .lst (pairsD c.ln), .bl c.op, c.pre]
def lawT (t : Tab) : D := .tup [.str t.nm, .lst (pairsD t.ids), .lst (t.cs.map lawC)]
def actsOf (o : Bool) (p : D) : List Str := (["cascade", "cascade", "restrict", "no_action"] : List Str) ++ (if o then (["set_null", "set_null"] : List Str) else []) ++ (if o || !p.isNon then (["set_default"] : List Str) else [])
def acts3 : List Str := ["cascade", "restrict", "no_action"]
def wN : List Str := ["a", "b", "c", "d", "e", "aa", "bb", "cc", "dd", "ee", "f", "g", "h"]
def titN : List Str := ["x", "y", "z"]
structure GoodC (c : Col) : Prop where
  ti : c.ti ∈ titN
  nd : (c.ln.map (·.1)).Nodup
  len : c.ln.length ≤ 3
  mem : ∀ q ∈ c.ln, q.1 ∈ wN ∧ q.2 ∈ actsOf c.op c.pre
  pre : c.pre = .non ∨ c.pre = .int 0 ∨ c.pre = .int 1 ∨ c.pre = .int 3
structure GoodT (t : Tab) : Prop where
  nm : t.nm ∈ wN
  nd : (t.ids.map (·.1)).Nodup
  len : t.ids.length ≤ 4
  mem : ∀ q ∈ t.ids, q.1 ∈ wN ∧ q.1 ≠ t.nm ∧ q.2 ∈ acts3
  cols : ∀ c ∈ t.cs, GoodC c
  tnd : (t.cs.map (·.ti)).Nodup
  clen : t.cs.length ≤ 3
theorem fst_pairs (ps : List (Str × Str)) : (pairsD ps).map fstS = ps.map (·.1) := by
  unfold pairsD
  rw [List.map_map]
  exact List.map_congr_left fun p _ => rfl
theorem acts_all {o : Bool} {p : D} {x : Str} (h : x ∈ actsOf o p) : x ∈ acts := by
  have hs : ∀ (o b : Bool), ∀ x ∈ ((["cascade", "cascade", "restrict", "no_action"] : List Str) ++ (if o then (["set_null", "set_null"] : List Str) else []) ++ (if o || b then (["set_default"] : List Str) else [])), x ∈ acts := by decide +kernel
  exact hs o (!p.isNon) x h
theorem pair_wt : ∀ a ∈ wN, ∀ b ∈ acts, (D.tup [.str a, .str b]).wt ≤ 2000 ∧ (D.tup [.str a, .str b]).dep ≤ 5 := by decide +kernel
theorem wtL_le {n : Nat} : ∀ {ds : List D}, (∀ d ∈ ds, d.wt ≤ n) → D.wtL ds ≤ (n + 10) * ds.length + 10
  | [], _ => by simp [D.wtL]
  | d :: ds, h => by
    have a := h d List.mem_cons_self
    have b := wtL_le fun e he => h e (List.mem_cons_of_mem _ he)
    simp only [D.wtL, List.length_cons, Nat.mul_add, Nat.mul_one]
    omega
theorem depL_le {n : Nat} : ∀ {ds : List D}, (∀ d ∈ ds, d.dep ≤ n) → D.depL ds ≤ n
  | [], _ => Nat.zero_le _
  | d :: ds, h => by
    have a := h d List.mem_cons_self
    have b := depL_le fun e he => h e (List.mem_cons_of_mem _ he)
    simp only [D.depL]
    omega
theorem GoodC.out {c : Col} (g : GoodC c) : colOut (.str c.ti) (pairsD c.ln) (.bl c.op) c.pre = .ok := by
  have h1 : ∀ t ∈ titN, isNameD (.str t) = true ∧ (D.str t).isStr "id" = false := by decide +kernel
  obtain ⟨a1, a2⟩ := h1 c.ti g.ti
  have h2 : ∀ a ∈ wN, isNameD (.str a) = true := by decide +kernel
  have hs : ∀ (o : Bool), ∀ q ∈ [D.non, .int 0, .int 1, .int 3], ∀ x ∈ actsOf o q, mayD (.str x) o q = true := by decide +kernel
  have hp : c.pre ∈ [D.non, .int 0, .int 1, .int 3] := by simpa using g.pre
  have hl : (pairsD c.ln).find? (badL c.op c.pre) = none := by
    rw [List.find?_eq_none]
    intro d hd
    obtain ⟨q, hq, rfl⟩ := List.mem_map.mp hd
    obtain ⟨b1, b2⟩ := g.mem q hq
    have c1 := h2 _ b1
    have c2 := hs c.op c.pre hp _ b2
    simp [badL, isLinkD, sndD, c1, c2]
  have hd : (c.pre.isNon || isIntD c.pre) = true := by
    rcases g.pre with e | e | e | e <;> rw [e] <;> rfl
  have hl4 : ¬ 4 < (pairsD c.ln).length := by
    have := g.len
    unfold pairsD
    rw [List.length_map]
    omega
  unfold colOut
  rw [fst_pairs]
  simp [-D.isNon, a1, a2, isBlD, hd, blOf, hl, g.nd, hl4]
theorem pairs_sz {ps : List (Str × Str)} (h : ∀ q ∈ ps, q.1 ∈ wN ∧ q.2 ∈ acts) (hl : ps.length ≤ 4) : (D.tup (pairsD ps)).wt < 20000 ∧ (D.tup (pairsD ps)).dep ≤ 10 := by
  have a : ∀ d ∈ pairsD ps, d.wt ≤ 2000 ∧ d.dep ≤ 5 := fun d hd => by
    obtain ⟨q, hq, rfl⟩ := List.mem_map.mp hd
    exact pair_wt _ (h q hq).1 _ (h q hq).2
  have b := wtL_le fun d hd => (a d hd).1
  have c := depL_le fun d hd => (a d hd).2
  have e : (pairsD ps).length ≤ 4 := by simpa [pairsD] using hl
  simp only [D.wt, D.dep]
  omega
theorem GoodC.okq {c : Col} (g : GoodC c) : okQ (colQ c) := by
  have h1 : ∀ t ∈ titN, (D.str t).wt < 1000 := by decide +kernel
  have h9 : ∀ q ∈ [D.non, .int 0, .int 1, .int 3], q.wt < 100000 ∧ q.dep ≤ 50 := by decide +kernel
  obtain ⟨p1, p2⟩ := h9 c.pre (by simpa using g.pre)
  obtain ⟨w1, w2⟩ := pairs_sz (fun q hq => ⟨(g.mem q hq).1, acts_all (g.mem q hq).2⟩) (by have := g.len; omega)
  refine ⟨c.ti, pairsD c.ln, .bl c.op, c.pre, rfl, ⟨?_, by simp [D.wt], p1, by omega, by simp [D.dep], p2, by omega, ?_⟩, g.out⟩
  · have := h1 _ g.ti
    omega
  · have := g.len
    simp [pairsD]
    omega
theorem acts3_all : ∀ x ∈ acts3, x ∈ acts := by decide +kernel
theorem GoodT.ok {t : Tab} (g : GoodT t) : OkT t := by
  have h1 : ∀ t ∈ wN, isNameD (.str t) = true ∧ (D.str t).wt < 1000 := by decide +kernel
  obtain ⟨a1, a2⟩ := h1 _ g.nm
  obtain ⟨w1, w2⟩ := pairs_sz (fun q hq => ⟨(g.mem q hq).1, acts3_all _ (g.mem q hq).2.2⟩) g.len
  refine ⟨fun c hc => (g.cols c hc).okq, ?_, by omega, by omega, g.len, g.clen, fun c hc => by have := (g.cols c hc).len; omega⟩
  have hs : ∀ x ∈ acts3, mayD (.str x) false .non = true := by decide +kernel
  have hl : (pairsD t.ids).find? (badL false .non) = none := by
    rw [List.find?_eq_none]
    intro d hd
    obtain ⟨q, hq, rfl⟩ := List.mem_map.mp hd
    obtain ⟨b1, _, b2⟩ := g.mem q hq
    have c1 := (h1 _ b1).1
    have c2 := hs _ b2
    simp [badL, isLinkD, sndD, c1, c2]
  have e : (t.cs.map colQ).map (fun q => strOf q.1) = t.cs.map (·.ti) := by
    rw [List.map_map]
    exact List.map_congr_left fun c _ => rfl
  have hl4 : ¬ 4 < (pairsD t.ids).length := by
    have := g.len
    unfold pairsD
    rw [List.length_map]
    omega
  have hnm : t.nm ∉ t.ids.map (·.1) := fun hm => by
    obtain ⟨q, hq, e⟩ := List.mem_map.mp hm
    exact (g.mem q hq).2.1 e
  have hl3 : ¬ 3 < (t.cs.map colQ).length := by have := g.clen; simp; omega
  unfold tabOut
  rw [a1, hl, e, fst_pairs]
  simp only [strOf_str, g.nd, g.tnd, hnm, hl4, hl3, decide_true, decide_false, Bool.not_true, Bool.or_false, Bool.false_eq_true, if_false]
abbrev s__law_links : Stmt := top 41
abbrev N__law_links : List Str := ["_law_bag_here", "_law_names_here", "_law_actions", "_law_most", "_law_left", "_law_found", "_law_turn"]
theorem sc__law_links : FnScope N__law_links ["_law_bag_here", "_law_names_here", "_law_actions", "_law_most"] (defScope s__law_links) := ⟨rfl, rfl, rfl, by decide +kernel, rfl, by decide +kernel, by decide +kernel⟩
def ct__law_links : Ct := Ct.ex 9 (fun t : List Str × List Str × Nat => [none, some (.lst (t.1.map .str)), some (.lst (t.2.1.map .str)), some (.int t.2.2)]) (fun t => t.1.Nodup ∧ t.1.length ≤ 5 ∧ 0 < t.2.1.length ∧ t.2.1.length ≤ 20) (fun t z => ∃ ps : List (Str × Str), z = .lst (pairsD ps) ∧ (ps.map (·.1)).Nodup ∧ ps.length ≤ 4 ∧ ps.length ≤ t.2.2 ∧ ∀ p ∈ ps, p.1 ∈ t.1 ∧ p.2 ∈ t.2.1) (fun _ _ => False)
theorem ok__law_links {P : Program} {w : World} {K : PySem.W.Frag} {mg : Str → Option Value} {base : Heap} {f : Addr} {fd : FuncData} (F : FunD K "_law_links" "_law_links" (defArgs s__law_links) (defBody s__law_links) (defScope s__law_links) [] [] f fd) (F__law_of : FnG P w K mg base 2 "_law_of" 2 (ct__law_of )) (F__law_take : FnG P w K mg base 1 "_law_take" 2 (ctTake )) (m_len : mg "len" = none) (m_list : mg "list" = none) (m_range : mg "range" = none) : Fd P w K mg base 3 f fd ["_law_bag_here", "_law_names_here", "_law_actions", "_law_most"] (spC K 4 (ct__law_links )) := by
  have nd := sc__law_links.nd
  refine fd_body (N := N__law_links) (ct := ct__law_links ) F sc__law_links (fun cdv A outer s H E hr hG tk pw => have hu := Room.units hr; have hv := room_u hr; (pdss_cons (pds_parLL (i := 4) (j := 5) rfl nd rfl rfl (by decide) rfl rfl (pdl_list (by rfl) m_list (av 1 pda_nil)) (pdl_lst pda_nil) (by rfl))
    (pdss_cons (pds_for pw rfl (pdi_range (by rfl) m_range (pda_cons (dcall F__law_of hr (by decide) hG tk (av 0 (pda_cons (pd_L (pdl_lst (pda_cons pd_int (pda_cons pd_int (pda_cons pd_int (pda_cons pd_int (pda_cons pd_int (pda_cons pd_int (pda_cons pd_int pda_nil))))))))) pda_nil))) pda_nil)) (pdg_name (i := 6) nd rfl (by first | exact .inl rfl | exact .inr rfl)) (pdss_one (pds_if (pdt_w (pdw_and (pdt_neNil (i := 4) hu rfl (by first | exact .inl rfl | exact .inr (.inl rfl) | exact .inr (.inr rfl))) (pdw_and1 (pdt_cmp op_lt snd_lt (pd_lenV (i := 5) rfl (by first | exact .inl rfl | exact .inr (.inl rfl) | exact .inr (.inr rfl)) (by rfl) m_len) (dv 3))))) (pdss_one (pds_expr (pd_append (i := 5) rfl (.inl rfl) (pda_cons (pd_tup (pda_cons (pd_popAt (i := 4) rfl (.inl rfl) (pda_cons (dcall F__law_take hr (by decide) hG tk (av 0 (pda_cons (pd_lenV (i := 4) rfl (by first | exact .inl rfl | exact .inr (.inl rfl) | exact .inr (.inr rfl)) (by rfl) m_len) pda_nil))) pda_nil)) (pda_cons (dcall F__law_of hr (by decide) hG tk (av 0 (av 2 pda_nil))) pda_nil))) pda_nil)))) pdss_nil)))
    (pdss_one (pds_ret (dv 5)))))) ?_
  rintro as Q E hl ⟨⟨ns, ac, mo⟩, rfl, ⟨h0, h1, h2, h3⟩, q, -⟩
  dsimp only at h0 h1 h2 h3 q
  simp [ctTake, ct__law_of, ct__law_links, Ct.ex]
  refine ⟨?_, ?_, ?_, ?_, ?_⟩
  all_goals
    refine loopD_inv (fun ds sv => ∃ (m : Nat) (left : List Str) (ps : List (Str × Str)) (s : Sl), sv = [.bag m, .dat (.lst (ns.map .str)), .dat (.lst (ac.map .str)), .dat (.int mo), .own (left.map .str), .own (pairsD ps), s] ∧ 2 * ds.length ≤ m ∧ ps.length + ds.length ≤ 4 ∧ (left ++ ps.map (·.1)).Nodup ∧ (∀ x ∈ left ++ ps.map (·.1), x ∈ ns) ∧ (∀ p ∈ ps, p.2 ∈ ac) ∧ left.length ≤ 5 ∧ ps.length ≤ mo)
      ⟨8, ns, [], .un, rfl, by simp, by simp, by simpa using h0, by simp, by simp, h1, by simp⟩ ?_ ?_
    · rintro sv ⟨m, left, ps, s, rfl, i1, i2, i3, i4, i5, i6, i7⟩
      refine q _ ⟨ps, rfl, (List.nodup_append.mp i3).2.1, by simpa using i2, i7, fun p hp => ⟨i4 _ (List.mem_append_right _ (List.mem_map_of_mem hp)), i5 p hp⟩⟩
    · rintro d r sv ⟨m, left, ps, s, rfl, i1, i2, i3, i4, i5, i6, i7⟩ nx hnx
      rw [List.length_cons] at i1 i2
      obtain ⟨pl, hpl⟩ : ∃ pl, D.pyL (left.map .str) = some pl := ⟨_, pyL_strs left⟩
      have skip : nx [.bag m, .dat (.lst (ns.map .str)), .dat (.lst (ac.map .str)), .dat (.int mo), .own (left.map .str), .own (pairsD ps), .dat d] := hnx _ ⟨m, left, ps, _, rfl, by omega, by omega, i3, i4, i5, i6, i7⟩
      simp [dOwnNil]
      refine ⟨⟨pl, hpl⟩, ?_⟩
      by_cases c : left = []
      · exact .inl ⟨c, skip⟩
      · refine .inr ⟨c, ?_⟩
        by_cases rm : (pairsD ps).length < mo
        rotate_left
        · rw [if_neg rm]
          exact skip
        rw [if_pos rm]
        have rm2 : ps.length < mo := by simpa [pairsD] using rm
        have c1 : 0 < left.length := List.length_pos_iff.mpr c
        refine ⟨by omega, c1, by omega, fun j hj0 hj1 => ?_⟩
        obtain ⟨n, rfl⟩ := Int.eq_ofNat_of_zero_le hj0
        have hn : n < left.length := by omega
        refine ⟨by omega, by omega, n, by simp [seqIndex?, hn, show ¬ ((n : Int) < 0) by omega], .str left[n], ⟨_, List.getElem?_eq_getElem hn, rfl⟩, by omega, ⟨h2, by omega⟩, fun a ha => ⟨by simp [pairsD]; omega, hnx _ ⟨m - 1 - 1, left.eraseIdx n, ps ++ [(left[n], a)], .dat d, by rw [map_erase]; simp [pairsD], by omega, by simp; omega, ?_, ?_, ?_, ?_, by simp; omega⟩⟩⟩
        · have pm : (left.eraseIdx n ++ (ps ++ [(left[n], a)]).map (·.1)).Perm (left ++ ps.map (·.1)) := by
            rw [List.map_append, ← List.append_assoc]
            exact List.perm_append_comm.trans ((erase_perm hn).append_right _)
          exact pm.nodup_iff.mpr i3
        · intro x hx
          rw [List.map_append, List.mem_append, List.mem_append] at hx
          rcases hx with hx | hx | hx
          · exact i4 _ (List.mem_append_left _ (List.mem_of_mem_eraseIdx hx))
          · exact i4 _ (List.mem_append_right _ hx)
          · obtain rfl : x = left[n] := by simpa using hx
            exact i4 _ (List.mem_append_left _ (List.getElem_mem hn))
        · intro p hp
          rcases List.mem_append.mp hp with hp | hp
          · exact i5 p hp
          · obtain rfl : p = (left[n], a) := by simpa using hp
            exact ha
        · rw [List.length_eraseIdx_of_lt hn]
          omega

theorem fg__law_links {P : Program} {w : World} {K : PySem.W.Frag} {mg : Str → Option Value} {base : Heap} {f : Addr} {fd : FuncData} (F : FunD K "_law_links" "_law_links" (defArgs s__law_links) (defBody s__law_links) (defScope s__law_links) [] [] f fd) (hm : mg "_law_links" = some (.ref f)) (F__law_of : FnG P w K mg base 2 "_law_of" 2 (ct__law_of )) (F__law_take : FnG P w K mg base 1 "_law_take" 2 (ctTake )) (m_len : mg "len" = none) (m_list : mg "list" = none) (m_range : mg "range" = none) : FnG P w K mg base 3 "_law_links" 4 (ct__law_links ) :=
  fnG_of F sc__law_links hm (ok__law_links F F__law_of F__law_take m_len m_list m_range) (F.bindsN fun _ _ _ _ _ _ us hl => match us, hl with | [_, _, _, _], _ => rfl) Ct.ex_mono
abbrev s__law_column : Stmt := top 42
abbrev N__law_column : List Str := ["_law_bag_here", "_law_title", "_law_names_here", "_law_room", "_law_is_open", "_law_preset", "_law_actions"]
theorem sc__law_column : FnScope N__law_column ["_law_bag_here", "_law_title", "_law_names_here", "_law_room"] (defScope s__law_column) := ⟨rfl, rfl, rfl, by decide +kernel, rfl, by decide +kernel, by decide +kernel⟩
def ct__law_column : Ct := Ct.ex 11 (fun t : Str × List Str × Nat => [none, some (.str t.1), some (.lst (t.2.1.map .str)), some (.int t.2.2)]) (fun t => t.1 ∈ titN ∧ t.2.1.Nodup ∧ t.2.1.length ≤ 5 ∧ (∀ n ∈ t.2.1, n ∈ wN) ∧ t.2.2 ≤ 3) (fun t z => ∃ c : Col, z = lawC c ∧ c.ti = t.1 ∧ GoodC c ∧ c.ln.length ≤ t.2.2 ∧ ∀ p ∈ c.ln, p.1 ∈ t.2.1) (fun _ _ => False)
theorem ok__law_column {P : Program} {w : World} {K : PySem.W.Frag} {mg : Str → Option Value} {base : Heap} {f : Addr} {fd : FuncData} (F : FunD K "_law_column" "_law_column" (defArgs s__law_column) (defBody s__law_column) (defScope s__law_column) [] [] f fd) (F__law_links : FnG P w K mg base 3 "_law_links" 4 (ct__law_links )) (F__law_of : FnG P w K mg base 2 "_law_of" 2 (ct__law_of )) (F__law_take : FnG P w K mg base 1 "_law_take" 2 (ctTake )) : Fd P w K mg base 4 f fd ["_law_bag_here", "_law_title", "_law_names_here", "_law_room"] (spC K 4 (ct__law_column )) := by
  have nd := sc__law_column.nd
  refine fd_body (N := N__law_column) (ct := ct__law_column ) F sc__law_column (fun cdv A outer s H E hr hG tk pw => have hu := Room.units hr; have hv := room_u hr; (pdss_cons (pds_parDD (i := 4) (j := 5) rfl nd rfl rfl (by decide) rfl rfl (pd_cmp op_gt snd_gt (dcall F__law_take hr (by decide) hG tk (av 0 (pda_cons pd_int pda_nil))) pd_int) (dcall F__law_of hr (by decide) hG tk (av 0 (pda_cons (pd_L (pdl_lst (pda_cons pd_non (pda_cons pd_non (pda_cons pd_int (pda_cons pd_int pda_nil)))))) pda_nil))) (by rfl))
    (pdss_cons (pds_set (i := 6) nd rfl (by first | exact .inl rfl | exact .inr rfl) (pd_L (pdl_lst (pda_cons pd_str (pda_cons pd_str (pda_cons pd_str (pda_cons pd_str pda_nil)))))))
    (pdss_cons (pds_if (pdt_tru (dv 4)) (pdss_one (pds_set (i := 6) nd rfl (by first | exact .inl rfl | exact .inr rfl) (pd_add (dv 6) (pd_L (pdl_lst (pda_cons pd_str (pda_cons pd_str pda_nil))))))) pdss_nil)
    (pdss_cons (pds_if (pdt_w (pdw_or (pdt_tru (dv 4)) (pdw_or1 (pdt_cmp op_notN1 snd_notN (dv 5) pd_non)))) (pdss_one (pds_set (i := 6) nd rfl (by first | exact .inl rfl | exact .inr rfl) (pd_add (dv 6) (pd_L (pdl_lst (pda_cons pd_str pda_nil)))))) pdss_nil)
    (pdss_one (pds_ret (pd_tup (av 1 (pda_cons (dcall F__law_links hr (by decide) hG tk (av 0 (av 2 (av 6 (av 3 pda_nil))))) (av 4 (av 5 pda_nil)))))))))))) ?_
  rintro as Q E hl ⟨⟨t, ns, mo⟩, rfl, ⟨h00, h0, h1, h01, h02⟩, q, -⟩
  dsimp only at h00 h0 h1 h01 h02 q
  simp [-Bool.exists_bool, ct__law_column, Ct.ex]
  refine ⟨show 1 ≤ 11 by omega, 3, rfl, by decide, by decide, fun j hj0 hj1 => ?_⟩
  simp [-Bool.exists_bool, ct__law_column, Ct.ex]
  refine ⟨by decide, Ct.exI [.non, .non, .int 0, .int 1] rfl ⟨by decide, by decide⟩ (fun d hd => ?_) fun _ z => z.elim⟩
  have hd0 : d = .non ∨ d = .int 0 ∨ d = .int 1 := by simpa using hd
  have fin : ∀ (o : Bool) (ac : List Str), ac = actsOf o d → 0 < ac.length ∧ ac.length ≤ 20 ∧ ∀ z, (∃ ps : List (Str × Str), z = .lst (pairsD ps) ∧ (ps.map (·.1)).Nodup ∧ ps.length ≤ 4 ∧ ps.length ≤ mo ∧ ∀ p ∈ ps, p.1 ∈ ns ∧ p.2 ∈ ac) → Q (.tup [.str t, z, .bl o, d]) := by
    rintro o ac rfl
    refine ⟨by simp [actsOf], by unfold actsOf; cases o <;> cases d.isNon <;> decide, ?_⟩
    rintro z ⟨ps, rfl, e2, e3, e4, e5⟩
    exact q _ ⟨⟨t, ps, o, d⟩, rfl, rfl, ⟨h00, e2, by dsimp only; omega, fun p hp => ⟨h01 _ (e5 p hp).1, (e5 p hp).2⟩, by rcases hd0 with e | e | e <;> simp [e]⟩, e4, fun p hp => (e5 p hp).1⟩
  by_cases hj : 0 < j
  · simp [-Bool.exists_bool, hj]
    obtain ⟨f1, f2, f3⟩ := fin true _ rfl
    exact ⟨by decide, Ct.exI (ns, actsOf true d, mo) rfl ⟨h0, h1, f1, f2⟩ f3 fun _ z => z.elim⟩
  · simp [-Bool.exists_bool, hj]
    obtain ⟨f1, f2, f3⟩ := fin false _ rfl
    rcases hd0 with rfl | rfl | rfl
    · exact ⟨false, rfl, by decide, Ct.exI (ns, actsOf false .non, mo) rfl ⟨h0, h1, f1, f2⟩ f3 fun _ z => z.elim⟩
    · exact ⟨true, rfl, by decide, Ct.exI (ns, actsOf false (.int 0), mo) rfl ⟨h0, h1, f1, f2⟩ f3 fun _ z => z.elim⟩
    · exact ⟨true, rfl, by decide, Ct.exI (ns, actsOf false (.int 1), mo) rfl ⟨h0, h1, f1, f2⟩ f3 fun _ z => z.elim⟩

theorem fg__law_column {P : Program} {w : World} {K : PySem.W.Frag} {mg : Str → Option Value} {base : Heap} {f : Addr} {fd : FuncData} (F : FunD K "_law_column" "_law_column" (defArgs s__law_column) (defBody s__law_column) (defScope s__law_column) [] [] f fd) (hm : mg "_law_column" = some (.ref f)) (F__law_links : FnG P w K mg base 3 "_law_links" 4 (ct__law_links )) (F__law_of : FnG P w K mg base 2 "_law_of" 2 (ct__law_of )) (F__law_take : FnG P w K mg base 1 "_law_take" 2 (ctTake )) : FnG P w K mg base 4 "_law_column" 4 (ct__law_column ) :=
  fnG_of F sc__law_column hm (ok__law_column F F__law_links F__law_of F__law_take) (F.bindsN fun _ _ _ _ _ _ us hl => match us, hl with | [_, _, _, _], _ => rfl) Ct.ex_mono
abbrev s__law_names : Stmt := top 44
abbrev N__law_names : List Str := ["_law_tables", "_law_name", "_law_own_ids", "_law_columns"]
theorem sc__law_names : FnScope N__law_names ["_law_tables"] (defScope s__law_names) := ⟨rfl, rfl, rfl, by decide +kernel, rfl, by decide +kernel, by decide +kernel⟩
def ct__law_names : Ct := Ct.ex 0 (fun ts : List Tab => [some (.lst (ts.map lawT))]) (fun ts => ts.length ≤ 1000) (fun ts z => z = .lst (ts.map fun t => .str t.nm)) (fun _ _ => False)
theorem ok__law_names {P : Program} {w : World} {K : PySem.W.Frag} {mg : Str → Option Value} {base : Heap} {f : Addr} {fd : FuncData} (F : FunD K "_law_names" "_law_names" (defArgs s__law_names) (defBody s__law_names) (defScope s__law_names) [] [] f fd)  : Fd P w K mg base 1 f fd ["_law_tables"] (spC K 1 (ct__law_names )) := by
  have nd := sc__law_names.nd
  refine fd_body (N := N__law_names) (ct := ct__law_names ) F sc__law_names (fun cdv A outer s H E hr hG tk pw => have hu := Room.units hr; have hv := room_u hr; (pdss_one (pds_ret (pd_L (pdl_lc (own := [("_law_name", 1), ("_law_own_ids", 2), ("_law_columns", 3)]) rfl nd (blkOk_by (by kernel_rfl)) (pdi_any (dv 0)) (fun i => (pdgw_tup (n := 3) rfl (pdgsw_cons (pdgw_name (i := 1) nd rfl (by first | exact .inl rfl | exact .inr rfl) (by decide)) (pdgsw_cons (pdgw_name (i := 2) nd rfl (by first | exact .inl rfl | exact .inr rfl) (by decide)) (pdgsw_cons (pdgw_name (i := 3) nd rfl (by first | exact .inl rfl | exact .inr rfl) (by decide)) pdgsw_nil))))) (fun i => pdts_nil) (fun i => (dv 1))))))) ?_
  rintro as Q E hl ⟨ts, rfl, hw, q, -⟩
  have q := q _ rfl
  simp [-Bool.exists_bool]
  refine goLc_mapl lawT (fun t : Tab => .str t.nm) (by simp; omega) (fun t ht T N hT => by simp [-Bool.exists_bool, lawT]; exact ⟨_, _, ⟨rfl, rfl⟩, _, _, rfl, _, _, rfl, rfl, hT⟩) (by simpa using q)

theorem fg__law_names {P : Program} {w : World} {K : PySem.W.Frag} {mg : Str → Option Value} {base : Heap} {f : Addr} {fd : FuncData} (F : FunD K "_law_names" "_law_names" (defArgs s__law_names) (defBody s__law_names) (defScope s__law_names) [] [] f fd) (hm : mg "_law_names" = some (.ref f))  : FnG P w K mg base 1 "_law_names" 1 (ct__law_names ) :=
  fnG_of F sc__law_names hm (ok__law_names F ) (F.bindsN fun _ _ _ _ _ _ us hl => match us, hl with | [_], _ => rfl) Ct.ex_mono
end K3
end
section
set_option autoImplicit true
set_option Elab.async false
set_option linter.all false
set_option maxRecDepth 100000
set_option maxHeartbeats 4000000
namespace K3
open PySem PySem.Spec PyProof.Rows L2 Pd
open Pg Pf
def refL (t : Tab) : List (Str × Str × Str × Str) := (linksOf t).flatMap fun l => l.2.map fun p => (t.nm, l.1, p.1, p.2)
def refD (r : Str × Str × Str × Str) : D := .tup [.tup [.str r.1, .str r.2.1, .str r.2.2.1], .str r.2.2.2]
theorem refL_refT (t : Tab) : refT t = (refL t).map fun r => (([.inr r.1, .inr r.2.1, .inr r.2.2.1] : List Key), D.str r.2.2.2) := by
  unfold refT refL
  rw [List.map_flatMap]
  simp [List.map_map, Function.comp_def]
theorem refL_refS (ts : List Tab) : refS ts = (ts.flatMap refL).map fun r => (([.inr r.1, .inr r.2.1, .inr r.2.2.1] : List Key), D.str r.2.2.2) := by
  unfold refS
  rw [List.map_flatMap]
  congr 1
  funext t
  exact refL_refT t
theorem refL_tgts (t : Tab) : (refL t).map (·.2.2.1) = tgts t := by
  unfold refL tgts
  rw [List.map_flatMap]
  simp [List.map_map, Function.comp_def]
theorem refL_len {ts : List Tab} (h : ∀ t ∈ ts, OkT t) : (ts.flatMap refL).length ≤ 16 * ts.length := by
  have := refS_len h
  rw [refL_refS, List.length_map] at this
  exact this
abbrev s__law_titles : Stmt := top 45
abbrev N__law_titles : List Str := ["_law_tables", "_law_home", "_law_found", "_law_name", "_law_own_ids", "_law_columns", "_law_title", "_law_links_here", "_law_is_open", "_law_preset"]
theorem sc__law_titles : FnScope N__law_titles ["_law_tables", "_law_home"] (defScope s__law_titles) := ⟨rfl, rfl, rfl, by decide +kernel, rfl, by decide +kernel, by decide +kernel⟩
def ct__law_titles : Ct := Ct.ex 0 (fun t : List Tab × Tab => [some (.lst (t.1.map lawT)), some (.str t.2.nm)]) (fun t => t.1.length ≤ 1000 ∧ t.2 ∈ t.1 ∧ (∀ b ∈ t.1, b.cs.length ≤ 3 ∧ (b.nm = t.2.nm → b = t.2))) (fun t z => z = .lst (t.2.cs.map fun c => .str c.ti)) (fun _ _ => False)
theorem ok__law_titles {P : Program} {w : World} {K : PySem.W.Frag} {mg : Str → Option Value} {base : Heap} {f : Addr} {fd : FuncData} (F : FunD K "_law_titles" "_law_titles" (defArgs s__law_titles) (defBody s__law_titles) (defScope s__law_titles) [] [] f fd)  : Fd P w K mg base 1 f fd ["_law_tables", "_law_home"] (spC K 2 (ct__law_titles )) := by
  have nd := sc__law_titles.nd
  refine fd_body (N := N__law_titles) (ct := ct__law_titles ) F sc__law_titles (fun cdv A outer s H E hr hG tk pw => have hu := Room.units hr; have hv := room_u hr; (pdss_cons (pds_set (i := 2) nd rfl (by first | exact .inl rfl | exact .inr rfl) (pd_L (pdl_lst pda_nil)))
    (pdss_cons (pds_for pw rfl (pdi_any (dv 0)) (pdg_tup (n := 3) rfl (pdgs_cons (pdg_name (i := 3) nd rfl (by first | exact .inl rfl | exact .inr rfl)) (pdgs_cons (pdg_name (i := 4) nd rfl (by first | exact .inl rfl | exact .inr rfl)) (pdgs_cons (pdg_name (i := 5) nd rfl (by first | exact .inl rfl | exact .inr rfl)) pdgs_nil)))) (pdss_one (pds_if (pdt_cmp (op_eqP hu) snd_eq (dv 3) (dv 1)) (pdss_one (pds_setLc (i := 2) (own := [("_law_title", 6), ("_law_links_here", 7), ("_law_is_open", 8), ("_law_preset", 9)]) rfl nd rfl rfl (sw_true rfl rfl rfl rfl) (blkOk_by (by kernel_rfl)) (pdi_any (dv 5)) (fun i => (pdgw_tup (n := 4) rfl (pdgsw_cons (pdgw_name (i := 6) nd rfl (by first | exact .inl rfl | exact .inr rfl) (by decide)) (pdgsw_cons (pdgw_name (i := 7) nd rfl (by first | exact .inl rfl | exact .inr rfl) (by decide)) (pdgsw_cons (pdgw_name (i := 8) nd rfl (by first | exact .inl rfl | exact .inr rfl) (by decide)) (pdgsw_cons (pdgw_name (i := 9) nd rfl (by first | exact .inl rfl | exact .inr rfl) (by decide)) pdgsw_nil)))))) (fun i => pdts_nil) (fun i => (dv 6)))) pdss_nil)))
    (pdss_one (pds_ret (dv 2)))))) ?_
  rintro as Q E hl ⟨⟨ts, t⟩, rfl, ⟨hw, hm, hb⟩, q, -⟩
  have q := q _ rfl
  dsimp only at hw hm hb q
  simp [-Bool.exists_bool]
  let F : Sl → Prop := fun s => s = .own (t.cs.map fun c => .str c.ti) ∨ s = .dat (.lst (t.cs.map fun c => .str c.ti))
  refine loopD_inv (fun ds sv => ∃ (r : List Tab) (s2 s3 s4 s5 : Sl), ds = r.map lawT ∧ sv = [.dat (.lst (ts.map lawT)), .dat (.str t.nm), s2, s3, s4, s5, .un, .un, .un, .un] ∧ (t ∈ r ∨ F s2) ∧ ∀ b ∈ r, b.cs.length ≤ 3 ∧ (b.nm = t.nm → b = t)) ⟨ts, _, _, _, _, rfl, rfl, .inl hm, hb⟩ ?_ ?_
  · rintro sv ⟨r, s2, s3, s4, s5, e, rfl, hf, _⟩
    obtain rfl : r = [] := by simpa using e.symm
    rcases hf with hf | hf
    · cases hf
    · rcases hf with rfl | rfl <;> simpa using q
  · rintro d r0 sv ⟨r, s2, s3, s4, s5, e, rfl, hf, hb⟩ nx hnx
    match r, e, hf, hb with
    | b :: r, e, hf, hb =>
    simp only [List.map_cons, List.cons.injEq] at e
    obtain ⟨rfl, rfl⟩ := e
    obtain ⟨b1, b2⟩ := hb b List.mem_cons_self
    have hb' : ∀ x ∈ r, x.cs.length ≤ 3 ∧ (x.nm = t.nm → x = t) := fun x hx => hb x (List.mem_cons_of_mem _ hx)
    simp [-Bool.exists_bool, lawT]
    refine ⟨_, _, ⟨rfl, rfl⟩, _, _, rfl, _, _, rfl, rfl, ?_⟩
    simp [-Bool.exists_bool, eqvSS]
    by_cases c : b.nm = t.nm
    · rw [if_pos c]
      obtain rfl := b2 c
      refine goLc_mapl lawC (fun c : Col => .str c.ti) (by simp; omega) (fun c hc T N hT => by simp [-Bool.exists_bool, lawC]; exact ⟨_, _, ⟨rfl, rfl⟩, _, _, rfl, _, _, rfl, _, _, rfl, rfl, hT⟩) ?_
      simp
      exact hnx _ ⟨r, _, _, _, _, rfl, rfl, .inr (.inl rfl), hb'⟩
    · rw [if_neg c]
      refine hnx _ ⟨r, _, _, _, _, rfl, rfl, ?_, hb'⟩
      rcases hf with hf | hf
      · rcases List.mem_cons.mp hf with e | hf
        · exact absurd (by rw [e]) c
        · exact .inl hf
      · exact .inr hf

theorem fg__law_titles {P : Program} {w : World} {K : PySem.W.Frag} {mg : Str → Option Value} {base : Heap} {f : Addr} {fd : FuncData} (F : FunD K "_law_titles" "_law_titles" (defArgs s__law_titles) (defBody s__law_titles) (defScope s__law_titles) [] [] f fd) (hm : mg "_law_titles" = some (.ref f))  : FnG P w K mg base 1 "_law_titles" 2 (ct__law_titles ) :=
  fnG_of F sc__law_titles hm (ok__law_titles F ) (F.bindsN fun _ _ _ _ _ _ us hl => match us, hl with | [_, _], _ => rfl) Ct.ex_mono
abbrev s__law_references : Stmt := top 46
abbrev N__law_references : List Str := ["_law_tables", "_law_found", "_law_name", "_law_own_ids", "_law_columns", "_law_title", "_law_links_here", "_law_is_open", "_law_preset", "_law_aim", "_law_deed"]
theorem sc__law_references : FnScope N__law_references ["_law_tables"] (defScope s__law_references) := ⟨rfl, rfl, rfl, by decide +kernel, rfl, by decide +kernel, by decide +kernel⟩
def ct__law_references : Ct := Ct.ex 0 (fun ts : List Tab => [some (.lst (ts.map lawT))]) (fun ts => ts.length ≤ 100 ∧ ∀ t ∈ ts, OkT t) (fun ts z => z = .lst ((ts.flatMap refL).map refD)) (fun _ _ => False)
theorem ok__law_references {P : Program} {w : World} {K : PySem.W.Frag} {mg : Str → Option Value} {base : Heap} {f : Addr} {fd : FuncData} (F : FunD K "_law_references" "_law_references" (defArgs s__law_references) (defBody s__law_references) (defScope s__law_references) [] [] f fd)  : Fd P w K mg base 1 f fd ["_law_tables"] (spC K 1 (ct__law_references )) := by
  have nd := sc__law_references.nd
  refine fd_body (N := N__law_references) (ct := ct__law_references ) F sc__law_references (fun cdv A outer s H E hr hG tk pw => have hu := Room.units hr; have hv := room_u hr; (pdss_cons (pds_set (i := 1) nd rfl (by first | exact .inl rfl | exact .inr rfl) (pd_L (pdl_lst pda_nil)))
    (pdss_cons (pds_for pw rfl (pdi_any (dv 0)) (pdg_tup (n := 3) rfl (pdgs_cons (pdg_name (i := 2) nd rfl (by first | exact .inl rfl | exact .inr rfl)) (pdgs_cons (pdg_name (i := 3) nd rfl (by first | exact .inl rfl | exact .inr rfl)) (pdgs_cons (pdg_name (i := 4) nd rfl (by first | exact .inl rfl | exact .inr rfl)) pdgs_nil)))) (pdss_cons (pds_set (i := 1) nd rfl (by first | exact .inl rfl | exact .inr rfl) (pd_add (dv 1) (pd_L (pdl_lc (own := [("_law_aim", 9), ("_law_deed", 10)]) rfl nd (blkOk_by (by kernel_rfl)) (pdi_any (dv 3)) (fun i => (pdgw_tup (n := 2) rfl (pdgsw_cons (pdgw_name (i := 9) nd rfl (by first | exact .inl rfl | exact .inr rfl) (by decide)) (pdgsw_cons (pdgw_name (i := 10) nd rfl (by first | exact .inl rfl | exact .inr rfl) (by decide)) pdgsw_nil)))) (fun i => pdts_nil) (fun i => (pd_tup (pda_cons (pd_tup (av 2 (pda_cons pd_str (av 9 pda_nil)))) (av 10 pda_nil))))))))
    (pdss_one (pds_for pw rfl (pdi_any (dv 4)) (pdg_tup (n := 4) rfl (pdgs_cons (pdg_name (i := 5) nd rfl (by first | exact .inl rfl | exact .inr rfl)) (pdgs_cons (pdg_name (i := 6) nd rfl (by first | exact .inl rfl | exact .inr rfl)) (pdgs_cons (pdg_name (i := 7) nd rfl (by first | exact .inl rfl | exact .inr rfl)) (pdgs_cons (pdg_name (i := 8) nd rfl (by first | exact .inl rfl | exact .inr rfl)) pdgs_nil))))) (pdss_one (pds_set (i := 1) nd rfl (by first | exact .inl rfl | exact .inr rfl) (pd_add (dv 1) (pd_L (pdl_lc (own := [("_law_aim", 9), ("_law_deed", 10)]) rfl nd (blkOk_by (by kernel_rfl)) (pdi_any (dv 6)) (fun i => (pdgw_tup (n := 2) rfl (pdgsw_cons (pdgw_name (i := 9) nd rfl (by first | exact .inl rfl | exact .inr rfl) (by decide)) (pdgsw_cons (pdgw_name (i := 10) nd rfl (by first | exact .inl rfl | exact .inr rfl) (by decide)) pdgsw_nil)))) (fun i => pdts_nil) (fun i => (pd_tup (pda_cons (pd_tup (av 2 (av 5 (av 9 pda_nil)))) (av 10 pda_nil)))))))))))))
    (pdss_one (pds_ret (dv 1)))))) ?_
  rintro as Q E hl ⟨ts, rfl, ⟨hw, hk⟩, q, -⟩
  have q := q _ rfl
  have hlen := refL_len hk
  simp [-Bool.exists_bool]
  refine loopD_inv (fun ds sv => ∃ (r : List Tab) (done : List (Str × Str × Str × Str)) (s2 s3 s4 s5 s6 s7 s8 : Sl), ds = r.map lawT ∧ sv = [.dat (.lst (ts.map lawT)), .dat (.lst (done.map refD)), s2, s3, s4, s5, s6, s7, s8, .un, .un] ∧ ts.flatMap refL = done ++ r.flatMap refL ∧ ∀ b ∈ r, OkT b) ⟨ts, [], _, _, _, _, _, _, _, rfl, rfl, rfl, hk⟩ ?_ ?_
  · rintro sv ⟨r, done, s2, s3, s4, s5, s6, s7, s8, e, rfl, ed, _⟩
    obtain rfl : r = [] := by simpa using e.symm
    have ed : ts.flatMap refL = done := by simpa using ed
    simpa [ed] using q
  rintro d r0 sv ⟨r, done, s2, s3, s4, s5, s6, s7, s8, e, rfl, ed, hr⟩ nx hnx
  match r, e, ed, hr with
  | t :: r, e, ed, hr =>
  simp only [List.map_cons, List.cons.injEq] at e
  obtain ⟨rfl, rfl⟩ := e
  have ht := hr t List.mem_cons_self
  have hr' : ∀ x ∈ r, OkT x := fun x hx => hr x (List.mem_cons_of_mem _ hx)
  simp [-Bool.exists_bool, lawT]
  refine ⟨_, _, ⟨rfl, rfl⟩, _, _, rfl, _, _, rfl, rfl, ?_⟩
  simp [-Bool.exists_bool]
  have er : refL t = (t.ids.map fun p => (t.nm, (Str.ofString "id"), p.1, p.2)) ++ t.cs.flatMap fun c => c.ln.map fun p => (t.nm, c.ti, p.1, p.2) := by
    simp [refL, linksOf, List.flatMap_cons, List.flatMap_map]
  have l1 := ht.l1
  have ed1 := congrArg List.length ed
  rw [List.flatMap_cons, er] at ed1
  simp only [List.length_append, List.length_map] at ed1
  refine goLc_mapl (l := t.ids) (fun p : Str × Str => .tup [.str p.1, .str p.2]) (fun p => refD (t.nm, (Str.ofString "id"), p.1, p.2)) (by simp; omega) (fun p hp T N hT => by simp [-Bool.exists_bool]; exact ⟨_, _, ⟨rfl, rfl⟩, _, _, rfl, rfl, hT⟩) ?_
  refine ⟨by simp; omega, .inl ?_⟩
  simp [-Bool.exists_bool]
  refine loopD_inv (fun ds sv => ∃ (cs : List Col) (done : List (Str × Str × Str × Str)) (s5 s6 s7 s8 : Sl), ds = cs.map lawC ∧ sv = [.dat (.lst (ts.map lawT)), .dat (.lst (done.map refD)), .dat (.str t.nm), .dat (.lst (pairsD t.ids)), .dat (.lst (t.cs.map lawC)), s5, s6, s7, s8, .un, .un] ∧ ts.flatMap refL = done ++ ((cs.flatMap fun c => c.ln.map fun p => (t.nm, c.ti, p.1, p.2)) ++ r.flatMap refL) ∧ ∀ c ∈ cs, c.ln.length ≤ 4) ⟨t.cs, done ++ t.ids.map fun p => (t.nm, (Str.ofString "id"), p.1, p.2), _, _, _, _, rfl, by simp [Function.comp_def]; exact ⟨rfl, rfl, rfl, rfl⟩, by rw [ed, List.flatMap_cons, er]; simp, ht.l3⟩ ?_ ?_
  · rintro sv ⟨cs, done, s5, s6, s7, s8, e, rfl, ed, _⟩
    obtain rfl : cs = [] := by simpa using e.symm
    exact hnx _ ⟨r, done, _, _, _, _, _, _, _, rfl, rfl, by simpa using ed, hr'⟩
  rintro d r0 sv ⟨cs, done, s5, s6, s7, s8, e, rfl, ed, hc⟩ nx2 hnx2
  match cs, e, ed, hc with
  | c :: cs, e, ed, hc =>
  simp only [List.map_cons, List.cons.injEq] at e
  obtain ⟨rfl, rfl⟩ := e
  have c4 := hc c List.mem_cons_self
  have hc' : ∀ x ∈ cs, x.ln.length ≤ 4 := fun x hx => hc x (List.mem_cons_of_mem _ hx)
  simp [-Bool.exists_bool, lawC]
  refine ⟨_, _, ⟨rfl, rfl⟩, _, _, rfl, _, _, rfl, _, _, rfl, rfl, ?_⟩
  simp [-Bool.exists_bool]
  have ed2 := congrArg List.length ed
  rw [List.flatMap_cons] at ed2
  simp only [List.length_append, List.length_map] at ed2
  refine goLc_mapl (l := c.ln) (fun p : Str × Str => .tup [.str p.1, .str p.2]) (fun p => refD (t.nm, c.ti, p.1, p.2)) (by simp; omega) (fun p hp T N hT => by simp [-Bool.exists_bool]; exact ⟨_, _, ⟨rfl, rfl⟩, _, _, rfl, rfl, hT⟩) ?_
  refine ⟨by simp; omega, ?_⟩
  simp [-Bool.exists_bool]
  refine hnx2 _ ⟨cs, done ++ c.ln.map fun p => (t.nm, c.ti, p.1, p.2), _, _, _, _, rfl, by simp [Function.comp_def]; exact ⟨rfl, rfl, rfl, rfl⟩, by rw [ed]; simp [List.flatMap_cons], hc'⟩

theorem fg__law_references {P : Program} {w : World} {K : PySem.W.Frag} {mg : Str → Option Value} {base : Heap} {f : Addr} {fd : FuncData} (F : FunD K "_law_references" "_law_references" (defArgs s__law_references) (defBody s__law_references) (defScope s__law_references) [] [] f fd) (hm : mg "_law_references" = some (.ref f))  : FnG P w K mg base 1 "_law_references" 1 (ct__law_references ) :=
  fnG_of F sc__law_references hm (ok__law_references F ) (F.bindsN fun _ _ _ _ _ _ us hl => match us, hl with | [_], _ => rfl) Ct.ex_mono
end K3
end
section
set_option autoImplicit true
set_option Elab.async false
set_option linter.all false
set_option maxRecDepth 100000
set_option maxHeartbeats 4000000
namespace K3
open PySem PySem.Spec PyProof.Rows L2 Pd
open Pg Pf
abbrev s__law_column_of : Stmt := top 47
abbrev N__law_column_of : List Str := ["_law_column_here", "_law_title", "_law_links_here", "_law_is_open", "_law_preset"]
theorem sc__law_column_of : FnScope N__law_column_of ["_law_column_here"] (defScope s__law_column_of) := ⟨rfl, rfl, rfl, by decide +kernel, rfl, by decide +kernel, by decide +kernel⟩
def ct__law_column_of (cc_Column : Addr) : Ct := Ct.ex 0 (fun c : Col => [some (lawC c)]) GoodC (fun c z => z = colD cc_Column (colQ c)) (fun _ _ => False)
theorem ok__law_column_of {P : Program} {w : World} {K : PySem.W.Frag} {mg : Str → Option Value} {base : Heap} {f : Addr} {fd : FuncData} {c_BadAction c_BadColumn c_BadName cc_Column : Addr} (F : FunD K "_law_column_of" "_law_column_of" (defArgs s__law_column_of) (defBody s__law_column_of) (defScope s__law_column_of) [] [] f fd) (m_len : mg "len" = none) (C_Column_nullable_default : CnG P w K mg base 4 "Column" cc_Column ["nullable", "default"] 1 4 colNs gV1 gD1 (ciCol c_BadName c_BadColumn c_BadAction)) : Fd P w K mg base 6 f fd ["_law_column_here"] (spC K 1 (ct__law_column_of cc_Column)) := by
  have nd := sc__law_column_of.nd
  refine fd_body (N := N__law_column_of) (ct := ct__law_column_of cc_Column) F sc__law_column_of (fun cdv A outer s H E hr hG tk pw => have hu := Room.units hr; have hv := room_u hr; (pdss_cons (pds_asg (dv 0) (pdg_tup (n := 4) rfl (pdgs_cons (pdg_name (i := 1) nd rfl (by first | exact .inl rfl | exact .inr rfl)) (pdgs_cons (pdg_name (i := 2) nd rfl (by first | exact .inl rfl | exact .inr rfl)) (pdgs_cons (pdg_name (i := 3) nd rfl (by first | exact .inl rfl | exact .inr rfl)) (pdgs_cons (pdg_name (i := 4) nd rfl (by first | exact .inl rfl | exact .inr rfl)) pdgs_nil))))))
    (pdss_cons (pds_set (i := 2) nd rfl (by first | exact .inl rfl | exact .inr rfl) (pd_add (dv 2) (pd_mul (pd_L (pdl_lst (pda_cons pd_non pda_nil))) (pd_sub pd_int (pd_lenV (i := 2) rfl (by first | exact .inl rfl | exact .inr (.inl rfl) | exact .inr (.inr rfl)) (by rfl) m_len)))))
    (pdss_cons (pds_if (pdt_cmp op_isN1 snd_isN (pd_ix (dv 2) pd_int) pd_non) (pdss_one (pds_ret (dmake C_Column_nullable_default hr (by decide) hG tk (av 1 pda_nil) (pdk_cons (dv 3) (pdk_cons (dv 4) pdk_nil))))) pdss_nil)
    (pdss_cons (pds_if (pdt_cmp op_isN1 snd_isN (pd_ix (dv 2) pd_int) pd_non) (pdss_one (pds_ret (dmake C_Column_nullable_default hr (by decide) hG tk (av 1 (pda_cons (pd_ix (dv 2) pd_int) pda_nil)) (pdk_cons (dv 3) (pdk_cons (dv 4) pdk_nil))))) pdss_nil)
    (pdss_cons (pds_if (pdt_cmp op_isN1 snd_isN (pd_ix (dv 2) pd_int) pd_non) (pdss_one (pds_ret (dmake C_Column_nullable_default hr (by decide) hG tk (av 1 (pda_cons (pd_ix (dv 2) pd_int) (pda_cons (pd_ix (dv 2) pd_int) pda_nil))) (pdk_cons (dv 3) (pdk_cons (dv 4) pdk_nil))))) pdss_nil)
    (pdss_one (pds_ret (dmake C_Column_nullable_default hr (by decide) hG tk (av 1 (pda_cons (pd_ix (dv 2) pd_int) (pda_cons (pd_ix (dv 2) pd_int) (pda_cons (pd_ix (dv 2) pd_int) pda_nil)))) (pdk_cons (dv 3) (pdk_cons (dv 4) pdk_nil))))))))))) ?_
  rintro as Q E hl ⟨c, rfl, g, q, -⟩
  have q := q _ rfl
  obtain ⟨s, ls, nb, df, e0, ⟨h1, h2, h3, h4, h5, h6, h7, h8⟩, ho⟩ := g.okq
  have fin : ciCol c_BadName c_BadColumn c_BadAction [.str c.ti, .bl c.op, c.pre, .tup (pairsD c.ln)] (fun fs => Q (.ins cc_Column colNs fs)) E := by
    unfold colQ at e0
    injection e0 with e1 e0
    injection e0 with e2 e0
    injection e0 with e3 e4
    injection e1 with e1
    injection e2 with e2
    subst e1 e2 e3 e4
    refine ⟨_, _, _, _, rfl, ⟨by omega, by omega, by omega, by omega, h8⟩, ?_⟩
    rw [ho]
    exact q
  have hlen := g.len
  obtain ⟨ti, ln, op, pre⟩ := c
  dsimp only at fin hlen
  match ln, hlen, fin with
  | [], _, fin =>
    simp [-Bool.exists_bool, lawC, pairsD] at fin ⊢
    refine ⟨_, _, ⟨rfl, rfl⟩, _, _, rfl, _, _, rfl, _, _, rfl, rfl, ?_⟩
    simp [-Bool.exists_bool, atI, ixN, List.replicate]
    exact fin
  | [a], _, fin =>
    simp [-Bool.exists_bool, lawC, pairsD] at fin ⊢
    refine ⟨_, _, ⟨rfl, rfl⟩, _, _, rfl, _, _, rfl, _, _, rfl, rfl, ?_⟩
    simp [-Bool.exists_bool, atI, ixN, List.replicate]
    exact fin
  | [a, b], _, fin =>
    simp [-Bool.exists_bool, lawC, pairsD] at fin ⊢
    refine ⟨_, _, ⟨rfl, rfl⟩, _, _, rfl, _, _, rfl, _, _, rfl, rfl, ?_⟩
    simp [-Bool.exists_bool, atI, ixN, List.replicate]
    exact fin
  | [a, b, d], _, fin =>
    simp [-Bool.exists_bool, lawC, pairsD] at fin ⊢
    refine ⟨_, _, ⟨rfl, rfl⟩, _, _, rfl, _, _, rfl, _, _, rfl, rfl, ?_⟩
    simp [-Bool.exists_bool, atI, ixN, List.replicate]
    exact fin

theorem fg__law_column_of {P : Program} {w : World} {K : PySem.W.Frag} {mg : Str → Option Value} {base : Heap} {f : Addr} {fd : FuncData} {c_BadAction c_BadColumn c_BadName cc_Column : Addr} (F : FunD K "_law_column_of" "_law_column_of" (defArgs s__law_column_of) (defBody s__law_column_of) (defScope s__law_column_of) [] [] f fd) (hm : mg "_law_column_of" = some (.ref f)) (m_len : mg "len" = none) (C_Column_nullable_default : CnG P w K mg base 4 "Column" cc_Column ["nullable", "default"] 1 4 colNs gV1 gD1 (ciCol c_BadName c_BadColumn c_BadAction)) : FnG P w K mg base 6 "_law_column_of" 1 (ct__law_column_of cc_Column) :=
  fnG_of F sc__law_column_of hm (ok__law_column_of F m_len C_Column_nullable_default) (F.bindsN fun _ _ _ _ _ _ us hl => match us, hl with | [_], _ => rfl) Ct.ex_mono
abbrev s__law_table_of : Stmt := top 48
abbrev N__law_table_of : List Str := ["_law_home", "_law_name", "_law_own_ids", "_law_columns", "_law_made", "_law_column_here"]
theorem sc__law_table_of : FnScope N__law_table_of ["_law_home"] (defScope s__law_table_of) := ⟨rfl, rfl, rfl, by decide +kernel, rfl, by decide +kernel, by decide +kernel⟩
def ct__law_table_of (cc_Table cc_Column : Addr) : Ct := Ct.ex 0 (fun t : Tab => [some (lawT t)]) GoodT (fun t z => z = tD cc_Table cc_Column t) (fun _ _ => False)
theorem ok__law_table_of {P : Program} {w : World} {K : PySem.W.Frag} {mg : Str → Option Value} {base : Heap} {f : Addr} {fd : FuncData} {c_BadAction c_BadName c_BadTable cc_Column cc_Table : Addr} (F : FunD K "_law_table_of" "_law_table_of" (defArgs s__law_table_of) (defBody s__law_table_of) (defScope s__law_table_of) [] [] f fd) (F__law_column_of : FnG P w K mg base 6 "_law_column_of" 1 (ct__law_column_of cc_Column)) (m_len : mg "len" = none) (m_tuple : mg "tuple" = none) (C_Table_ids : CnG P w K mg base 7 "Table" cc_Table ["ids"] 1 3 tabNs gV1 gD1 (ciTab cc_Column c_BadName c_BadTable c_BadAction)) : Fd P w K mg base 9 f fd ["_law_home"] (spC K 1 (ct__law_table_of cc_Table cc_Column)) := by
  have nd := sc__law_table_of.nd
  refine fd_body (N := N__law_table_of) (ct := ct__law_table_of cc_Table cc_Column) F sc__law_table_of (fun cdv A outer s H E hr hG tk pw => have hu := Room.units hr; have hv := room_u hr; (pdss_cons (pds_asg (dv 0) (pdg_tup (n := 3) rfl (pdgs_cons (pdg_name (i := 1) nd rfl (by first | exact .inl rfl | exact .inr rfl)) (pdgs_cons (pdg_name (i := 2) nd rfl (by first | exact .inl rfl | exact .inr rfl)) (pdgs_cons (pdg_name (i := 3) nd rfl (by first | exact .inl rfl | exact .inr rfl)) pdgs_nil)))))
    (pdss_cons (pds_setLc (i := 4) (own := [("_law_column_here", 5)]) rfl nd rfl rfl (sw_true rfl rfl rfl rfl) (blkOk_by (by kernel_rfl)) (pdi_any (dv 3)) (fun i => (pdgw_name (i := 5) nd rfl (by first | exact .inl rfl | exact .inr rfl) (by decide))) (fun i => pdts_nil) (fun i => (dcall F__law_column_of hr (by decide) hG takes_no (av 5 pda_nil))))
    (pdss_cons (pds_if (pdt_cmp (op_eqP hu) snd_eq (pd_lenV (i := 4) rfl (by first | exact .inl rfl | exact .inr (.inl rfl) | exact .inr (.inr rfl)) (by rfl) m_len) pd_int) (pdss_one (pds_ret (dmake C_Table_ids hr (by decide) hG tk (av 1 pda_nil) (pdk_cons (pd_tuple (by rfl) m_tuple (av 2 pda_nil)) pdk_nil)))) pdss_nil)
    (pdss_cons (pds_if (pdt_cmp (op_eqP hu) snd_eq (pd_lenV (i := 4) rfl (by first | exact .inl rfl | exact .inr (.inl rfl) | exact .inr (.inr rfl)) (by rfl) m_len) pd_int) (pdss_one (pds_ret (dmake C_Table_ids hr (by decide) hG tk (av 1 (pda_cons (pd_ix (dv 4) pd_int) pda_nil)) (pdk_cons (pd_tuple (by rfl) m_tuple (av 2 pda_nil)) pdk_nil)))) pdss_nil)
    (pdss_cons (pds_if (pdt_cmp (op_eqP hu) snd_eq (pd_lenV (i := 4) rfl (by first | exact .inl rfl | exact .inr (.inl rfl) | exact .inr (.inr rfl)) (by rfl) m_len) pd_int) (pdss_one (pds_ret (dmake C_Table_ids hr (by decide) hG tk (av 1 (pda_cons (pd_ix (dv 4) pd_int) (pda_cons (pd_ix (dv 4) pd_int) pda_nil))) (pdk_cons (pd_tuple (by rfl) m_tuple (av 2 pda_nil)) pdk_nil)))) pdss_nil)
    (pdss_one (pds_ret (dmake C_Table_ids hr (by decide) hG tk (av 1 (pda_cons (pd_ix (dv 4) pd_int) (pda_cons (pd_ix (dv 4) pd_int) (pda_cons (pd_ix (dv 4) pd_int) pda_nil)))) (pdk_cons (pd_tuple (by rfl) m_tuple (av 2 pda_nil)) pdk_nil)))))))))) ?_
  rintro as Q E hl ⟨t, rfl, g, q, -⟩
  have q := q _ rfl
  have k := g.ok
  have fin : ciTab cc_Column c_BadName c_BadTable c_BadAction [.str t.nm, .tup (pairsD t.ids), .tup (t.cs.map (colD cc_Column ∘ colQ))] (fun fs => Q (.ins cc_Table tabNs fs)) E := by
    refine ⟨.str t.nm, t.cs.map colQ, pairsD t.ids, by simp, ⟨k.w1, k.w2, by have := k.l1; simp [pairsD]; omega, by have := k.l2; simp; omega, fun q hq => ?_⟩, ?_⟩
    · obtain ⟨c, hc, rfl⟩ := List.mem_map.mp hq
      exact k.cols c hc
    · rw [k.out]
      simpa [tD, tabD, tabT, tabNs] using q
  refine dSeq_i ?_
  simp [-Bool.exists_bool, -dSeq, lawT]
  refine ⟨_, _, ⟨rfl, rfl⟩, _, _, rfl, _, _, rfl, rfl, ?_⟩
  refine dSeq_i ?_
  simp [-Bool.exists_bool, -dSeq]
  refine goLc_mapl lawC (colD cc_Column ∘ colQ) (by have := k.l2; simp; omega) (fun c hc T N hT => ?_) ?_
  · simp [-Bool.exists_bool]
    refine Ct.exI c rfl (g.cols c hc) (fun z hz => ?_) fun _ z => z.elim
    obtain rfl := hz
    simpa using hT
  have hlen := k.l2
  obtain ⟨nm, ids, cs⟩ := t
  dsimp only at fin hlen
  match cs, hlen, fin with
  | [], _, fin =>
    simp [-Bool.exists_bool, atI, ixN]
    exact fin
  | [a], _, fin =>
    simp [-Bool.exists_bool, atI, ixN]
    exact fin
  | [a, b], _, fin =>
    simp [-Bool.exists_bool, atI, ixN]
    exact fin
  | [a, b, d], _, fin =>
    simp [-Bool.exists_bool, atI, ixN]
    exact fin

theorem fg__law_table_of {P : Program} {w : World} {K : PySem.W.Frag} {mg : Str → Option Value} {base : Heap} {f : Addr} {fd : FuncData} {c_BadAction c_BadName c_BadTable cc_Column cc_Table : Addr} (F : FunD K "_law_table_of" "_law_table_of" (defArgs s__law_table_of) (defBody s__law_table_of) (defScope s__law_table_of) [] [] f fd) (hm : mg "_law_table_of" = some (.ref f)) (F__law_column_of : FnG P w K mg base 6 "_law_column_of" 1 (ct__law_column_of cc_Column)) (m_len : mg "len" = none) (m_tuple : mg "tuple" = none) (C_Table_ids : CnG P w K mg base 7 "Table" cc_Table ["ids"] 1 3 tabNs gV1 gD1 (ciTab cc_Column c_BadName c_BadTable c_BadAction)) : FnG P w K mg base 9 "_law_table_of" 1 (ct__law_table_of cc_Table cc_Column) :=
  fnG_of F sc__law_table_of hm (ok__law_table_of F F__law_column_of m_len m_tuple C_Table_ids) (F.bindsN fun _ _ _ _ _ _ us hl => match us, hl with | [_], _ => rfl) Ct.ex_mono
end K3
end
section
set_option autoImplicit true
set_option Elab.async false
set_option linter.all false
set_option maxRecDepth 100000
set_option maxHeartbeats 4000000
namespace K3
open PySem PySem.Spec PyProof.Rows L2 Pd
open Pg Pf
def excS (cb cn cf : Addr) : SOut → Option Xd
  | .ok => none
  | .dup n => some ⟨cb, ["name"], [.str n]⟩
  | .lost n => some ⟨cn, ["table"], [.str n]⟩
  | .few => some ⟨cf, ["most"], [.int 5]⟩
  | .many => some ⟨cf, ["most"], [.int 10]⟩
def wordS : SOut → D
  | .ok => .non
  | .dup n => .tup [.str "twice", .str n]
  | .lost n => .tup [.str "none", .str n]
  | .few => .tup [.str "full", .int 5]
  | .many => .tup [.str "full", .int 10]
def isOkS : SOut → Bool
  | .ok => true
  | _ => false
def outD (CS C CC : Addr) (ts : List Tab) : D := if isOkS (schOut ts) = true then schD CS C CC ts else wordS (schOut ts)
abbrev s__law_schema_of : Stmt := top 49
abbrev N__law_schema_of : List Str := ["_law_made"]
theorem sc__law_schema_of : FnScope N__law_schema_of ["_law_made"] (defScope s__law_schema_of) := ⟨rfl, rfl, rfl, by decide +kernel, rfl, by decide +kernel, by decide +kernel⟩
def ct__law_schema_of (cc_Schema cc_Table cc_Column c_BadTable c_NoTable c_Full : Addr) : Ct := Ct.ex 0 (fun ts : List Tab => [some (.lst (ts.map (tD cc_Table cc_Column)))]) (fun ts => ts.length ≤ 6 ∧ ∀ t ∈ ts, OkT t) (fun ts z => schOut ts = .ok ∧ z = schD cc_Schema cc_Table cc_Column ts) (fun ts x => excS c_BadTable c_NoTable c_Full (schOut ts) = some x)
theorem ok__law_schema_of {P : Program} {w : World} {K : PySem.W.Frag} {mg : Str → Option Value} {base : Heap} {f : Addr} {fd : FuncData} {c_BadTable c_Full c_NoTable cc_Column cc_Schema cc_Table : Addr} (F : FunD K "_law_schema_of" "_law_schema_of" (defArgs s__law_schema_of) (defBody s__law_schema_of) (defScope s__law_schema_of) [] [] f fd) (m_len : mg "len" = none) (C_Schema : CnG P w K mg base 10 "Schema" cc_Schema [] 0 1 schNs gV0 gD0 (ciSch cc_Schema cc_Table cc_Column c_BadTable c_NoTable c_Full)) : Fd P w K mg base 12 f fd ["_law_made"] (spC K 1 (ct__law_schema_of cc_Schema cc_Table cc_Column c_BadTable c_NoTable c_Full)) := by
  have nd := sc__law_schema_of.nd
  refine fd_body (N := N__law_schema_of) (ct := ct__law_schema_of cc_Schema cc_Table cc_Column c_BadTable c_NoTable c_Full) F sc__law_schema_of (fun cdv A outer s H E hr hG tk pw => have hu := Room.units hr; have hv := room_u hr; (pdss_cons (pds_if (pdt_cmp (op_eqP hu) snd_eq (pd_lenV (i := 0) rfl (by first | exact .inl rfl | exact .inr (.inl rfl) | exact .inr (.inr rfl)) (by rfl) m_len) pd_int) (pdss_one (pds_ret (dmake0 C_Schema hr (by decide) hG tk))) pdss_nil)
    (pdss_cons (pds_if (pdt_cmp (op_eqP hu) snd_eq (pd_lenV (i := 0) rfl (by first | exact .inl rfl | exact .inr (.inl rfl) | exact .inr (.inr rfl)) (by rfl) m_len) pd_int) (pdss_one (pds_ret (dmake C_Schema hr (by decide) hG tk (pda_cons (pd_ix (dv 0) pd_int) pda_nil) pdk_nil))) pdss_nil)
    (pdss_cons (pds_if (pdt_cmp (op_eqP hu) snd_eq (pd_lenV (i := 0) rfl (by first | exact .inl rfl | exact .inr (.inl rfl) | exact .inr (.inr rfl)) (by rfl) m_len) pd_int) (pdss_one (pds_ret (dmake C_Schema hr (by decide) hG tk (pda_cons (pd_ix (dv 0) pd_int) (pda_cons (pd_ix (dv 0) pd_int) pda_nil)) pdk_nil))) pdss_nil)
    (pdss_cons (pds_if (pdt_cmp (op_eqP hu) snd_eq (pd_lenV (i := 0) rfl (by first | exact .inl rfl | exact .inr (.inl rfl) | exact .inr (.inr rfl)) (by rfl) m_len) pd_int) (pdss_one (pds_ret (dmake C_Schema hr (by decide) hG tk (pda_cons (pd_ix (dv 0) pd_int) (pda_cons (pd_ix (dv 0) pd_int) (pda_cons (pd_ix (dv 0) pd_int) pda_nil))) pdk_nil))) pdss_nil)
    (pdss_cons (pds_if (pdt_cmp (op_eqP hu) snd_eq (pd_lenV (i := 0) rfl (by first | exact .inl rfl | exact .inr (.inl rfl) | exact .inr (.inr rfl)) (by rfl) m_len) pd_int) (pdss_one (pds_ret (dmake C_Schema hr (by decide) hG tk (pda_cons (pd_ix (dv 0) pd_int) (pda_cons (pd_ix (dv 0) pd_int) (pda_cons (pd_ix (dv 0) pd_int) (pda_cons (pd_ix (dv 0) pd_int) pda_nil)))) pdk_nil))) pdss_nil)
    (pdss_cons (pds_if (pdt_cmp (op_eqP hu) snd_eq (pd_lenV (i := 0) rfl (by first | exact .inl rfl | exact .inr (.inl rfl) | exact .inr (.inr rfl)) (by rfl) m_len) pd_int) (pdss_one (pds_ret (dmake C_Schema hr (by decide) hG tk (pda_cons (pd_ix (dv 0) pd_int) (pda_cons (pd_ix (dv 0) pd_int) (pda_cons (pd_ix (dv 0) pd_int) (pda_cons (pd_ix (dv 0) pd_int) (pda_cons (pd_ix (dv 0) pd_int) pda_nil))))) pdk_nil))) pdss_nil)
    (pdss_one (pds_ret (dmake C_Schema hr (by decide) hG tk (pda_cons (pd_ix (dv 0) pd_int) (pda_cons (pd_ix (dv 0) pd_int) (pda_cons (pd_ix (dv 0) pd_int) (pda_cons (pd_ix (dv 0) pd_int) (pda_cons (pd_ix (dv 0) pd_int) (pda_cons (pd_ix (dv 0) pd_int) pda_nil)))))) pdk_nil)))))))))) ?_
  rintro as Q E hl ⟨ts, rfl, ⟨hw, hk⟩, q, qe⟩
  dsimp only at hw hk q qe
  have fin : ciSch cc_Schema cc_Table cc_Column c_BadTable c_NoTable c_Full [.tup (ts.map (tD cc_Table cc_Column))] (fun fs => Q (.ins cc_Schema schNs fs)) E := by
    refine ⟨ts, rfl, ⟨by omega, hk⟩, ?_⟩
    cases c : schOut ts with
    | ok => exact q _ ⟨c, rfl⟩
    | dup n => exact qe _ (by rw [c]; rfl)
    | lost n => exact qe _ (by rw [c]; rfl)
    | few => exact qe _ (by rw [c]; rfl)
    | many => exact qe _ (by rw [c]; rfl)
  match ts, hw, fin with
  | [], _, fin =>
    simp [-Bool.exists_bool, atI, ixN]
    exact fin
  | [a], _, fin =>
    simp [-Bool.exists_bool, atI, ixN]
    exact fin
  | [a, b], _, fin =>
    simp [-Bool.exists_bool, atI, ixN]
    exact fin
  | [a, b, c], _, fin =>
    simp [-Bool.exists_bool, atI, ixN]
    exact fin
  | [a, b, c, d], _, fin =>
    simp [-Bool.exists_bool, atI, ixN]
    exact fin
  | [a, b, c, d, e], _, fin =>
    simp [-Bool.exists_bool, atI, ixN]
    exact fin
  | [a, b, c, d, e, g], _, fin =>
    simp [-Bool.exists_bool, atI, ixN]
    exact fin

theorem fg__law_schema_of {P : Program} {w : World} {K : PySem.W.Frag} {mg : Str → Option Value} {base : Heap} {f : Addr} {fd : FuncData} {c_BadTable c_Full c_NoTable cc_Column cc_Schema cc_Table : Addr} (F : FunD K "_law_schema_of" "_law_schema_of" (defArgs s__law_schema_of) (defBody s__law_schema_of) (defScope s__law_schema_of) [] [] f fd) (hm : mg "_law_schema_of" = some (.ref f)) (m_len : mg "len" = none) (C_Schema : CnG P w K mg base 10 "Schema" cc_Schema [] 0 1 schNs gV0 gD0 (ciSch cc_Schema cc_Table cc_Column c_BadTable c_NoTable c_Full)) : FnG P w K mg base 12 "_law_schema_of" 1 (ct__law_schema_of cc_Schema cc_Table cc_Column c_BadTable c_NoTable c_Full) :=
  fnG_of F sc__law_schema_of hm (ok__law_schema_of F m_len C_Schema) (F.bindsN fun _ _ _ _ _ _ us hl => match us, hl with | [_], _ => rfl) Ct.ex_mono
end K3
end
section
set_option autoImplicit true
set_option Elab.async false
set_option linter.all false
set_option maxRecDepth 100000
set_option maxHeartbeats 4000000
namespace K3
open PySem PySem.Spec PyProof.Rows L2 Pd
open Pg Pf
abbrev s__law_outcome : Stmt := top 50
abbrev N__law_outcome : List Str := ["_law_tables", "e", "_law_home"]
theorem sc__law_outcome : FnScope N__law_outcome ["_law_tables"] (defScope s__law_outcome) := ⟨rfl, rfl, rfl, by decide +kernel, rfl, by decide +kernel, by decide +kernel⟩
def ct__law_outcome (cc_Schema cc_Table cc_Column c_BadTable c_NoTable c_Full : Addr) : Ct := Ct.ex 0 (fun ts : List Tab => [some (.lst (ts.map lawT))]) (fun ts => ts.length ≤ 6 ∧ ∀ t ∈ ts, GoodT t) (fun ts z => z = outD cc_Schema cc_Table cc_Column ts) (fun _ _ => False)
theorem ok__law_outcome {P : Program} {w : World} {K : PySem.W.Frag} {mg : Str → Option Value} {base : Heap} {f : Addr} {fd : FuncData} {c_BadTable c_Full c_NoTable cc_Column cc_Schema cc_Table : Addr} (F : FunD K "_law_outcome" "_law_outcome" (defArgs s__law_outcome) (defBody s__law_outcome) (defScope s__law_outcome) [] [] f fd) (m_KeyError : mg "KeyError" = none) (m_OverflowError : mg "OverflowError" = none) (F__law_schema_of : FnG P w K mg base 12 "_law_schema_of" 1 (ct__law_schema_of cc_Schema cc_Table cc_Column c_BadTable c_NoTable c_Full)) (F__law_table_of : FnG P w K mg base 9 "_law_table_of" 1 (ct__law_table_of cc_Table cc_Column)) (m_BadTable : mg "BadTable" = some (.ref c_BadTable)) (x_BadTable : XfC K c_BadTable) (n_BadTable_name : PySem.W.findIn K (.ref c_BadTable) "name" = some none) (m_Full : mg "Full" = some (.ref c_Full)) (x_Full : XfC K c_Full) (n_Full_most : PySem.W.findIn K (.ref c_Full) "most" = some none) (m_NoTable : mg "NoTable" = some (.ref c_NoTable)) (x_NoTable : XfC K c_NoTable) (n_NoTable_table : PySem.W.findIn K (.ref c_NoTable) "table" = some none) (m_isinstance : mg "isinstance" = none) (X2 : ExcC K c_NoTable) (X3 : ExcC K c_Full) (V2 : PySem.W.kitOne K (.ref c_NoTable) (.type "KeyError") = some true) (V3 : PySem.W.kitOne K (.ref c_Full) (.type "OverflowError") = some true) (E_BadTable_BadTable : PySem.W.exmOne K (.ref c_BadTable) (.ref c_BadTable) = some true) (E_NoTable_BadTable : PySem.W.exmOne K (.ref c_NoTable) (.ref c_BadTable) = some false) (E_NoTable_NoTable : PySem.W.exmOne K (.ref c_NoTable) (.ref c_NoTable) = some true) (E_Full_BadTable : PySem.W.exmOne K (.ref c_Full) (.ref c_BadTable) = some false) (E_Full_NoTable : PySem.W.exmOne K (.ref c_Full) (.ref c_NoTable) = some false) (E_Full_Full : PySem.W.exmOne K (.ref c_Full) (.ref c_Full) = some true) : Fd P w K mg base 13 f fd ["_law_tables"] (spC K 1 (ct__law_outcome cc_Schema cc_Table cc_Column c_BadTable c_NoTable c_Full)) := by
  have nd := sc__law_outcome.nd
  refine fd_body (N := N__law_outcome) (ct := ct__law_outcome cc_Schema cc_Table cc_Column c_BadTable c_NoTable c_Full) F sc__law_outcome (fun cdv A outer s H E hr hG tk pw => have hu := Room.units hr; have hv := room_u hr; (pdss_one (dtry K nd tk (fun W2 pn2 xe2 tk2 pw2 => (pdss_one (pds_ret (dcall F__law_schema_of hr (by decide) hG tk2 (pda_cons (pd_L (pdl_lc (own := [("_law_home", 2)]) rfl nd (blkOk_by (by kernel_rfl)) (pdi_any (dv 0)) (fun i => (pdgw_name (i := 2) nd rfl (by first | exact .inl rfl | exact .inr rfl) (by decide))) (fun i => pdts_nil) (fun i => (dcall F__law_table_of hr (by decide) hG takes_no (av 2 pda_nil))))) pda_nil))))) (.named (i := 1) (nmO m_BadTable) rfl rfl (fun a oe cls d pn hz hf => (pdss_one (pds_ret (pd_tup (pda_cons pd_str (pda_cons (dxf K 1 x_BadTable n_BadTable_name hz hf) pda_nil)))))) (.named (i := 1) (nmO m_NoTable) rfl rfl (fun a oe cls d pn hz hf => (pdss_one (pds_ret (pd_if (pdt_tru (dxiT K 1 boot_KeyError m_KeyError m_isinstance hz hf)) (pd_tup (pda_cons pd_str (pda_cons (dxf K 1 x_NoTable n_NoTable_table hz hf) pda_nil))) (pd_tup (pda_cons pd_str (pda_cons (dxf K 1 x_NoTable n_NoTable_table hz hf) pda_nil))))))) (.named (i := 1) (nmO m_Full) rfl rfl (fun a oe cls d pn hz hf => (pdss_one (pds_ret (pd_if (pdt_tru (dxiT K 1 boot_OverflowError m_OverflowError m_isinstance hz hf)) (pd_tup (pda_cons pd_str (pda_cons (dxf K 1 x_Full n_Full_most hz hf) pda_nil))) (pd_tup (pda_cons pd_str (pda_cons (dxf K 1 x_Full n_Full_most hz hf) pda_nil))))))) .nil)))))) ?_
  rintro as Q E hl ⟨ts, rfl, ⟨hw, hk⟩, q, -⟩
  have q := q _ rfl
  simp [-Bool.exists_bool]
  refine goLc_mapl lawT (tD cc_Table cc_Column) (by simp; omega) (fun t ht T N hT => ?_) ?_
  · simp [-Bool.exists_bool]
    refine Ct.exI t rfl (hk t ht) (fun z hz => ?_) fun _ z => z.elim
    obtain rfl := hz
    simpa using hT
  simp [-Bool.exists_bool]
  refine Ct.exI ts rfl ⟨hw, fun t ht => (hk t ht).ok⟩ (fun d hd => ?_) fun x hx => ?_
  · obtain ⟨e1, rfl⟩ := hd
    simpa [outD, e1, isOkS] using q
  · cases c : schOut ts with
    | ok => rw [c] at hx; cases hx
    | dup n =>
      rw [c] at hx
      cases hx
      refine ⟨true, E_BadTable_BadTable, fun _ => ⟨rfl, _, rfl, ?_⟩, fun h => by cases h⟩
      simpa [outD, c, isOkS, wordS] using q
    | lost n =>
      rw [c] at hx
      cases hx
      refine ⟨false, E_NoTable_BadTable, (fun h => by cases h), fun _ => ⟨true, E_NoTable_NoTable, fun _ => ?_, fun h => by cases h⟩⟩
      refine ⟨X2, true, V2, ?_⟩
      simpa [-Bool.exists_bool, outD, c, isOkS, wordS] using q
    | few =>
      rw [c] at hx
      cases hx
      refine ⟨false, E_Full_BadTable, (fun h => by cases h), fun _ => ⟨false, E_Full_NoTable, (fun h => by cases h), fun _ => ⟨true, E_Full_Full, fun _ => ?_, fun h => by cases h⟩⟩⟩
      refine ⟨X3, true, V3, ?_⟩
      simpa [-Bool.exists_bool, outD, c, isOkS, wordS] using q
    | many =>
      rw [c] at hx
      cases hx
      refine ⟨false, E_Full_BadTable, (fun h => by cases h), fun _ => ⟨false, E_Full_NoTable, (fun h => by cases h), fun _ => ⟨true, E_Full_Full, fun _ => ?_, fun h => by cases h⟩⟩⟩
      refine ⟨X3, true, V3, ?_⟩
      simpa [-Bool.exists_bool, outD, c, isOkS, wordS] using q

theorem fg__law_outcome {P : Program} {w : World} {K : PySem.W.Frag} {mg : Str → Option Value} {base : Heap} {f : Addr} {fd : FuncData} {c_BadTable c_Full c_NoTable cc_Column cc_Schema cc_Table : Addr} (F : FunD K "_law_outcome" "_law_outcome" (defArgs s__law_outcome) (defBody s__law_outcome) (defScope s__law_outcome) [] [] f fd) (hm : mg "_law_outcome" = some (.ref f)) (m_KeyError : mg "KeyError" = none) (m_OverflowError : mg "OverflowError" = none) (F__law_schema_of : FnG P w K mg base 12 "_law_schema_of" 1 (ct__law_schema_of cc_Schema cc_Table cc_Column c_BadTable c_NoTable c_Full)) (F__law_table_of : FnG P w K mg base 9 "_law_table_of" 1 (ct__law_table_of cc_Table cc_Column)) (m_BadTable : mg "BadTable" = some (.ref c_BadTable)) (x_BadTable : XfC K c_BadTable) (n_BadTable_name : PySem.W.findIn K (.ref c_BadTable) "name" = some none) (m_Full : mg "Full" = some (.ref c_Full)) (x_Full : XfC K c_Full) (n_Full_most : PySem.W.findIn K (.ref c_Full) "most" = some none) (m_NoTable : mg "NoTable" = some (.ref c_NoTable)) (x_NoTable : XfC K c_NoTable) (n_NoTable_table : PySem.W.findIn K (.ref c_NoTable) "table" = some none) (m_isinstance : mg "isinstance" = none) (X2 : ExcC K c_NoTable) (X3 : ExcC K c_Full) (V2 : PySem.W.kitOne K (.ref c_NoTable) (.type "KeyError") = some true) (V3 : PySem.W.kitOne K (.ref c_Full) (.type "OverflowError") = some true) (E_BadTable_BadTable : PySem.W.exmOne K (.ref c_BadTable) (.ref c_BadTable) = some true) (E_NoTable_BadTable : PySem.W.exmOne K (.ref c_NoTable) (.ref c_BadTable) = some false) (E_NoTable_NoTable : PySem.W.exmOne K (.ref c_NoTable) (.ref c_NoTable) = some true) (E_Full_BadTable : PySem.W.exmOne K (.ref c_Full) (.ref c_BadTable) = some false) (E_Full_NoTable : PySem.W.exmOne K (.ref c_Full) (.ref c_NoTable) = some false) (E_Full_Full : PySem.W.exmOne K (.ref c_Full) (.ref c_Full) = some true) : FnG P w K mg base 13 "_law_outcome" 1 (ct__law_outcome cc_Schema cc_Table cc_Column c_BadTable c_NoTable c_Full) :=
  fnG_of F sc__law_outcome hm (ok__law_outcome F m_KeyError m_OverflowError F__law_schema_of F__law_table_of m_BadTable x_BadTable n_BadTable_name m_Full x_Full n_Full_most m_NoTable x_NoTable n_NoTable_table m_isinstance X2 X3 V2 V3 E_BadTable_BadTable E_NoTable_BadTable E_NoTable_NoTable E_Full_BadTable E_Full_NoTable E_Full_Full) (F.bindsN fun _ _ _ _ _ _ us hl => match us, hl with | [_], _ => rfl) Ct.ex_mono
theorem goLc_fml {α : Type} (h : α → D) (g : α → Option D) {dg : Dg} {dt : Dt} {fe : De} {vs : List Nat} {Q : List D → Sv → Prop} : ∀ {l : List α} {sv : Sv} {acc : List D}, acc.length + l.length ≤ 100000 →
    (∀ d ∈ l, ∀ (T : D → Sv → Prop) (N : Sv → Prop), (∀ z, g d = some z → T z sv) → (g d = none → N sv) → dg (h d) sv fun sv1 => dt sv1 (fun b sv2 => if b = true then fe sv2 (fun z sv3 => T z (unAt sv3 vs)) (fun _ _ => False) else N (unAt sv2 vs)) fun _ _ => False) →
    Q (acc ++ l.filterMap g) sv → goLc dg dt fe vs Q (l.map h) sv acc
  | [], sv, acc, _, _, q => by
    rw [List.filterMap_nil, List.append_nil] at q
    exact q
  | d :: ds, sv, acc, hl, hs, q => by
    rw [List.length_cons] at hl
    refine hs d List.mem_cons_self (fun z sv' => acc.length < 100000 ∧ goLc dg dt fe vs Q (ds.map h) sv' (acc ++ [z])) (fun sv' => goLc dg dt fe vs Q (ds.map h) sv' acc) (fun z e => ⟨by omega, ?_⟩) fun e => ?_
    · refine goLc_fml h g (by rw [List.length_append, List.length_singleton]; omega) (fun d' h' => hs d' (List.mem_cons_of_mem _ h')) ?_
      rw [List.filterMap_cons, e] at q
      rw [List.append_assoc]
      exact q
    · refine goLc_fml h g (by omega) (fun d' h' => hs d' (List.mem_cons_of_mem _ h')) ?_
      rw [List.filterMap_cons, e] at q
      exact q
theorem dup_head : ∀ (r seen : List Str), ((r.zipIdx seen.length).filterMap fun p => if p.1 ∈ (seen ++ r).take p.2 then some (D.str p.1) else none).head? = (firstDup seen r).map D.str
  | [], seen => rfl
  | n :: r, seen => by
    rw [List.zipIdx_cons, List.filterMap_cons]
    have e : (seen ++ n :: r).take seen.length = seen := by simp
    unfold firstDup
    by_cases c : n ∈ seen
    · simp [e, c]
    · simp only [e, c, if_false]
      have ih := dup_head r (seen ++ [n])
      rw [List.append_assoc, List.length_append] at ih
      exact ih
theorem find_head {α β : Type} {p : α → Bool} {f : α → β} : ∀ (l : List α), (l.filterMap fun a => if p a = true then some (f a) else none).head? = (l.find? p).map f
  | [] => rfl
  | a :: l => by
    rw [List.filterMap_cons, List.find?_cons]
    cases c : p a with
    | true => simp
    | false => simpa using find_head l
theorem cut_take {α : Type} {xs : List α} {n : Nat} : Pd.cutD xs none (some (n : Int)) = xs.take n := by
  unfold Pd.cutD
  rw [HT.sIx_none, HT.sIx_nat, List.drop_zero, Nat.sub_zero, List.take_eq_take_iff]
  omega
abbrev s__law_due : Stmt := top 51
abbrev N__law_due : List Str := ["_law_tables", "_law_names_here", "_law_twice", "_law_at", "_law_name", "_law_lost", "_law_one", "_law_deed"]
theorem sc__law_due : FnScope N__law_due ["_law_tables"] (defScope s__law_due) := ⟨rfl, rfl, rfl, by decide +kernel, rfl, by decide +kernel, by decide +kernel⟩
def ct__law_due : Ct := Ct.ex 0 (fun ts : List Tab => [some (.lst (ts.map lawT))]) (fun ts => ts.length ≤ 6 ∧ ∀ t ∈ ts, GoodT t) (fun ts z => z = wordS (schOut ts)) (fun _ _ => False)
theorem ok__law_due {P : Program} {w : World} {K : PySem.W.Frag} {mg : Str → Option Value} {base : Heap} {f : Addr} {fd : FuncData} (F : FunD K "_law_due" "_law_due" (defArgs s__law_due) (defBody s__law_due) (defScope s__law_due) [] [] f fd) (F__law_names : FnG P w K mg base 1 "_law_names" 1 (ct__law_names )) (F__law_references : FnG P w K mg base 1 "_law_references" 1 (ct__law_references )) (m_enumerate : mg "enumerate" = none) (m_len : mg "len" = none) : Fd P w K mg base 2 f fd ["_law_tables"] (spC K 1 (ct__law_due )) := by
  have nd := sc__law_due.nd
  refine fd_body (N := N__law_due) (ct := ct__law_due ) F sc__law_due (fun cdv A outer s H E hr hG tk pw => have hu := Room.units hr; have hv := room_u hr; (pdss_cons (pds_set (i := 1) nd rfl (by first | exact .inl rfl | exact .inr rfl) (dcall F__law_names hr (by decide) hG tk (av 0 pda_nil)))
    (pdss_cons (pds_setLc (i := 2) (own := [("_law_at", 3), ("_law_name", 4)]) rfl nd rfl rfl (sw_true rfl rfl rfl rfl) (blkOk_by (by kernel_rfl)) (pdi_enum m_enumerate (av 1 pda_nil)) (fun i => (pdgw_tup (n := 2) rfl (pdgsw_cons (pdgw_name (i := 3) nd rfl (by first | exact .inl rfl | exact .inr rfl) (by decide)) (pdgsw_cons (pdgw_name (i := 4) nd rfl (by first | exact .inl rfl | exact .inr rfl) (by decide)) pdgsw_nil)))) (fun i => (pdts_one (pdt_cmp (op_inA hv) snd_in (dv 4) (pd_L (pdl_sl (dv 1) pdo_none (pdo_some (dv 3))))))) (fun i => (dv 4)))
    (pdss_cons (pds_setLc (i := 5) (own := [("_law_one", 6), ("_law_deed", 7)]) rfl nd rfl rfl (sw_true rfl rfl rfl rfl) (blkOk_by (by kernel_rfl)) (pdi_any (dcall F__law_references hr (by decide) hG tk (av 0 pda_nil))) (fun i => (pdgw_tup (n := 2) rfl (pdgsw_cons (pdgw_name (i := 6) nd rfl (by first | exact .inl rfl | exact .inr rfl) (by decide)) (pdgsw_cons (pdgw_name (i := 7) nd rfl (by first | exact .inl rfl | exact .inr rfl) (by decide)) pdgsw_nil)))) (fun i => (pdts_one (pdt_cmp (op_notInA hv) snd_notIn (pd_ix (dv 6) pd_int) (dv 1)))) (fun i => (pd_ix (dv 6) pd_int)))
    (pdss_cons (pds_if (pdt_cmp (op_neP hu) snd_ne (dv 2) (pd_L (pdl_lst pda_nil))) (pdss_one (pds_ret (pd_tup (pda_cons pd_str (pda_cons (pd_ix (dv 2) pd_int) pda_nil))))) pdss_nil)
    (pdss_cons (pds_if (pdt_cmp (op_neP hu) snd_ne (dv 5) (pd_L (pdl_lst pda_nil))) (pdss_one (pds_ret (pd_tup (pda_cons pd_str (pda_cons (pd_ix (dv 5) pd_int) pda_nil))))) pdss_nil)
    (pdss_cons (pds_if (pdt_not (pdt_chain op_le snd_le op_le snd_le pd_int (pd_lenV (i := 0) rfl (by first | exact .inl rfl | exact .inr (.inl rfl) | exact .inr (.inr rfl)) (by rfl) m_len) pd_int)) (pdss_one (pds_ret (pd_tup (pda_cons pd_str (pda_cons pd_int pda_nil))))) pdss_nil)
    (pdss_one (pds_ret (pd_if (pdt_cmp op_gt snd_gt (pd_len (by rfl) m_len (pda_cons (dcall F__law_references hr (by decide) hG tk (av 0 pda_nil)) pda_nil)) pd_int) (pd_tup (pda_cons pd_str (pda_cons pd_int pda_nil))) pd_non)))))))))) ?_
  rintro as Q E hl ⟨ts, rfl, ⟨hw, hk⟩, q, -⟩
  have q := q _ rfl
  have hk' : ∀ t ∈ ts, OkT t := fun t ht => (hk t ht).ok
  have hlen := refL_len hk'
  refine dSeq_i ?_
  simp [-Bool.exists_bool, -dSeq]
  refine Ct.exI ts rfl (by omega) (fun z hz => ?_) fun _ h => h.elim
  subst hz
  refine dSeq_i ?_
  simp [-Bool.exists_bool, -dSeq]
  have en : (ts.map fun t => D.str t.nm).zipIdx.map (fun p => D.tup [.int p.2, p.1]) = (ts.map (·.nm)).zipIdx.map fun p => .tup [.int p.2, .str p.1] := by
    have : (ts.map fun t => D.str t.nm) = (ts.map (·.nm)).map D.str := by rw [List.map_map]; rfl
    rw [this, List.zipIdx_map, List.map_map]
    rfl
  have hnm : (ts.map fun t => D.str t.nm) = (ts.map (·.nm)).map D.str := by rw [List.map_map]; rfl
  have anyS : ∀ (l : List Str) (x : Str), ((l.map PyData.str).any fun z => z.eqv (PyData.str x)) = decide (x ∈ l) := fun l x => by
    rw [Bool.eq_iff_iff, List.any_eq_true, decide_eq_true_iff]
    constructor
    · rintro ⟨y, hy, e⟩
      obtain ⟨a, ha, rfl⟩ := List.mem_map.mp hy
      rw [eqvSS] at e
      rw [← beq_iff_eq.mp e]
      exact ha
    · exact fun h => ⟨_, List.mem_map.mpr ⟨x, h, rfl⟩, by rw [eqvSS]; exact beq_self_eq_true x⟩
  have exS : ∀ (l : List Str) (x : Str), (∃ y, y ∈ l.map PyData.str ∧ y.eqv (PyData.str x) = true) ↔ x ∈ l := fun l x => by
    exact (List.any_eq_true (l := l.map PyData.str) (p := fun y => y.eqv (PyData.str x))).symm.trans (by rw [anyS, decide_eq_true_iff])
  rw [en, hnm]
  refine goLc_fml _ (fun p : Str × Nat => if p.1 ∈ (ts.map (·.nm)).take p.2 then some (D.str p.1) else none) (by simp; omega) (fun p hp T N hT hN => ?_) ?_
  · simp [-Bool.exists_bool, -List.map_map]
    refine ⟨_, _, ⟨rfl, rfl⟩, _, _, rfl, rfl, ?_⟩
    simp [-Bool.exists_bool, -List.map_map]
    have ct : Pd.cutD ((ts.map (·.nm)).map D.str) none (some (p.2 : Int)) = ((ts.map (·.nm)).take p.2).map D.str := by rw [cut_take, List.map_take]
    rw [ct]
    refine ⟨_, pyL_strs _, ?_⟩
    by_cases c : p.1 ∈ (ts.map (·.nm)).take p.2
    · rw [if_pos ((exS _ _).mpr c)]
      exact hT _ (by simp only [c, if_true])
    · rw [if_neg fun z => c ((exS _ _).mp z)]
      exact hN (by simp only [c, if_false])
  rw [List.nil_append]
  generalize htw : (ts.map (·.nm)).zipIdx.filterMap (fun p => if p.1 ∈ (ts.map (·.nm)).take p.2 then some (D.str p.1) else none) = tw
  have etw : tw.head? = (firstDup [] (ts.map (·.nm))).map D.str := by
    rw [← htw]
    exact dup_head (ts.map (·.nm)) []
  have ptw : ∃ ps, D.pyL tw = some ps := by
    rw [← htw]
    generalize (ts.map (·.nm)).zipIdx = l
    induction l with
    | nil => exact ⟨[], rfl⟩
    | cons a l ih =>
      obtain ⟨ps, ih⟩ := ih
      rw [List.filterMap_cons]
      by_cases c : a.1 ∈ (ts.map (·.nm)).take a.2
      · simp only [c, if_true]
        exact ⟨.str a.1 :: ps, by simp [D.pyL, ih]⟩
      · simp only [c, if_false]
        exact ⟨ps, ih⟩
  refine dSeq_i ?_
  simp [-Bool.exists_bool, -dSeq, -List.map_map]
  refine .inl (Ct.exI ts rfl ⟨by omega, hk'⟩ (fun z hz => ?_) fun _ h => h.elim)
  subst hz
  refine ⟨_, rfl, ?_⟩
  refine goLc_fml _ (fun r : Str × Str × Str × Str => if (decide (r.2.2.1 ∉ ts.map (·.nm))) = true then some (D.str r.2.2.1) else none) (by rw [List.length_nil]; omega) (fun p hp T N hT hN => ?_) ?_
  · simp [-Bool.exists_bool, -List.map_map, refD]
    refine ⟨_, _, ⟨rfl, rfl⟩, _, _, rfl, rfl, ?_⟩
    simp [-Bool.exists_bool, -List.map_map, atI, ixN]
    refine ⟨_, pyL_strs _, !decide (p.2.2.1 ∈ ts.map (·.nm)), by rw [anyS, Bool.not_not], ?_⟩
    by_cases c : p.2.2.1 ∈ ts.map (·.nm)
    · rw [if_neg (by simpa using c)]
      exact hN (by rw [if_neg (by simpa using c)])
    · rw [if_pos (by simpa using c)]
      exact hT _ (by rw [if_pos (by simpa using c)])
  rw [List.nil_append]
  generalize hlo : (ts.flatMap refL).filterMap (fun r => if (decide (r.2.2.1 ∉ ts.map (·.nm))) = true then some (D.str r.2.2.1) else none) = lo
  have elo : lo.head? = (lost ts).map D.str := by
    rw [← hlo, find_head (p := fun r : Str × Str × Str × Str => decide (r.2.2.1 ∉ ts.map (·.nm))) (f := fun r => D.str r.2.2.1)]
    have e : ts.flatMap tgts = (ts.flatMap refL).map (·.2.2.1) := by
      rw [List.map_flatMap]
      congr 1
      funext t
      exact (refL_tgts t).symm
    unfold lost
    rw [e, List.find?_map, Option.map_map]
    rfl
  have plo : ∃ ps, D.pyL lo = some ps := by
    rw [← hlo]
    generalize ts.flatMap refL = l
    induction l with
    | nil => exact ⟨[], rfl⟩
    | cons a l ih =>
      obtain ⟨ps, ih⟩ := ih
      rw [List.filterMap_cons]
      by_cases c : (decide (a.2.2.1 ∉ ts.map (·.nm))) = true
      · rw [if_pos c]
        exact ⟨.str a.2.2.1 :: ps, by rw [D.pyL, ih]; rfl⟩
      · rw [if_neg c]
        exact ⟨ps, ih⟩
  clear htw hlo
  obtain ⟨ptw, htw⟩ := ptw
  obtain ⟨plo, hlo⟩ := plo
  have e1' := pyL_empty htw
  have e2' := pyL_empty hlo
  unfold schOut at q
  refine dSeq_i ?_
  simp [-Bool.exists_bool, -dSeq, -List.map_map]
  have e8 : Str.ofString "twice" = "twice" := rfl
  refine ⟨_, ⟨_, htw, rfl⟩, Nat.le_trans (Nat.min_le_right _ _) (by decide), !ptw.isEmpty, by rw [eqv_nil, Bool.not_not], ?_⟩
  rw [e1']
  cases tw with
  | cons a r =>
    obtain ⟨n, en, ea⟩ : ∃ n, firstDup [] (ts.map (·.nm)) = some n ∧ a = .str n := by
      cases c : firstDup [] (ts.map (·.nm)) with
      | none => rw [c] at etw; cases etw
      | some n => rw [c] at etw; exact ⟨n, rfl, by simpa using etw⟩
    subst ea
    rw [en] at q
    rw [if_pos (by rfl)]
    exact ⟨.str n, by simp [atI, ixN], q⟩
  | nil =>
    have en : firstDup [] (ts.map (·.nm)) = none := by
      cases c : firstDup [] (ts.map (·.nm)) with
      | none => rfl
      | some n => rw [c] at etw; cases etw
    rw [en] at q
    dsimp only at q
    rw [if_neg (by simp)]
    refine dSeq_i ?_
    simp [-Bool.exists_bool, -dSeq, -List.map_map]
    refine ⟨_, ⟨_, hlo, rfl⟩, Nat.le_trans (Nat.min_le_right _ _) (by decide), !plo.isEmpty, by rw [eqv_nil, Bool.not_not], ?_⟩
    rw [e2']
    cases lo with
    | cons a r =>
      obtain ⟨n, en, ea⟩ : ∃ n, lost ts = some n ∧ a = .str n := by
        cases c : lost ts with
        | none => rw [c] at elo; cases elo
        | some n => rw [c] at elo; exact ⟨n, rfl, by simpa using elo⟩
      subst ea
      rw [en] at q
      rw [if_pos (by rfl)]
      exact ⟨.str n, by simp [atI, ixN], q⟩
    | nil =>
      have en : lost ts = none := by
        cases c : lost ts with
        | none => rfl
        | some n => rw [c] at elo; cases elo
      rw [en] at q
      dsimp only at q
      rw [if_neg (by simp)]
      refine dSeq_i ?_
      simp [-Bool.exists_bool, -dSeq, -List.map_map]
      by_cases c1 : 1 ≤ ts.length
      rotate_left
      · rw [if_neg (by omega)]
        rw [if_neg (by omega)] at q
        exact q
      by_cases c2 : ts.length ≤ 5
      rotate_left
      · rw [if_pos (by omega), if_neg (by omega)]
        rw [if_neg (by omega)] at q
        exact q
      rw [if_pos (by omega), if_pos (by omega)]
      rw [if_pos ⟨c1, c2⟩] at q
      refine Ct.exI ts rfl ⟨by omega, hk'⟩ (fun z hz => ?_) fun _ h => h.elim
      subst hz
      have el : (refS ts).length = ((ts.flatMap refL).map refD).length := by rw [refL_refS, List.length_map, List.length_map]
      rw [el] at q
      by_cases c3 : 10 < ((ts.flatMap refL).map refD).length
      · rw [if_pos c3] at q
        show if (10 : Int) < _ then _ else _
        rw [if_pos (by omega)]
        exact q
      · rw [if_neg c3] at q
        show if (10 : Int) < _ then _ else _
        rw [if_neg (by omega)]
        exact q

theorem fg__law_due {P : Program} {w : World} {K : PySem.W.Frag} {mg : Str → Option Value} {base : Heap} {f : Addr} {fd : FuncData} (F : FunD K "_law_due" "_law_due" (defArgs s__law_due) (defBody s__law_due) (defScope s__law_due) [] [] f fd) (hm : mg "_law_due" = some (.ref f)) (F__law_names : FnG P w K mg base 1 "_law_names" 1 (ct__law_names )) (F__law_references : FnG P w K mg base 1 "_law_references" 1 (ct__law_references )) (m_enumerate : mg "enumerate" = none) (m_len : mg "len" = none) : FnG P w K mg base 2 "_law_due" 1 (ct__law_due ) :=
  fnG_of F sc__law_due hm (ok__law_due F F__law_names F__law_references m_enumerate m_len) (F.bindsN fun _ _ _ _ _ _ us hl => match us, hl with | [_], _ => rfl) Ct.ex_mono
end K3
end
section
set_option autoImplicit true
set_option Elab.async false
set_option linter.all false
set_option maxRecDepth 100000
set_option maxHeartbeats 4000000
namespace K3
open PySem PySem.Spec PyProof.Rows L2 Pd
open Pg Pf
def base5 : List Str := ["a", "b", "c", "d", "e"]
def nameLists : List (List Str) := (List.range 5).flatMap fun k => [base5.take (k + 1), (base5.take (k + 1)).reverse.map fun n => n ++ n]
theorem nl_all : ∀ ns ∈ nameLists, ns.Nodup ∧ 1 ≤ ns.length ∧ ns.length ≤ 5 ∧ ∀ n ∈ ns, n ∈ wN := by decide +kernel
theorem nl_take : ∀ k ∈ List.range 5, base5.take (k + 1) ∈ nameLists ∧ (base5.take (k + 1)).reverse.map (fun n => n ++ n) ∈ nameLists := by decide +kernel
structure Drawn (ts : List Tab) : Prop where
  nms : ts.map (·.nm) ∈ nameLists
  good : ∀ t ∈ ts, GoodT t
  tg : ∀ t ∈ ts, ∀ x ∈ tgts t, x ∈ ts.map (·.nm)
  rf : (ts.flatMap refL).length ≤ 10
theorem fm_filter {α β : Type} {p : α → Bool} {f : α → β} : ∀ {l : List α}, (l.filterMap fun a => if p a = true then some (f a) else none) = (l.filter p).map f
  | [] => rfl
  | a :: l => by
    rw [List.filterMap_cons, List.filter_cons]
    cases c : p a with
    | true => simp [fm_filter]
    | false => simpa using fm_filter
theorem at_last {α : Type} (l : List α) (a : α) : atI (l ++ [a]) (-1) = some a := by
  have e : ixN (l ++ [a]).length (-1) = some l.length := by
    unfold ixN
    rw [if_neg (by omega), if_pos (by simp; omega)]
    simp
    omega
  unfold atI
  rw [e]
  simp
theorem refL_len1 (t : Tab) : (refL t).length = t.ids.length + (t.cs.map fun c => c.ln.length).sum := by
  have er : refL t = (t.ids.map fun p => (t.nm, (Str.ofString "id"), p.1, p.2)) ++ t.cs.flatMap fun c => c.ln.map fun p => (t.nm, c.ti, p.1, p.2) := by
    simp [refL, linksOf, List.flatMap_cons, List.flatMap_map]
  rw [er, List.length_append, List.length_map, List.length_flatMap]
  simp
abbrev s__law_schema : Stmt := top 43
abbrev N__law_schema : List Str := ["_law_bag_here", "_law_most", "_law_names_here", "_law_found", "_law_room", "_law_name", "_law_others", "_law_own_ids", "_law_columns", "_law_title", "_law_other"]
theorem sc__law_schema : FnScope N__law_schema ["_law_bag_here", "_law_most"] (defScope s__law_schema) := ⟨rfl, rfl, rfl, by decide +kernel, rfl, by decide +kernel, by decide +kernel⟩
def ct__law_schema : Ct := Ct.ex 222 (fun _ : Unit => [none, some (.int 5)]) (fun _ => True) (fun _ z => ∃ ts, z = .lst (ts.map lawT) ∧ Drawn ts) (fun _ _ => False)
theorem ok__law_schema {P : Program} {w : World} {K : PySem.W.Frag} {mg : Str → Option Value} {base : Heap} {f : Addr} {fd : FuncData} (F : FunD K "_law_schema" "_law_schema" (defArgs s__law_schema) (defBody s__law_schema) (defScope s__law_schema) [] [] f fd) (F__law_column : FnG P w K mg base 4 "_law_column" 4 (ct__law_column )) (F__law_links : FnG P w K mg base 3 "_law_links" 4 (ct__law_links )) (F__law_of : FnG P w K mg base 2 "_law_of" 2 (ct__law_of )) (F__law_take : FnG P w K mg base 1 "_law_take" 2 (ctTake )) (m_len : mg "len" = none) (m_min : mg "min" = none) : Fd P w K mg base 5 f fd ["_law_bag_here", "_law_most"] (spC K 2 (ct__law_schema )) := by
  have nd := sc__law_schema.nd
  refine fd_body (N := N__law_schema) (ct := ct__law_schema ) F sc__law_schema (fun cdv A outer s H E hr hG tk pw => have hu := Room.units hr; have hv := room_u hr; (pdss_cons (pds_parDLD (i := 2) (j := 3) (l := 4) rfl nd rfl rfl rfl (by decide) (by decide) (by decide) rfl rfl rfl (pd_L (pdl_sl (pd_L (pdl_lst (pda_cons pd_str (pda_cons pd_str (pda_cons pd_str (pda_cons pd_str (pda_cons pd_str pda_nil))))))) pdo_none (pdo_some (pd_add pd_int (dcall F__law_take hr (by decide) hG tk (av 0 (av 1 pda_nil))))))) (pdl_lst pda_nil) pd_int (by rfl))
    (pdss_cons (pds_if (pdt_cmp (op_eqP hu) snd_eq (dcall F__law_take hr (by decide) hG tk (av 0 (pda_cons pd_int pda_nil))) pd_int) (pdss_one (pds_setLc (i := 2) (own := [("_law_name", 5)]) rfl nd rfl rfl (sw_true rfl rfl rfl rfl) (blkOk_by (by kernel_rfl)) (pdi_any (pd_L (pdl_rev (dv 2)))) (fun i => (pdgw_name (i := 5) nd rfl (by first | exact .inl rfl | exact .inr rfl) (by decide))) (fun i => pdts_nil) (fun i => (pd_add (dv 5) (dv 5))))) pdss_nil)
    (pdss_cons (pds_for pw rfl (pdi_any (dv 2)) (pdg_name (i := 5) nd rfl (by first | exact .inl rfl | exact .inr rfl)) (pdss_cons (pds_setLc (i := 6) (own := [("_law_other", 10)]) rfl nd rfl rfl (sw_true rfl rfl rfl rfl) (blkOk_by (by kernel_rfl)) (pdi_any (dv 2)) (fun i => (pdgw_name (i := 10) nd rfl (by first | exact .inl rfl | exact .inr rfl) (by decide))) (fun i => (pdts_one (pdt_cmp (op_neP hu) snd_ne (dv 10) (dv 5)))) (fun i => (dv 10)))
    (pdss_cons (pds_set (i := 7) nd rfl (by first | exact .inl rfl | exact .inr rfl) (dcall F__law_links hr (by decide) hG tk (av 0 (av 6 (pda_cons (pd_L (pdl_lst (pda_cons pd_str (pda_cons pd_str (pda_cons pd_str pda_nil))))) (pda_cons (pd_mul (pd_min2 rfl m_min (av 4 (pda_cons pd_int pda_nil))) (dcall F__law_take hr (by decide) hG tk (av 0 (pda_cons pd_int pda_nil)))) pda_nil))))))
    (pdss_cons (pds_set (i := 4) nd rfl (by first | exact .inl rfl | exact .inr rfl) (pd_sub (dv 4) (pd_lenV (i := 7) rfl (by first | exact .inl rfl | exact .inr (.inl rfl) | exact .inr (.inr rfl)) (by rfl) m_len)))
    (pdss_cons (pds_setL (i := 8) nd rfl (by first | exact .inl rfl | exact .inr rfl) (pdl_lst pda_nil))
    (pdss_cons (pds_for pw rfl (pdi_any (pd_L (pdl_sl (pd_L (pdl_lst (pda_cons pd_str (pda_cons pd_str (pda_cons pd_str pda_nil))))) pdo_none (pdo_some (dcall F__law_of hr (by decide) hG tk (av 0 (pda_cons (pd_L (pdl_lst (pda_cons pd_int (pda_cons pd_int (pda_cons pd_int (pda_cons pd_int (pda_cons pd_int (pda_cons pd_int pda_nil)))))))) pda_nil))))))) (pdg_name (i := 9) nd rfl (by first | exact .inl rfl | exact .inr rfl)) (pdss_cons (pds_expr (pd_append (i := 8) rfl (.inl rfl) (pda_cons (dcall F__law_column hr (by decide) hG tk (av 0 (av 9 (av 2 (pda_cons (pd_min2 rfl m_min (av 4 (pda_cons pd_int pda_nil))) pda_nil))))) pda_nil)))
    (pdss_one (pds_set (i := 4) nd rfl (by first | exact .inl rfl | exact .inr rfl) (pd_sub (dv 4) (pd_len (by rfl) m_len (pda_cons (pd_ix (pd_ixV (i := 8) rfl (by first | exact .inl rfl | exact .inr (.inl rfl) | exact .inr (.inr rfl)) (pd_neg pd_int)) pd_int) pda_nil)))))))
    (pdss_one (pds_expr (pd_append (i := 3) rfl (.inl rfl) (pda_cons (pd_tup (av 5 (av 7 (av 8 pda_nil)))) pda_nil))))))))))
    (pdss_one (pds_ret (dv 3))))))) ?_
  rintro as Q E hl ⟨_, rfl, -, q, -⟩
  dsimp only at q
  have c1 : (ct__law_links).cost = 9 := rfl
  have c2 : (ct__law_column).cost = 11 := rfl
  have c3 : (ct__law_of).cost = 1 := rfl
  have c4 : ctTake.cost = 1 := rfl
  refine dSeq_i ?_
  simp [-Bool.exists_bool, -dSeq, c4, ct__law_schema, Ct.ex]
  refine ⟨5, rfl, by decide, by decide, fun j hj0 hj1 => ?_⟩
  obtain ⟨k, rfl⟩ := Int.eq_ofNat_of_zero_le hj0
  obtain ⟨n1, n2⟩ := nl_take k (by simp; omega)
  have e1 : Pd.cutD [D.str (Str.ofString "a"), D.str (Str.ofString "b"), D.str (Str.ofString "c"), D.str (Str.ofString "d"), D.str (Str.ofString "e")] none (some (1 + (k : Int))) = (base5.take (k + 1)).map .str := by
    rw [show (1 + (k : Int)) = ((k + 1 : Nat) : Int) from by omega, cut_take, List.map_take]
    rfl
  generalize hb : base5.take (k + 1) = bs at n1 n2 e1
  have e2 : (bs.map D.str).reverse = bs.reverse.map D.str := by rw [List.map_reverse]
  show dSeq _ _ _ _
  refine dSeq_i ?_
  simp [-Bool.exists_bool, -dSeq, c4, e1, -List.map_reverse, e2]
  refine ⟨3, rfl, by decide, by decide, fun i hi0 hi1 => ?_⟩
  refine ⟨_, rfl, ?_⟩
  have sz : ∀ n ∈ wN, n.length + n.length ≤ sizeLine := by decide +kernel
  have w5 : ∀ n ∈ bs, n ∈ wN := (nl_all _ n1).2.2.2
  have l5 : bs.length ≤ 5 := (nl_all _ n1).2.2.1
  by_cases hc : (PyData.int i).eqv (PyData.int 0) = true
  · rw [if_pos hc]
    refine goLc_mapl D.str (fun n => .str (n ++ n)) (by simp; omega) (fun n hn T N hT => ?_) ?_
    · have := sz n (w5 n (by simpa using hn))
      simp [-Bool.exists_bool]
      exact ⟨this, hT⟩
    have e3 : (bs.reverse.map fun n => D.str (n ++ n)) = (bs.reverse.map fun n => n ++ n).map D.str := by rw [List.map_map]; rfl
    rw [List.nil_append, e3]
    generalize bs.reverse.map (fun n => n ++ n) = ns at n2
    clear e1 e2 e3 hc n1 w5 l5 sz
    refine dSeq_i ?_
    simp [-Bool.exists_bool, -dSeq]
    obtain ⟨f1, f2, f3, f4⟩ := nl_all ns n2 
    refine loopD_inv (fun ds sv => ∃ (r : List Str) (done : List Tab) (m room : Nat) (s5 s6 s7 s8 s9 s10 : Sl), ds = r.map .str ∧ sv = [.bag m, .dat (.int 5), .dat (.lst (ns.map .str)), .own (done.map lawT), .dat (.int room), s5, s6, s7, s8, s9, s10] ∧ 44 * r.length ≤ m ∧ ns = done.map (·.nm) ++ r ∧ (∀ t ∈ done, GoodT t ∧ ∀ x ∈ tgts t, x ∈ ns) ∧ room + (done.flatMap refL).length = 10) ⟨ns, [], 220, 10, _, _, _, _, _, _, rfl, rfl, by omega, rfl, by simp, rfl⟩ ?_ ?_
    · rintro sv ⟨r, done, m, room, s5, s6, s7, s8, s9, s10, e, rfl, _, en, hd, hr⟩
      obtain rfl : r = [] := by simpa using e.symm
      rw [List.append_nil] at en
      exact q _ ⟨done, rfl, ⟨by rw [← en]; exact n2 , fun t ht => (hd t ht).1, fun t ht x hx => by rw [← en]; exact (hd t ht).2 x hx, by omega⟩⟩
    rintro d r0 sv ⟨r, done, m, room, s5, s6, s7, s8, s9, s10, e, rfl, hm, en, hd, hr⟩ nx hnx
    match r, e, hm, en with
    | n :: r, e, hm, en =>
    simp only [List.map_cons, List.cons.injEq] at e
    obtain ⟨rfl, rfl⟩ := e
    rw [List.length_cons] at hm
    refine dSeq_i ?_
    simp [-Bool.exists_bool, -dSeq]
    refine goLc_fml D.str (fun x => if decide (x ≠ n) = true then some (D.str x) else none) (by simp; omega) (fun x hx T N hT n2 => ?_) ?_
    · simp [-Bool.exists_bool, eqvSS]
      refine ⟨!(x == n), by rw [Bool.not_not], ?_⟩
      by_cases c : x = n
      · rw [if_neg (by simp [c])]
        exact n2 (by simp [c])
      · rw [if_pos (by simp [c])]
        exact hT _ (by simp [c])
    rw [List.nil_append, fm_filter (p := fun x => decide (x ≠ n)) (f := D.str)]
    generalize ho : ns.filter (fun x => decide (x ≠ n)) = os
    have o1 : os.Nodup := by rw [← ho]; exact f1.filter _
    have o2 : os.length ≤ 5 := by rw [← ho]; exact Nat.le_trans (List.length_filter_le _ _) f3
    have o3 : ∀ x ∈ os, x ∈ ns ∧ x ≠ n := fun x hx => by rw [← ho] at hx; simpa using List.mem_filter.mp hx
    refine dSeq_i ?_
    simp [-Bool.exists_bool, -dSeq, c1, c4]
    refine ⟨_, _, ⟨rfl, rfl⟩, by omega, 2, rfl, by decide, by decide, fun j hj0 hj1 => ?_⟩
    obtain ⟨j, rfl⟩ := Int.eq_ofNat_of_zero_le hj0
    have hj2 : j < 2 := by omega
    obtain ⟨mo, hmo, hm1, hm2⟩ : ∃ mo : Nat, (if (2 : Int) < room then 2 else (room : Int)) * (j : Int) = (mo : Int) ∧ mo ≤ 2 ∧ mo ≤ room := by
      have j01 : j = 0 ∨ j = 1 := by omega
      by_cases c : 2 < room
      · rcases j01 with rfl | rfl
        · exact ⟨0, by simp, by omega, by omega⟩
        · exact ⟨2, by rw [if_pos (by omega)]; rfl, by omega, by omega⟩
      · rcases j01 with rfl | rfl
        · exact ⟨0, by simp, by omega, by omega⟩
        · exact ⟨room, by rw [if_neg (by omega)]; simp, by omega, by omega⟩
    dsimp only
    refine ⟨?_, by omega, ?_⟩
    · refine .inr ⟨by omega, by omega⟩
    rw [hmo]
    refine Ct.exI (os, acts3, mo) rfl ⟨o1, o2, by simp [acts3], by simp [acts3]⟩ (fun z hz => ?_) fun _ z => z.elim
    obtain ⟨ps, rfl, p1, p2, p3, p4⟩ := hz
    dsimp only at p3 p4
    refine dSeq_i ?_
    simp [-Bool.exists_bool, -dSeq, c1, c4]
    have hlp : (pairsD ps).length = ps.length := by simp [pairsD]
    obtain ⟨rm, hrm, hrm2⟩ : ∃ rm : Nat, (room : Int) - ((pairsD ps).length : Int) = (rm : Int) ∧ rm + ps.length = room := ⟨room - ps.length, by omega, by omega⟩
    rw [hrm]
    refine dSeq_i ?_
    simp [-Bool.exists_bool, -dSeq]
    refine dSeq_i ?_
    simp [-Bool.exists_bool, -dSeq, c3]
    refine .inl ⟨by omega, Ct.exI [.int 0, .int 1, .int 1, .int 2, .int 2, .int 3] rfl ⟨by simp, by simp⟩ (fun z hz => ?_) fun _ z => z.elim⟩
    obtain ⟨tn, rfl, htn⟩ : ∃ tn : Nat, z = .int tn ∧ tn ≤ 3 := by
      simp only [List.mem_cons, List.not_mem_nil, or_false] at hz
      rcases hz with rfl | rfl | rfl | rfl | rfl | rfl
      · exact ⟨0, rfl, by omega⟩
      · exact ⟨1, rfl, by omega⟩
      · exact ⟨1, rfl, by omega⟩
      · exact ⟨2, rfl, by omega⟩
      · exact ⟨2, rfl, by omega⟩
      · exact ⟨3, rfl, by omega⟩
    refine ⟨_, rfl, ?_⟩
    have et : Pd.cutD [D.str (Str.ofString "x"), D.str (Str.ofString "y"), D.str (Str.ofString "z")] none (some (tn : Int)) = (titN.take tn).map .str := by
      rw [cut_take, List.map_take]
      rfl
    have tnd : (titN.take tn).Nodup ∧ (titN.take tn).length ≤ 3 ∧ ∀ x ∈ titN.take tn, x ∈ titN := ⟨(show titN.Nodup by decide +kernel).sublist (List.take_sublist _ _), by simp [titN]; omega, fun x hx => List.mem_of_mem_take hx⟩
    rw [et]
    generalize titN.take tn = tl at tnd
    refine loopD_inv (fun ds sv => ∃ (tr : List Str) (cs : List Col) (m2 rm2 : Nat) (s9 : Sl), ds = tr.map .str ∧ sv = [.bag m2, .dat (.int 5), .dat (.lst (ns.map .str)), .own (done.map lawT), .dat (.int rm2), .dat (.str n), .dat (.lst (os.map .str)), .dat (.lst (pairsD ps)), .own (cs.map lawC), s9, .un] ∧ 44 * r.length + 11 * tr.length ≤ m2 ∧ tl = cs.map (·.ti) ++ tr ∧ (∀ c ∈ cs, GoodC c ∧ ∀ p ∈ c.ln, p.1 ∈ ns) ∧ rm2 + (cs.map fun c => c.ln.length).sum = rm) ⟨tl, [], _, _, _, rfl, rfl, by omega, rfl, by simp, rfl⟩ ?_ ?_
    · rintro sv ⟨tr, cs, m2, rm2, s9, e, rfl, hm2, ent, hcs, hrm2⟩
      obtain rfl : tr = [] := by simpa using e.symm
      rw [List.append_nil] at ent
      simp [-Bool.exists_bool]
      have ldone : done.length ≤ 5 := by
        have := congrArg List.length en
        simp at this
        omega
      have tt : ∀ x ∈ tgts ⟨n, ps, cs⟩, x ∈ ns := fun x hx => by
        obtain ⟨l, hl, hx⟩ := List.mem_flatMap.mp hx
        obtain ⟨p, hp, rfl⟩ := List.mem_map.mp hx
        rcases List.mem_cons.mp hl with rfl | hl
        · exact (o3 _ (p4 p hp).1).1
        · obtain ⟨c, hc, rfl⟩ := List.mem_map.mp hl
          exact (hcs c hc).2 p hp
      have gt : GoodT ⟨n, ps, cs⟩ := by
        refine ⟨f4 n (by rw [en]; simp), p1, p2, fun p hp => ⟨f4 _ (o3 _ (p4 p hp).1).1, (o3 _ (p4 p hp).1).2, (p4 p hp).2⟩, fun c hc => (hcs c hc).1, ?_, ?_⟩
        · dsimp only
          rw [← ent]
          exact tnd.1
        · have := tnd.2.1
          rw [ent] at this
          simpa using this
      refine ⟨by omega, hnx _ ⟨r, done ++ [⟨n, ps, cs⟩], m2, rm2, _, _, _, _, _, _, rfl, by simp [lawT]; exact ⟨rfl, rfl, rfl, rfl, rfl, rfl⟩, by omega, by rw [en]; simp, fun t ht => ?_, ?_⟩⟩
      · rcases List.mem_append.mp ht with ht | ht
        · exact hd t ht
        · obtain rfl : t = ⟨n, ps, cs⟩ := by simpa using ht
          exact ⟨gt, tt⟩
      · rw [List.flatMap_append, List.length_append, List.flatMap_cons, List.flatMap_nil, List.append_nil, refL_len1]
        dsimp only
        omega
    rintro d r1 sv ⟨tr, cs, m2, rm2, s9, e, rfl, hm2, ent, hcs, hrm2⟩ nx2 hnx2
    match tr, e, hm2, ent with
    | ti :: tr, e, hm2, ent =>
    simp only [List.map_cons, List.cons.injEq] at e
    obtain ⟨rfl, rfl⟩ := e
    rw [List.length_cons] at hm2
    refine dSeq_i ?_
    simp [-Bool.exists_bool, -dSeq, c2]
    obtain ⟨mo2, hmo2, hmo3, hmo4⟩ : ∃ mo2 : Nat, (if (3 : Int) < rm2 then 3 else (rm2 : Int)) = (mo2 : Int) ∧ mo2 ≤ 3 ∧ mo2 ≤ rm2 := by
      by_cases c : 3 < rm2
      · exact ⟨3, by rw [if_pos (by omega)]; rfl, by omega, by omega⟩
      · exact ⟨rm2, by rw [if_neg (by omega)], by omega, by omega⟩
    refine ⟨_, _, ⟨rfl, rfl⟩, by omega, ?_⟩
    rw [hmo2]
    have tiin : ti ∈ titN := tnd.2.2 ti (by rw [ent]; simp)
    have lcs : cs.length ≤ 3 := by
      have := congrArg List.length ent
      have := tnd.2.1
      simp at *
      omega
    refine Ct.exI (ti, ns, mo2) rfl ⟨tiin, f1, f3, f4, hmo3⟩ (fun z hz => ?_) fun _ z => z.elim
    obtain ⟨c, rfl, k1, k2, k3, k4⟩ := hz
    dsimp only at k1 k3 k4
    have lc : (pairsD c.ln).length = c.ln.length := by simp [pairsD]
    refine ⟨by omega, lawC c, at_last _ _, ?_⟩
    refine ⟨.lst (pairsD c.ln), by simp [atI, ixN], ?_⟩
    obtain ⟨rm3, hrm3, hrm4⟩ : ∃ rm3 : Nat, (rm2 : Int) - ((pairsD c.ln).length : Int) = (rm3 : Int) ∧ rm3 + c.ln.length = rm2 := ⟨rm2 - c.ln.length, by omega, by omega⟩
    dsimp only
    rw [hrm3]
    refine hnx2 _ ⟨tr, cs ++ [c], m2 - 11, rm3, _, rfl, by simp; rfl, by omega, by rw [ent]; simp [k1], fun x hx => ?_, ?_⟩
    · rcases List.mem_append.mp hx with hx | hx
      · exact hcs x hx
      · obtain rfl : x = c := by simpa using hx
        exact ⟨k2, k4⟩
    · simp
      omega
  · rw [if_neg hc]
    clear e1 e2 hc n2 w5 l5 sz
    refine dSeq_i ?_
    simp [-Bool.exists_bool, -dSeq]
    obtain ⟨f1, f2, f3, f4⟩ := nl_all bs n1 
    refine loopD_inv (fun ds sv => ∃ (r : List Str) (done : List Tab) (m room : Nat) (s5 s6 s7 s8 s9 s10 : Sl), ds = r.map .str ∧ sv = [.bag m, .dat (.int 5), .dat (.lst (bs.map .str)), .own (done.map lawT), .dat (.int room), s5, s6, s7, s8, s9, s10] ∧ 44 * r.length ≤ m ∧ bs = done.map (·.nm) ++ r ∧ (∀ t ∈ done, GoodT t ∧ ∀ x ∈ tgts t, x ∈ bs) ∧ room + (done.flatMap refL).length = 10) ⟨bs, [], 220, 10, _, _, _, _, _, _, rfl, rfl, by omega, rfl, by simp, rfl⟩ ?_ ?_
    · rintro sv ⟨r, done, m, room, s5, s6, s7, s8, s9, s10, e, rfl, _, en, hd, hr⟩
      obtain rfl : r = [] := by simpa using e.symm
      rw [List.append_nil] at en
      exact q _ ⟨done, rfl, ⟨by rw [← en]; exact n1 , fun t ht => (hd t ht).1, fun t ht x hx => by rw [← en]; exact (hd t ht).2 x hx, by omega⟩⟩
    rintro d r0 sv ⟨r, done, m, room, s5, s6, s7, s8, s9, s10, e, rfl, hm, en, hd, hr⟩ nx hnx
    match r, e, hm, en with
    | n :: r, e, hm, en =>
    simp only [List.map_cons, List.cons.injEq] at e
    obtain ⟨rfl, rfl⟩ := e
    rw [List.length_cons] at hm
    refine dSeq_i ?_
    simp [-Bool.exists_bool, -dSeq]
    refine goLc_fml D.str (fun x => if decide (x ≠ n) = true then some (D.str x) else none) (by simp; omega) (fun x hx T N hT n1 => ?_) ?_
    · simp [-Bool.exists_bool, eqvSS]
      refine ⟨!(x == n), by rw [Bool.not_not], ?_⟩
      by_cases c : x = n
      · rw [if_neg (by simp [c])]
        exact n1 (by simp [c])
      · rw [if_pos (by simp [c])]
        exact hT _ (by simp [c])
    rw [List.nil_append, fm_filter (p := fun x => decide (x ≠ n)) (f := D.str)]
    generalize ho : bs.filter (fun x => decide (x ≠ n)) = os
    have o1 : os.Nodup := by rw [← ho]; exact f1.filter _
    have o2 : os.length ≤ 5 := by rw [← ho]; exact Nat.le_trans (List.length_filter_le _ _) f3
    have o3 : ∀ x ∈ os, x ∈ bs ∧ x ≠ n := fun x hx => by rw [← ho] at hx; simpa using List.mem_filter.mp hx
    refine dSeq_i ?_
    simp [-Bool.exists_bool, -dSeq, c1, c4]
    refine ⟨_, _, ⟨rfl, rfl⟩, by omega, 2, rfl, by decide, by decide, fun j hj0 hj1 => ?_⟩
    obtain ⟨j, rfl⟩ := Int.eq_ofNat_of_zero_le hj0
    have hj2 : j < 2 := by omega
    obtain ⟨mo, hmo, hm1, hm2⟩ : ∃ mo : Nat, (if (2 : Int) < room then 2 else (room : Int)) * (j : Int) = (mo : Int) ∧ mo ≤ 2 ∧ mo ≤ room := by
      have j01 : j = 0 ∨ j = 1 := by omega
      by_cases c : 2 < room
      · rcases j01 with rfl | rfl
        · exact ⟨0, by simp, by omega, by omega⟩
        · exact ⟨2, by rw [if_pos (by omega)]; rfl, by omega, by omega⟩
      · rcases j01 with rfl | rfl
        · exact ⟨0, by simp, by omega, by omega⟩
        · exact ⟨room, by rw [if_neg (by omega)]; simp, by omega, by omega⟩
    dsimp only
    refine ⟨?_, by omega, ?_⟩
    · refine .inr ⟨by omega, by omega⟩
    rw [hmo]
    refine Ct.exI (os, acts3, mo) rfl ⟨o1, o2, by simp [acts3], by simp [acts3]⟩ (fun z hz => ?_) fun _ z => z.elim
    obtain ⟨ps, rfl, p1, p2, p3, p4⟩ := hz
    dsimp only at p3 p4
    refine dSeq_i ?_
    simp [-Bool.exists_bool, -dSeq, c1, c4]
    have hlp : (pairsD ps).length = ps.length := by simp [pairsD]
    obtain ⟨rm, hrm, hrm2⟩ : ∃ rm : Nat, (room : Int) - ((pairsD ps).length : Int) = (rm : Int) ∧ rm + ps.length = room := ⟨room - ps.length, by omega, by omega⟩
    rw [hrm]
    refine dSeq_i ?_
    simp [-Bool.exists_bool, -dSeq]
    refine dSeq_i ?_
    simp [-Bool.exists_bool, -dSeq, c3]
    refine .inl ⟨by omega, Ct.exI [.int 0, .int 1, .int 1, .int 2, .int 2, .int 3] rfl ⟨by simp, by simp⟩ (fun z hz => ?_) fun _ z => z.elim⟩
    obtain ⟨tn, rfl, htn⟩ : ∃ tn : Nat, z = .int tn ∧ tn ≤ 3 := by
      simp only [List.mem_cons, List.not_mem_nil, or_false] at hz
      rcases hz with rfl | rfl | rfl | rfl | rfl | rfl
      · exact ⟨0, rfl, by omega⟩
      · exact ⟨1, rfl, by omega⟩
      · exact ⟨1, rfl, by omega⟩
      · exact ⟨2, rfl, by omega⟩
      · exact ⟨2, rfl, by omega⟩
      · exact ⟨3, rfl, by omega⟩
    refine ⟨_, rfl, ?_⟩
    have et : Pd.cutD [D.str (Str.ofString "x"), D.str (Str.ofString "y"), D.str (Str.ofString "z")] none (some (tn : Int)) = (titN.take tn).map .str := by
      rw [cut_take, List.map_take]
      rfl
    have tnd : (titN.take tn).Nodup ∧ (titN.take tn).length ≤ 3 ∧ ∀ x ∈ titN.take tn, x ∈ titN := ⟨(show titN.Nodup by decide +kernel).sublist (List.take_sublist _ _), by simp [titN]; omega, fun x hx => List.mem_of_mem_take hx⟩
    rw [et]
    generalize titN.take tn = tl at tnd
    refine loopD_inv (fun ds sv => ∃ (tr : List Str) (cs : List Col) (m2 rm2 : Nat) (s9 : Sl), ds = tr.map .str ∧ sv = [.bag m2, .dat (.int 5), .dat (.lst (bs.map .str)), .own (done.map lawT), .dat (.int rm2), .dat (.str n), .dat (.lst (os.map .str)), .dat (.lst (pairsD ps)), .own (cs.map lawC), s9, .un] ∧ 44 * r.length + 11 * tr.length ≤ m2 ∧ tl = cs.map (·.ti) ++ tr ∧ (∀ c ∈ cs, GoodC c ∧ ∀ p ∈ c.ln, p.1 ∈ bs) ∧ rm2 + (cs.map fun c => c.ln.length).sum = rm) ⟨tl, [], _, _, _, rfl, rfl, by omega, rfl, by simp, rfl⟩ ?_ ?_
    · rintro sv ⟨tr, cs, m2, rm2, s9, e, rfl, hm2, ent, hcs, hrm2⟩
      obtain rfl : tr = [] := by simpa using e.symm
      rw [List.append_nil] at ent
      simp [-Bool.exists_bool]
      have ldone : done.length ≤ 5 := by
        have := congrArg List.length en
        simp at this
        omega
      have tt : ∀ x ∈ tgts ⟨n, ps, cs⟩, x ∈ bs := fun x hx => by
        obtain ⟨l, hl, hx⟩ := List.mem_flatMap.mp hx
        obtain ⟨p, hp, rfl⟩ := List.mem_map.mp hx
        rcases List.mem_cons.mp hl with rfl | hl
        · exact (o3 _ (p4 p hp).1).1
        · obtain ⟨c, hc, rfl⟩ := List.mem_map.mp hl
          exact (hcs c hc).2 p hp
      have gt : GoodT ⟨n, ps, cs⟩ := by
        refine ⟨f4 n (by rw [en]; simp), p1, p2, fun p hp => ⟨f4 _ (o3 _ (p4 p hp).1).1, (o3 _ (p4 p hp).1).2, (p4 p hp).2⟩, fun c hc => (hcs c hc).1, ?_, ?_⟩
        · dsimp only
          rw [← ent]
          exact tnd.1
        · have := tnd.2.1
          rw [ent] at this
          simpa using this
      refine ⟨by omega, hnx _ ⟨r, done ++ [⟨n, ps, cs⟩], m2, rm2, _, _, _, _, _, _, rfl, by simp [lawT]; exact ⟨rfl, rfl, rfl, rfl, rfl, rfl⟩, by omega, by rw [en]; simp, fun t ht => ?_, ?_⟩⟩
      · rcases List.mem_append.mp ht with ht | ht
        · exact hd t ht
        · obtain rfl : t = ⟨n, ps, cs⟩ := by simpa using ht
          exact ⟨gt, tt⟩
      · rw [List.flatMap_append, List.length_append, List.flatMap_cons, List.flatMap_nil, List.append_nil, refL_len1]
        dsimp only
        omega
    rintro d r1 sv ⟨tr, cs, m2, rm2, s9, e, rfl, hm2, ent, hcs, hrm2⟩ nx2 hnx2
    match tr, e, hm2, ent with
    | ti :: tr, e, hm2, ent =>
    simp only [List.map_cons, List.cons.injEq] at e
    obtain ⟨rfl, rfl⟩ := e
    rw [List.length_cons] at hm2
    refine dSeq_i ?_
    simp [-Bool.exists_bool, -dSeq, c2]
    obtain ⟨mo2, hmo2, hmo3, hmo4⟩ : ∃ mo2 : Nat, (if (3 : Int) < rm2 then 3 else (rm2 : Int)) = (mo2 : Int) ∧ mo2 ≤ 3 ∧ mo2 ≤ rm2 := by
      by_cases c : 3 < rm2
      · exact ⟨3, by rw [if_pos (by omega)]; rfl, by omega, by omega⟩
      · exact ⟨rm2, by rw [if_neg (by omega)], by omega, by omega⟩
    refine ⟨_, _, ⟨rfl, rfl⟩, by omega, ?_⟩
    rw [hmo2]
    have tiin : ti ∈ titN := tnd.2.2 ti (by rw [ent]; simp)
    have lcs : cs.length ≤ 3 := by
      have := congrArg List.length ent
      have := tnd.2.1
      simp at *
      omega
    refine Ct.exI (ti, bs, mo2) rfl ⟨tiin, f1, f3, f4, hmo3⟩ (fun z hz => ?_) fun _ z => z.elim
    obtain ⟨c, rfl, k1, k2, k3, k4⟩ := hz
    dsimp only at k1 k3 k4
    have lc : (pairsD c.ln).length = c.ln.length := by simp [pairsD]
    refine ⟨by omega, lawC c, at_last _ _, ?_⟩
    refine ⟨.lst (pairsD c.ln), by simp [atI, ixN], ?_⟩
    obtain ⟨rm3, hrm3, hrm4⟩ : ∃ rm3 : Nat, (rm2 : Int) - ((pairsD c.ln).length : Int) = (rm3 : Int) ∧ rm3 + c.ln.length = rm2 := ⟨rm2 - c.ln.length, by omega, by omega⟩
    dsimp only
    rw [hrm3]
    refine hnx2 _ ⟨tr, cs ++ [c], m2 - 11, rm3, _, rfl, by simp; rfl, by omega, by rw [ent]; simp [k1], fun x hx => ?_, ?_⟩
    · rcases List.mem_append.mp hx with hx | hx
      · exact hcs x hx
      · obtain rfl : x = c := by simpa using hx
        exact ⟨k2, k4⟩
    · simp
      omega

theorem fg__law_schema {P : Program} {w : World} {K : PySem.W.Frag} {mg : Str → Option Value} {base : Heap} {f : Addr} {fd : FuncData} (F : FunD K "_law_schema" "_law_schema" (defArgs s__law_schema) (defBody s__law_schema) (defScope s__law_schema) [] [] f fd) (hm : mg "_law_schema" = some (.ref f)) (F__law_column : FnG P w K mg base 4 "_law_column" 4 (ct__law_column )) (F__law_links : FnG P w K mg base 3 "_law_links" 4 (ct__law_links )) (F__law_of : FnG P w K mg base 2 "_law_of" 2 (ct__law_of )) (F__law_take : FnG P w K mg base 1 "_law_take" 2 (ctTake )) (m_len : mg "len" = none) (m_min : mg "min" = none) : FnG P w K mg base 5 "_law_schema" 2 (ct__law_schema ) :=
  fnG_of F sc__law_schema hm (ok__law_schema F F__law_column F__law_links F__law_of F__law_take m_len m_min) (F.bindsN fun _ _ _ _ _ _ us hl => match us, hl with | [_, _], _ => rfl) Ct.ex_mono
end K3
end
section
set_option autoImplicit true
set_option Elab.async false
set_option linter.all false
set_option maxRecDepth 100000
set_option maxHeartbeats 4000000
namespace K3
open PySem PySem.Spec PyProof.Rows L2 Pd
open Pg Pf
def exT (n : Str) : Tab := ⟨n, [("a", "cascade")], []⟩
def lkB : List (Str × Str) := [("a", "cascade"), ("b", "restrict"), ("c", "cascade")]
def twoB (k : Nat) : List Col := [⟨"x", lkB, false, .non⟩, ⟨"y", lkB.take k, true, .int 3⟩]
def goodTb (t : Tab) : Bool := decide (t.nm ∈ wN) && (decide (t.ids.map (·.1)).Nodup && (decide (t.ids.length ≤ 4) && (t.ids.all (fun q => decide (q.1 ∈ wN) && (decide (q.1 ≠ t.nm) && decide (q.2 ∈ acts3))) && (t.cs.all (fun c => decide (c.ti ∈ titN) && (decide (c.ln.map (·.1)).Nodup && (decide (c.ln.length ≤ 3) &&
  (c.ln.all (fun q => decide (q.1 ∈ wN) && decide (q.2 ∈ actsOf c.op c.pre)) && (match c.pre with
    | .non => true
    | .int i => decide (i = 0 ∨ i = 1 ∨ i = 3)
    | _ => false))))) && (decide (t.cs.map (·.ti)).Nodup && decide (t.cs.length ≤ 3))))))
theorem goodTb_ok {t : Tab} (h : goodTb t = true) : GoodT t := by
  simp only [goodTb, Bool.and_eq_true, decide_eq_true_eq, List.all_eq_true] at h
  obtain ⟨h1, h2, h3, h4, h5, h6, h7⟩ := h
  refine ⟨h1, h2, h3, h4, fun c hc => ?_, h6, h7⟩
  obtain ⟨g1, g2, g3, g4, g5⟩ := h5 c hc
  refine ⟨g1, g2, g3, g4, ?_⟩
  split at g5
  · rename_i e; exact .inl e
  · rename_i i e
    rw [e]
    rcases of_decide_eq_true g5 with rfl | rfl | rfl
    · exact .inr (.inl rfl)
    · exact .inr (.inr (.inl rfl))
    · exact .inr (.inr (.inr rfl))
  · cases g5
theorem bentG : goodTb (exT "f") = true ∧ goodTb ⟨"a", [], []⟩ = true ∧ goodTb ⟨"g", [], [⟨"x", [("h", "cascade")], false, .non⟩]⟩ = true ∧ (∀ n ∈ (["b", "c", "d", "e", "f"] : List Str), goodTb (exT n) = true) ∧ ∀ k ∈ List.range 4, ∀ n ∈ (["a", "b", "c"] : List Str), goodTb ⟨n, [], twoB k⟩ = true := by decide +kernel
theorem cut_mem {α : Type} {xs : List α} {lo hi : Option Int} {x : α} (h : x ∈ Pd.cutD xs lo hi) : x ∈ xs := List.mem_of_mem_drop (List.mem_of_mem_take h)
abbrev s__law_bent : Stmt := top 52
abbrev N__law_bent : List Str := ["_law_bag_here", "_law_tables", "_law_way", "_law_extra", "_law_more", "_law_name", "_law_links_here", "_law_two"]
theorem sc__law_bent : FnScope N__law_bent ["_law_bag_here", "_law_tables"] (defScope s__law_bent) := ⟨rfl, rfl, rfl, by decide +kernel, rfl, by decide +kernel, by decide +kernel⟩
def ct__law_bent : Ct := Ct.ex 2 (fun ts : List Tab => [none, some (.lst (ts.map lawT))]) (fun ts => 1 ≤ ts.length ∧ ts.length ≤ 5 ∧ ∀ t ∈ ts, GoodT t) (fun _ z => ∃ us : List Tab, z = .lst (us.map lawT) ∧ us.length ≤ 6 ∧ ∀ u ∈ us, GoodT u) (fun _ _ => False)
theorem ok__law_bent {P : Program} {w : World} {K : PySem.W.Frag} {mg : Str → Option Value} {base : Heap} {f : Addr} {fd : FuncData} (F : FunD K "_law_bent" "_law_bent" (defArgs s__law_bent) (defBody s__law_bent) (defScope s__law_bent) [] [] f fd) (F__law_of : FnG P w K mg base 2 "_law_of" 2 (ct__law_of )) (F__law_take : FnG P w K mg base 1 "_law_take" 2 (ctTake )) (m_len : mg "len" = none) : Fd P w K mg base 3 f fd ["_law_bag_here", "_law_tables"] (spC K 2 (ct__law_bent )) := by
  have nd := sc__law_bent.nd
  refine fd_body (N := N__law_bent) (ct := ct__law_bent ) F sc__law_bent (fun cdv A outer s H E hr hG tk pw => have hu := Room.units hr; have hv := room_u hr; (pdss_cons (pds_parDD (i := 2) (j := 3) rfl nd rfl rfl (by decide) rfl rfl (dcall F__law_take hr (by decide) hG tk (av 0 (pda_cons pd_int pda_nil))) (pd_tup (pda_cons pd_str (pda_cons (pd_L (pdl_lst (pda_cons (pd_tup (pda_cons pd_str (pda_cons pd_str pda_nil))) pda_nil))) (pda_cons (pd_L (pdl_lst pda_nil)) pda_nil)))) (by rfl))
    (pdss_cons (pds_if (pdt_cmp (op_eqP hu) snd_eq (dv 2) pd_int) (pdss_one (pds_ret (pd_add (dv 1) (pd_L (pdl_lst (pda_cons (dcall F__law_of hr (by decide) hG tk (av 0 (av 1 pda_nil))) pda_nil)))))) pdss_nil)
    (pdss_cons (pds_if (pdt_cmp (op_eqP hu) snd_eq (dv 2) pd_int) (pdss_one (pds_ret (pd_add (dv 1) (pd_L (pdl_lst (av 3 pda_nil)))))) pdss_nil)
    (pdss_cons (pds_if (pdt_cmp (op_eqP hu) snd_eq (dv 2) pd_int) (pdss_one (pds_ret (pd_L (pdl_sl (dv 1) pdo_none (pdo_some (dcall F__law_take hr (by decide) hG tk (av 0 (pda_cons (pd_lenV (i := 1) rfl (by first | exact .inl rfl | exact .inr (.inl rfl) | exact .inr (.inr rfl)) (by rfl) m_len) pda_nil)))))))) pdss_nil)
    (pdss_cons (pds_if (pdt_cmp (op_eqP hu) snd_eq (dv 2) pd_int) (pdss_cons (pds_setLc (i := 4) (own := [("_law_name", 5)]) rfl nd rfl rfl (sw_true rfl rfl rfl rfl) (blkOk_by (by kernel_rfl)) (pdi_any (pd_L (pdl_lst (pda_cons pd_str (pda_cons pd_str (pda_cons pd_str (pda_cons pd_str (pda_cons pd_str pda_nil)))))))) (fun i => (pdgw_name (i := 5) nd rfl (by first | exact .inl rfl | exact .inr rfl) (by decide))) (fun i => pdts_nil) (fun i => (pd_tup (av 5 (pda_cons (pd_L (pdl_lst (pda_cons (pd_tup (pda_cons pd_str (pda_cons pd_str pda_nil))) pda_nil))) (pda_cons (pd_L (pdl_lst pda_nil)) pda_nil))))))
    (pdss_one (pds_ret (pd_add (pd_L (pdl_lst (pda_cons (pd_tup (pda_cons pd_str (pda_cons (pd_L (pdl_lst pda_nil)) (pda_cons (pd_L (pdl_lst pda_nil)) pda_nil)))) pda_nil))) (pd_L (pdl_sl (dv 4) pdo_none (pdo_some (pd_add pd_int (dcall F__law_take hr (by decide) hG tk (av 0 (pda_cons pd_int pda_nil))))))))))) pdss_nil)
    (pdss_cons (pds_if (pdt_cmp (op_eqP hu) snd_eq (dv 2) pd_int) (pdss_cons (pds_set (i := 6) nd rfl (by first | exact .inl rfl | exact .inr rfl) (pd_L (pdl_lst (pda_cons (pd_tup (pda_cons pd_str (pda_cons pd_str pda_nil))) (pda_cons (pd_tup (pda_cons pd_str (pda_cons pd_str pda_nil))) (pda_cons (pd_tup (pda_cons pd_str (pda_cons pd_str pda_nil))) pda_nil))))))
    (pdss_cons (pds_set (i := 7) nd rfl (by first | exact .inl rfl | exact .inr rfl) (pd_L (pdl_lst (pda_cons (pd_tup (pda_cons pd_str (av 6 (pda_cons pd_bl (pda_cons pd_non pda_nil))))) (pda_cons (pd_tup (pda_cons pd_str (pda_cons (pd_L (pdl_sl (dv 6) pdo_none (pdo_some (pd_add pd_int (dcall F__law_take hr (by decide) hG tk (av 0 (pda_cons pd_int pda_nil))))))) (pda_cons pd_bl (pda_cons pd_int pda_nil))))) pda_nil)))))
    (pdss_one (pds_ret (pd_L (pdl_lst (pda_cons (pd_tup (pda_cons pd_str (pda_cons (pd_L (pdl_lst pda_nil)) (av 7 pda_nil)))) (pda_cons (pd_tup (pda_cons pd_str (pda_cons (pd_L (pdl_lst pda_nil)) (av 7 pda_nil)))) (pda_cons (pd_tup (pda_cons pd_str (pda_cons (pd_L (pdl_lst pda_nil)) (av 7 pda_nil)))) pda_nil))))))))) pdss_nil)
    (pdss_one (pds_ret (pd_add (pd_L (pdl_lst (pda_cons (pd_tup (pda_cons pd_str (pda_cons (pd_L (pdl_lst pda_nil)) (pda_cons (pd_L (pdl_lst (pda_cons (pd_tup (pda_cons pd_str (pda_cons (pd_L (pdl_lst (pda_cons (pd_tup (pda_cons pd_str (pda_cons pd_str pda_nil))) pda_nil))) (pda_cons pd_bl (pda_cons pd_non pda_nil))))) pda_nil))) pda_nil)))) pda_nil))) (dv 1))))))))))) ?_
  rintro as Q E hl ⟨ts, rfl, ⟨hw1, hw2, hk⟩, q, -⟩
  dsimp only at hw1 hw2 hk q
  have c3 : (ct__law_of).cost = 1 := rfl
  have c4 : ctTake.cost = 1 := rfl
  obtain ⟨g1, g2, g3, g4, g5⟩ := bentG
  refine dSeq_i ?_
  simp [-Bool.exists_bool, -dSeq, c4, ct__law_bent, Ct.ex]
  refine ⟨6, rfl, by decide, by decide, fun j hj0 hj1 => ?_⟩
  have e1 : D.tup [D.str (Str.ofString "f"), D.lst [D.tup [D.str (Str.ofString "a"), D.str (Str.ofString "cascade")]], D.lst []] = lawT (exT "f") := rfl
  have hj : j = 0 ∨ j = 1 ∨ j = 2 ∨ j = 3 ∨ j = 4 ∨ j = 5 := by omega
  rcases hj with rfl | rfl | rfl | rfl | rfl | rfl
  · refine dSeq_i ?_
    simp [-Bool.exists_bool, -dSeq, c3]
    refine Ct.exI (ts.map lawT) rfl ⟨by simp; omega, by simp; omega⟩ (fun d hd => ?_) fun _ z => z.elim
    obtain ⟨t, ht, rfl⟩ := List.mem_map.mp hd
    refine ⟨by omega, q _ ⟨ts ++ [t], by simp, by simp; omega, fun u hu => ?_⟩⟩
    rcases List.mem_append.mp hu with hu | hu
    · exact hk u hu
    · obtain rfl : u = t := by simpa using hu
      exact hk u ht
  · refine dSeq_i ?_
    simp [-Bool.exists_bool, -dSeq, c3]
    refine dSeq_i ?_
    simp [-Bool.exists_bool, -dSeq, c3]
    refine ⟨by omega, q _ ⟨ts ++ [exT "f"], by simp; rfl, by simp; omega, fun u hu => ?_⟩⟩
    rcases List.mem_append.mp hu with hu | hu
    · exact hk u hu
    · obtain rfl : u = exT "f" := by simpa using hu
      exact goodTb_ok g1
  · refine dSeq_i ?_
    simp [-Bool.exists_bool, -dSeq, c3]
    refine dSeq_i ?_
    simp [-Bool.exists_bool, -dSeq, c3]
    refine dSeq_i ?_
    simp [-Bool.exists_bool, -dSeq, c4]
    refine ⟨ts.length, rfl, by omega, by omega, fun k hk0 hk1 => ?_⟩
    obtain ⟨k, rfl⟩ := Int.eq_ofNat_of_zero_le hk0
    have ec : Pd.cutD (ts.map lawT) none (some (k : Int)) = (ts.take k).map lawT := by rw [cut_take, List.map_take]
    refine ⟨k, rfl, ?_⟩
    rw [ec]
    exact q _ ⟨ts.take k, rfl, by simp; omega, fun u hu => hk u (List.mem_of_mem_take hu)⟩
  · refine dSeq_i ?_
    simp [-Bool.exists_bool, -dSeq, c3]
    refine dSeq_i ?_
    simp [-Bool.exists_bool, -dSeq, c3]
    refine dSeq_i ?_
    simp [-Bool.exists_bool, -dSeq, c3]
    refine dSeq_i ?_
    simp [-Bool.exists_bool, -dSeq, c4]
    refine dSeq_i ?_
    simp [-Bool.exists_bool, -dSeq, c4]
    refine goLc_mapl (l := (["b", "c", "d", "e", "f"] : List Str)) D.str (fun n => lawT (exT n)) (by simp) (fun n hn T N hT => by simp [-Bool.exists_bool]; exact hT) ?_
    simp [-Bool.exists_bool, -dSeq, c4]
    refine ⟨2, rfl, by decide, by decide, fun k hk0 hk1 => ?_⟩
    obtain ⟨k, rfl⟩ := Int.eq_ofNat_of_zero_le hk0
    have ec : Pd.cutD [lawT (exT (Str.ofString "b")), lawT (exT (Str.ofString "c")), lawT (exT (Str.ofString "d")), lawT (exT (Str.ofString "e")), lawT (exT (Str.ofString "f"))] none (some (4 + (k : Int))) = (((["b", "c", "d", "e", "f"] : List Str).take (4 + k)).map exT).map lawT := by
      rw [show (4 + (k : Int)) = ((4 + k : Nat) : Int) from by omega, cut_take, List.map_map, List.map_take]
      rfl
    dsimp only
    rw [ec]
    have lk : ((((["b", "c", "d", "e", "f"] : List Str).take (4 + k)).map exT).map lawT).length ≤ 5 := by simp; omega
    refine ⟨by omega, q _ ⟨⟨"a", [], []⟩ :: ((["b", "c", "d", "e", "f"] : List Str).take (4 + k)).map exT, rfl, by simp at lk; simp; omega, fun u hu => ?_⟩⟩
    rcases List.mem_cons.mp hu with rfl | hu
    · exact goodTb_ok g2
    · obtain ⟨n, hn, rfl⟩ := List.mem_map.mp hu
      exact goodTb_ok (g4 n (List.mem_of_mem_take hn))
  · refine dSeq_i ?_
    simp [-Bool.exists_bool, -dSeq, c3]
    refine dSeq_i ?_
    simp [-Bool.exists_bool, -dSeq, c3]
    refine dSeq_i ?_
    simp [-Bool.exists_bool, -dSeq, c3]
    refine dSeq_i ?_
    simp [-Bool.exists_bool, -dSeq, c3]
    refine dSeq_i ?_
    simp [-Bool.exists_bool, -dSeq, c4]
    refine dSeq_i ?_
    simp [-Bool.exists_bool, -dSeq, c4]
    refine dSeq_i ?_
    simp [-Bool.exists_bool, -dSeq, c4]
    refine ⟨2, rfl, by decide, by decide, fun k hk0 hk1 => ?_⟩
    obtain ⟨k, rfl⟩ := Int.eq_ofNat_of_zero_le hk0
    have ec : Pd.cutD [D.tup [D.str (Str.ofString "a"), D.str (Str.ofString "cascade")], D.tup [D.str (Str.ofString "b"), D.str (Str.ofString "restrict")], D.tup [D.str (Str.ofString "c"), D.str (Str.ofString "cascade")]] none (some (1 + (k : Int))) = pairsD (lkB.take (1 + k)) := by
      rw [show (1 + (k : Int)) = ((1 + k : Nat) : Int) from by omega, cut_take]
      unfold pairsD
      rw [List.map_take]
      rfl
    dsimp only
    rw [ec]
    refine q _ ⟨[⟨"a", [], twoB (1 + k)⟩, ⟨"b", [], twoB (1 + k)⟩, ⟨"c", [], twoB (1 + k)⟩], rfl, by simp, fun u hu => ?_⟩
    have g := g5 (1 + k) (by simp; omega)
    simp only [List.mem_cons, List.not_mem_nil, or_false] at hu
    rcases hu with rfl | rfl | rfl
    · exact goodTb_ok (g "a" (by simp))
    · exact goodTb_ok (g "b" (by simp))
    · exact goodTb_ok (g "c" (by simp))
  · refine dSeq_i ?_
    simp [-Bool.exists_bool, -dSeq, c3]
    refine dSeq_i ?_
    simp [-Bool.exists_bool, -dSeq, c3]
    refine dSeq_i ?_
    simp [-Bool.exists_bool, -dSeq, c3]
    refine dSeq_i ?_
    simp [-Bool.exists_bool, -dSeq, c3]
    refine dSeq_i ?_
    simp [-Bool.exists_bool, -dSeq, c4]
    refine ⟨by omega, q _ ⟨⟨"g", [], [⟨"x", [("h", "cascade")], false, .non⟩]⟩ :: ts, rfl, by simp; omega, fun u hu => ?_⟩⟩
    rcases List.mem_cons.mp hu with rfl | hu
    · exact goodTb_ok g3
    · exact hk u hu

theorem fg__law_bent {P : Program} {w : World} {K : PySem.W.Frag} {mg : Str → Option Value} {base : Heap} {f : Addr} {fd : FuncData} (F : FunD K "_law_bent" "_law_bent" (defArgs s__law_bent) (defBody s__law_bent) (defScope s__law_bent) [] [] f fd) (hm : mg "_law_bent" = some (.ref f)) (F__law_of : FnG P w K mg base 2 "_law_of" 2 (ct__law_of )) (F__law_take : FnG P w K mg base 1 "_law_take" 2 (ctTake )) (m_len : mg "len" = none) : FnG P w K mg base 3 "_law_bent" 2 (ct__law_bent ) :=
  fnG_of F sc__law_bent hm (ok__law_bent F F__law_of F__law_take m_len) (F.bindsN fun _ _ _ _ _ _ us hl => match us, hl with | [_, _], _ => rfl) Ct.ex_mono
end K3
end
section
set_option autoImplicit true
set_option Elab.async false
set_option linter.all false
set_option maxRecDepth 100000
set_option maxHeartbeats 4000000
namespace K3
open PySem PySem.Spec PyProof.Rows L2 Pd
open Pg Pf
theorem Drawn.okS {ts : List Tab} (h : Drawn ts) : OkS ts := by
  have f := nl_all _ h.nms
  have hk : ∀ t ∈ ts, OkT t := fun t ht => (h.good t ht).ok
  refine ⟨hk, ?_⟩
  have l : (ts.map (·.nm)).length = ts.length := List.length_map _
  have e1 : firstDup [] (ts.map (·.nm)) = none := by
    have : ∀ (ns seen : List Str), ns.Nodup → (∀ n ∈ ns, n ∉ seen) → firstDup seen ns = none := by
      intro ns
      induction ns with
      | nil => intro seen _ _; rfl
      | cons n r ih =>
        intro seen h1 h2
        unfold firstDup
        rw [if_neg (h2 n List.mem_cons_self)]
        rw [List.nodup_cons] at h1
        refine ih _ h1.2 fun m hm hs => ?_
        rcases List.mem_append.mp hs with hs | hs
        · exact h2 m (List.mem_cons_of_mem _ hm) hs
        · obtain rfl : m = n := by simpa using hs
          exact h1.1 hm
    exact this _ [] f.1 fun n _ => by simp
  have e2 : lost ts = none := by
    unfold lost
    rw [List.find?_eq_none]
    intro x hx
    obtain ⟨t, ht, hx⟩ := List.mem_flatMap.mp hx
    simpa using h.tg t ht x hx
  have e3 : (refS ts).length ≤ 10 := by rw [refL_refS, List.length_map]; exact h.rf
  unfold schOut
  rw [e1, e2]
  dsimp only
  rw [if_pos (by omega), if_neg (by omega)]
theorem selfE {xs : List D} {ps : List PyData} (h : D.pyL xs = some ps) : (PyData.list ps).eqv (.list ps) = !false := by
  rw [eqv_self (p := .list ps) (D.pyL_plain _ _ h)]
  rfl
theorem wordS_py (o : SOut) : ∃ p, (wordS o).py = some p ∧ p.depth ≤ 60 ∧ p.eqv p = true := by
  cases o <;> exact ⟨_, rfl, by simp [PyData.depth, PyData.depthAll], eqv_self rfl⟩
theorem nm_inj {a b : Tab} : ∀ {l : List Tab}, (l.map (·.nm)).Nodup → a ∈ l → b ∈ l → a.nm = b.nm → a = b
  | [], _, h, _, _ => nomatch h
  | x :: l, hn, ha, hb, e => by
    rw [List.map_cons, List.nodup_cons] at hn
    rcases List.mem_cons.mp ha with ha1 | ha1
    · rcases List.mem_cons.mp hb with hb1 | hb1
      · rw [ha1, hb1]
      · exact absurd (by rw [← ha1, e]; exact List.mem_map_of_mem hb1) hn.1
    · rcases List.mem_cons.mp hb with hb1 | hb1
      · exact absurd (by rw [← hb1, ← e]; exact List.mem_map_of_mem ha1) hn.1
      · exact nm_inj hn.2 ha1 hb1 e
def oddB (n : Str) : Bool := decide ((D.str n).wt < 100000) && (decide ((D.str (n ++ Str.ofString "q")).wt < 100000) && (decide ((D.tup [.str n]).wt < 100000) && decide ((D.lst [.str n]).wt < 100000)))
@[reducible] def noX (s : Sl) : Prop := (match s with | .exc _ => true | _ => false) = false
theorem odd_all : ∀ n ∈ wN, oddB n = true := by decide +kernel
theorem q_not : ∀ n ∈ wN, n ++ Str.ofString "q" ∉ wN := by decide +kernel
abbrev s__law_right : Stmt := top 53
abbrev N__law_right : List Str := ["_law_bag_here", "_law_tables", "_law_made", "_law_names_here", "_law_name", "_law_many", "_law_odd", "e", "_law_bent_here", "_law_found", "_law_due_here"]
theorem sc__law_right : FnScope N__law_right ["_law_bag_here"] (defScope s__law_right) := ⟨rfl, rfl, rfl, by decide +kernel, rfl, by decide +kernel, by decide +kernel⟩
def ct__law_right (cc_Schema cc_Table cc_Column c_BadTable c_NoTable c_Full : Addr) : Ct := Ct.ex 224 (fun _ : Unit => [none]) (fun _ => True) (fun _ z => z = .bl true) (fun _ _ => False)
theorem ok__law_right {P : Program} {w : World} {K : PySem.W.Frag} {mg : Str → Option Value} {base : Heap} {f : Addr} {fd : FuncData} {c_BadTable c_Full c_NoTable cc_Column cc_Schema cc_Table : Addr} (F : FunD K "_law_right" "_law_right" (defArgs s__law_right) (defBody s__law_right) (defScope s__law_right) [] [] f fd) (m_Schema : mg "Schema" = some (.ref cc_Schema)) (F__law_bent : FnG P w K mg base 3 "_law_bent" 2 (ct__law_bent )) (F__law_due : FnG P w K mg base 2 "_law_due" 1 (ct__law_due )) (F__law_names : FnG P w K mg base 1 "_law_names" 1 (ct__law_names )) (F__law_outcome : FnG P w K mg base 13 "_law_outcome" 1 (ct__law_outcome cc_Schema cc_Table cc_Column c_BadTable c_NoTable c_Full)) (F__law_references : FnG P w K mg base 1 "_law_references" 1 (ct__law_references )) (F__law_schema : FnG P w K mg base 5 "_law_schema" 2 (ct__law_schema )) (F__law_titles : FnG P w K mg base 1 "_law_titles" 2 (ct__law_titles )) (m_NoTable : mg "NoTable" = some (.ref c_NoTable)) (x_NoTable : XfC K c_NoTable) (n_NoTable_table : PySem.W.findIn K (.ref c_NoTable) "table" = some none) (m_isinstance : mg "isinstance" = none) (m_len : mg "len" = none) (M_Schema_columns : MtG P w K mg base 3 cc_Schema "columns" 2 (ct_Schema_columns cc_Schema cc_Table cc_Column c_NoTable)) (M_Schema_tables : MtG P w K mg base 1 cc_Schema "tables" 1 (ct_Schema_tables cc_Schema cc_Table cc_Column)) (MF_Schema_columns : MtFG P w K mg base 3 cc_Schema "columns" 2 (ct_Schema_columns cc_Schema cc_Table cc_Column c_NoTable)) (MF_Schema_tables : MtFG P w K mg base 1 cc_Schema "tables" 1 (ct_Schema_tables cc_Schema cc_Table cc_Column)) (m_repr : mg "repr" = none) (S_Schema___contains__ : SpsG P w K mg base 1 cc_Schema "__contains__" 2 (ct_Schema___contains__ cc_Schema cc_Table cc_Column)) (S_Schema___len__ : SpsG P w K mg base 1 cc_Schema "__len__" 1 (ct_Schema___len__ cc_Schema cc_Table cc_Column)) (S_Schema___repr__ : SpsG P w K mg base 1 cc_Schema "__repr__" 1 (ct_Schema___repr__ cc_Schema cc_Table cc_Column)) (m_str : mg "str" = none) (T_Schema : ClsD K cc_Schema schNs) (E_NoTable_NoTable : PySem.W.exmOne K (.ref c_NoTable) (.ref c_NoTable) = some true) : Fd P w K mg base 14 f fd ["_law_bag_here"] (spC K 1 (ct__law_right cc_Schema cc_Table cc_Column c_BadTable c_NoTable c_Full)) := by
  have nd := sc__law_right.nd
  refine fd_body (N := N__law_right) (ct := ct__law_right cc_Schema cc_Table cc_Column c_BadTable c_NoTable c_Full) F sc__law_right (fun cdv A outer s H E hr hG tk pw => have hu := Room.units hr; have hv := room_u hr; (pdss_cons (pds_set (i := 1) nd rfl (by first | exact .inl rfl | exact .inr rfl) (dcall F__law_schema hr (by decide) hG tk (av 0 (pda_cons pd_int pda_nil))))
    (pdss_cons (pds_parDD (i := 2) (j := 3) rfl nd rfl rfl (by decide) rfl rfl (dcall F__law_outcome hr (by decide) hG tk (av 1 pda_nil)) (dcall F__law_names hr (by decide) hG tk (av 1 pda_nil)) (by rfl))
    (pdss_cons (pds_if (pdt_w (pdw_or (pdt_not (pdt_tru (disiC K m_Schema m_isinstance (dv 2)))) (pdw_or (pdt_cmp (op_neP hu) snd_ne (dmeth0 M_Schema_tables hr (by decide) hG tk (dv 2)) (dv 3)) (pdw_or1 (pdt_cmp (op_neP hu) snd_ne (dlenO S_Schema___len__ hr (by decide) hG m_len (av 2 pda_nil)) (pd_lenV (i := 3) rfl (by first | exact .inl rfl | exact .inr (.inl rfl) | exact .inr (.inr rfl)) (by rfl) m_len)))))) (pdss_one (pds_ret pd_bl)) pdss_nil)
    (pdss_cons (pds_for pw rfl (pdi_any (dv 3)) (pdg_name (i := 4) nd rfl (by first | exact .inl rfl | exact .inr rfl)) (pdss_one (pds_if (pdt_w (pdw_or (pdt_cmp (op_neP hu) snd_ne (dmeth M_Schema_columns hr (by decide) hG tk (dv 2) (av 4 pda_nil)) (dcall F__law_titles hr (by decide) hG tk (av 1 (av 4 pda_nil)))) (pdw_or1 (tnotinO S_Schema___contains__ hr (by decide) hG (dv 4) (dv 2))))) (pdss_one (pds_ret pd_bl)) pdss_nil)))
    (pdss_cons (pds_set (i := 5) nd rfl (by first | exact .inl rfl | exact .inr rfl) (pd_strI m_str (pda_cons (pd_len (by rfl) m_len (pda_cons (dcall F__law_references hr (by decide) hG tk (av 1 pda_nil)) pda_nil)) pda_nil)))
    (pdss_cons (pds_if (pdt_cmp (op_neP hu) snd_ne (dreprO S_Schema___repr__ hr (by decide) hG m_repr (av 2 pda_nil)) (pd_add (pd_add (pd_add (pd_add pd_str (pd_strI m_str (pda_cons (pd_lenV (i := 3) rfl (by first | exact .inl rfl | exact .inr (.inl rfl) | exact .inr (.inr rfl)) (by rfl) m_len) pda_nil))) pd_str) (dv 5)) pd_str)) (pdss_one (pds_ret pd_bl)) pdss_nil)
    (pdss_cons (pds_for pw rfl (pdi_any (pd_L (pdl_lst (pda_cons pd_non (pda_cons pd_int (pda_cons pd_bl (pda_cons pd_str (pda_cons (pd_add (pd_ix (dv 3) pd_int) pd_str) (pda_cons (pd_tup (pda_cons (pd_ix (dv 3) pd_int) pda_nil)) (pda_cons (pd_L (pdl_lst (pda_cons (pd_ix (dv 3) pd_int) pda_nil))) (pda_cons pd_str pda_nil))))))))))) (pdg_name (i := 6) nd rfl (by first | exact .inl rfl | exact .inr rfl)) (pdss_cons (pds_if (tinO S_Schema___contains__ hr (by decide) hG (dv 6) (dv 2)) (pdss_one (pds_ret pd_bl)) pdss_nil)
    (pdss_one (dtry K nd tk (fun W2 pn2 xe2 tk2 pw2 => (pdss_cons (pds_expr (dmeth M_Schema_columns hr (by decide) hG tk2 (dv 2) (av 6 pda_nil)))
    (pdss_one (pds_ret pd_bl)))) (.named (i := 7) (nmO m_NoTable) rfl rfl (fun a oe cls d pn hz hf => (pdss_one (pds_if (pdt_cmp (op_neP hu) snd_ne (pd_repr hG hu (by rfl) m_repr (pda_cons (dxf K 7 x_NoTable n_NoTable_table hz hf) pda_nil)) (pd_repr hG hu (by rfl) m_repr (av 6 pda_nil))) (pdss_one (pds_ret pd_bl)) pdss_nil))) .nil)))))
    (pdss_cons (pds_expr (dmethApp0 MF_Schema_tables hr (by decide) hG tk (dv 2)))
    (pdss_cons (pds_expr (dmethApp MF_Schema_columns hr (by decide) hG tk (dv 2) (pda_cons (pd_ix (dv 3) pd_int) pda_nil)))
    (pdss_cons (pds_if (pdt_w (pdw_or (pdt_cmp (op_neP hu) snd_ne (dmeth0 M_Schema_tables hr (by decide) hG tk (dv 2)) (dv 3)) (pdw_or1 (pdt_cmp (op_neP hu) snd_ne (dmeth M_Schema_columns hr (by decide) hG tk (dv 2) (pda_cons (pd_ix (dv 3) pd_int) pda_nil)) (dcall F__law_titles hr (by decide) hG tk (av 1 (pda_cons (pd_ix (dv 3) pd_int) pda_nil))))))) (pdss_one (pds_ret pd_bl)) pdss_nil)
    (pdss_cons (pds_set (i := 8) nd rfl (by first | exact .inl rfl | exact .inr rfl) (dcall F__law_bent hr (by decide) hG tk (av 0 (av 1 pda_nil))))
    (pdss_cons (pds_parDD (i := 9) (j := 10) rfl nd rfl rfl (by decide) rfl rfl (dcall F__law_outcome hr (by decide) hG tk (av 8 pda_nil)) (dcall F__law_due hr (by decide) hG tk (av 8 pda_nil)) (by rfl))
    (pdss_one (pds_ret (pd_if (pdt_cmp op_notN1 snd_notN (dv 10) pd_non) (pd_cmp (op_eqP hu) snd_eq (dv 9) (dv 10)) (disiC K m_Schema m_isinstance (dv 9)))))))))))))))))) ?_
  rintro as Q E hl ⟨_, rfl, -, q, -⟩
  have q := q _ rfl
  have c1 : (ct__law_schema).cost = 222 := rfl
  have c2 : (ct__law_bent).cost = 2 := rfl
  refine dSeq_i ?_
  simp [-Bool.exists_bool, -dSeq, c1, ct__law_right, Ct.ex]
  refine Ct.exI () rfl trivial (fun z hz => ?_) fun _ z => z.elim
  obtain ⟨ts, rfl, dr⟩ := hz
  have oks := dr.okS
  have fs := nl_all _ dr.nms
  have lts : (ts.map (·.nm)).length = ts.length := List.length_map _
  refine dSeq_i ?_
  simp [-Bool.exists_bool, -dSeq]
  refine Ct.exI ts rfl ⟨by omega, dr.good⟩ (fun z hz => ?_) fun _ z => z.elim
  obtain rfl := hz
  refine Ct.exI ts rfl (by omega) (fun z hz => ?_) fun _ z => z.elim
  subst hz
  have eo : outD cc_Schema cc_Table cc_Column ts = schD cc_Schema cc_Table cc_Column ts := by
    unfold outD
    rw [oks.out]
    rfl
  rw [eo]
  refine dSeq_i ?_
  simp [-Bool.exists_bool, -dSeq]
  refine ⟨T_Schema.ity, true, kit_self, ?_⟩
  rw [if_pos rfl]
  refine ⟨schNs, ⟨_, rfl⟩, by simp [schNs]; decide, ?_⟩
  refine Ct.exI ts rfl oks (fun z hz => ?_) fun _ z => z.elim
  obtain rfl := hz
  have pn : D.pyL (ts.map fun t => .str t.nm) = some ((ts.map (·.nm)).map .str) := by
    have := pyL_strs (ts.map (·.nm))
    rwa [List.map_map] at this
  refine ⟨_, by rw [D.py, pn]; rfl, _, ⟨_, pn, rfl⟩, by rw [Nat.min_self]; simp only [PyData.depth, depth_strs]; omega, false, selfE pn, ?_⟩
  rw [if_neg (by simp)]
  refine ⟨_, _, rfl, ?_⟩
  refine Ct.exI ts rfl oks (fun z hz => ?_) fun _ z => z.elim
  obtain rfl := hz
  refine ⟨_, rfl, by omega, by omega, false, by simp, ?_⟩
  rw [if_neg (by simp)]
  refine dSeq_i ?_
  simp [-Bool.exists_bool, -dSeq]
  have hwt : ∀ t ∈ ts, (D.str t.nm).wt < 1000000 := by
    intro t ht
    have := odd_all t.nm (fs.2.2.2 _ (List.mem_map_of_mem ht))
    unfold oddB at this
    simp only [Bool.and_eq_true, decide_eq_true_eq] at this
    omega
  refine loopD_inv (fun ds sv => ∃ (r : List Tab) (s : Sl), ds = r.map (fun t => D.str t.nm) ∧ (∀ t ∈ r, t ∈ ts) ∧ noX s ∧ sv = [.bag 2, .dat (.lst (ts.map lawT)), .dat (schD cc_Schema cc_Table cc_Column ts), .dat (.lst (ts.map fun t => D.str t.nm)), s, .un, .un, .un, .un, .un, .un]) ⟨ts, .un, rfl, fun t h => h, rfl, rfl⟩ ?_ ?_
  rotate_left
  · rintro d r0 sv ⟨r, s, e, hr, -, rfl⟩ nx hnx
    match r, e, hr with
    | t :: r, e, hr =>
      simp only [List.map_cons, List.cons.injEq] at e
      obtain ⟨rfl, rfl⟩ := e
      have ht := hr t List.mem_cons_self
      simp [-Bool.exists_bool]
      refine ⟨schNs, ⟨_, rfl⟩, by simp [schNs]; decide, ?_⟩
      have hw : (D.str t.nm).wt < 1000000 := hwt t ht
      have hm : hasT ts (.str t.nm) = true := List.any_eq_true.mpr ⟨t, ht, by simp [D.isStr]⟩
      refine Ct.exI (ts, .str t.nm) rfl ⟨oks, hw⟩ (fun z hz => ?_) (fun x hx => by rw [hm] at hx; exact absurd hx.1 (by simp))
      obtain ⟨b, hb, e, rfl⟩ := hz
      obtain rfl : b = t := nm_inj fs.1 hb ht (by simpa using e.symm)
      refine Ct.exI (ts, b) rfl ⟨by show ts.length ≤ 1000; omega, hb, fun c hc => ⟨(dr.good c hc).clen, fun e => nm_inj fs.1 hc hb e⟩⟩ (fun z hz => ?_) fun _ z => z.elim
      obtain rfl := hz
      have pc : D.pyL (b.cs.map fun c => .str c.ti) = some ((b.cs.map (·.ti)).map .str) := by
        have := pyL_strs (b.cs.map (·.ti))
        rwa [List.map_map] at this
      refine ⟨_, by rw [D.py, pc]; rfl, _, by rw [D.py, pc]; rfl, by rw [Nat.min_self]; simp only [PyData.depth, depth_strs]; omega, false, selfE pc, ?_⟩
      rw [if_neg (by simp)]
      refine ⟨⟨_, _, rfl⟩, ?_⟩
      refine Ct.exI (ts, .str b.nm) rfl ⟨oks, hw⟩ (fun z hz => ?_) fun _ z => z.elim
      obtain rfl := hz
      refine ⟨_, rfl, false, by rw [hm]; rfl, ?_⟩
      rw [if_neg (by simp)]
      exact hnx _ ⟨r, _, rfl, fun t h => hr t (List.mem_cons_of_mem _ h), rfl, rfl⟩
  rintro sv ⟨r, s, e, -, hs, rfl⟩
  dsimp only
  refine dSeq_i ?_
  simp [-Bool.exists_bool, -dSeq]
  obtain ⟨f1, f2, f3, f4, f5⟩ := oks.facts
  have lrf : ((ts.flatMap refL).map refD).length = (refS ts).length := by rw [List.length_map, refL_refS, List.length_map]
  refine Ct.exI ts rfl ⟨by omega, fun t ht => (dr.good t ht).ok⟩ (fun z hz => ?_) fun _ z => z.elim
  subst hz
  dsimp only
  rw [lrf]
  have ok := rpOk_all ts.length (by simp; omega) (refS ts).length (by simp; omega)
  unfold rpOk at ok
  simp only [Bool.and_eq_true, decide_eq_true_eq] at ok
  obtain ⟨k1, k2, k3, k4, k5, k6, k7⟩ := ok
  refine ⟨k5, ?_⟩
  refine dSeq_i ?_
  simp [-Bool.exists_bool, -dSeq]
  refine ⟨_, _, rfl, ?_⟩
  refine Ct.exI ts rfl oks (fun z hz => ?_) fun _ z => z.elim
  subst hz
  have la : ∀ a b : Str, (a ++ b).length = a.length + b.length := PySem.Str.length_append
  refine ⟨_, rfl, k2, by rw [← la]; exact k3, by rw [← la]; exact k4, by rw [← la]; exact k6, by rw [← la]; exact k7, false, beq_self_eq_true _, ?_⟩
  rw [if_neg (by simp)]
  refine dSeq_i ?_
  simp [-Bool.exists_bool, -dSeq]
  obtain ⟨t0, h0, ix⟩ : ∃ t0 ∈ ts, atI (ts.map fun t => D.str t.nm) 0 = some (.str t0.nm) := by
    cases ts with
    | nil => simp at f3
    | cons a l => exact ⟨a, List.mem_cons_self, by simp [atI, ixN]⟩
  have ho := odd_all t0.nm (fs.2.2.2 _ (List.mem_map_of_mem h0))
  unfold oddB at ho
  simp only [Bool.and_eq_true, decide_eq_true_eq] at ho
  obtain ⟨o1, o2, o3, o4⟩ := ho
  have o2' := Nat.lt_of_le_of_lt (Nat.le_max_left _ _) (show max (t0.nm ++ Str.ofString "q").length (PyData.str (t0.nm ++ Str.ofString "q")).shown.length < 100000 from o2)
  refine .inl ⟨_, ix, ?_⟩
  dsimp only
  refine ⟨by rw [← la]; unfold sizeLine; omega, _, ix, _, ix, ?_⟩
  have ns : ∀ s : Str, s ∉ wN → hasT ts (.str s) = false := by
    intro s hs
    unfold hasT
    rw [List.any_eq_false]
    intro t ht e
    have e : s = t.nm := by simpa [D.isStr] using e
    exact hs (e ▸ fs.2.2.2 _ (List.mem_map_of_mem ht))
  have nd : ∀ d : D, (∀ s, d.isStr s = false) → hasT ts d = false := by
    intro d hd
    unfold hasT
    rw [List.any_eq_false]
    intro t _
    simp [hd]
  have odds : ∀ d ∈ [D.non, D.int 0, D.bl true, D.str (Str.ofString "z"), D.str (t0.nm ++ Str.ofString "q"), D.tup [D.str t0.nm], D.lst [D.str t0.nm], D.str (Str.ofString "")], hasT ts d = false ∧ d.wt < 1000000 ∧ d.dep ≤ 60 := by
    intro d hd
    simp only [List.mem_cons, List.not_mem_nil, or_false] at hd
    rcases hd with rfl | rfl | rfl | rfl | rfl | rfl | rfl | rfl
    · exact ⟨nd _ fun _ => rfl, by decide +kernel, by decide⟩
    · exact ⟨nd _ fun _ => rfl, by decide +kernel, by decide⟩
    · exact ⟨nd _ fun _ => rfl, by decide +kernel, by decide⟩
    · exact ⟨ns _ (by decide +kernel), by decide +kernel, by decide⟩
    · exact ⟨ns _ (q_not t0.nm (fs.2.2.2 _ (List.mem_map_of_mem h0))), by omega, Nat.zero_le _⟩
    · exact ⟨nd _ fun _ => rfl, by omega, by simp [D.dep, D.depL]⟩
    · exact ⟨nd _ fun _ => rfl, by omega, by simp [D.dep, D.depL]⟩
    · exact ⟨ns _ (by decide +kernel), by decide +kernel, by decide⟩
  refine loopD_inv (fun ds sv => ∃ s6 : Sl, (∀ d ∈ ds, hasT ts d = false ∧ d.wt < 1000000 ∧ d.dep ≤ 60) ∧ sv = [.bag 2, .dat (.lst (ts.map lawT)), .dat (schD cc_Schema cc_Table cc_Column ts), .dat (.lst (ts.map fun t => D.str t.nm)), s, .dat (.str (Str.ofString (((refS ts).length : Nat) : Int).repr)), s6, .un, .un, .un, .un]) ⟨.un, odds, rfl⟩ ?_ ?_
  rotate_left
  · rintro d r0 sv ⟨s6, hr, rfl⟩ nx hnx
    obtain ⟨n1, n2, n3⟩ := hr d List.mem_cons_self
    obtain ⟨p, tp⟩ := tame d n2
    have sh := tp.shows n2 n3
    simp [-Bool.exists_bool]
    refine ⟨⟨_, _, rfl⟩, ?_⟩
    refine Ct.exI (ts, d) rfl ⟨oks, n2⟩ (fun z hz => ?_) fun _ z => z.elim
    obtain rfl := hz
    refine ⟨_, rfl, ?_⟩
    rw [if_neg (by rw [n1]; simp)]
    refine ⟨schNs, ⟨_, rfl⟩, by simp [schNs]; decide, ?_⟩
    refine Ct.exI (ts, d) rfl ⟨oks, n2⟩ (fun z hz => ?_) (fun x hx => ?_)
    · obtain ⟨b, hb, e, _⟩ := hz
      have e : d = .str b.nm := e
      exact absurd n1 (by rw [e, show hasT ts (.str b.nm) = true from List.any_eq_true.mpr ⟨b, hb, by simp [D.isStr]⟩]; simp)
    obtain ⟨-, rfl⟩ := hx
    refine ⟨hs, true, E_NoTable_NoTable, fun _ => ⟨rfl, d, rfl, p, tp.py, sh, p, tp.py, sh, false, by simp, ?_⟩, fun h => by cases h⟩
    rw [if_neg (by simp)]
    exact ⟨hs, hnx _ ⟨_, fun d hd => hr d (List.mem_cons_of_mem _ hd), rfl⟩⟩
  rintro sv ⟨s6, -, rfl⟩
  dsimp only
  refine dSeq_i ?_
  simp [-Bool.exists_bool, -dSeq, dMethApp]
  refine ⟨schNs, ⟨_, rfl⟩, by simp [schNs]; decide, ?_⟩
  refine Ct.exI ts rfl oks (fun z hz => ?_) fun _ z => z.elim
  subst hz
  refine ⟨_, rfl, by rw [List.length_map]; omega, ?_⟩
  refine dSeq_i ?_
  simp [-Bool.exists_bool, -dSeq, dMethApp]
  have hw0 : (D.str t0.nm).wt < 1000000 := by omega
  have hm0 : hasT ts (.str t0.nm) = true := List.any_eq_true.mpr ⟨t0, h0, by simp [D.isStr]⟩
  refine ⟨schNs, ⟨_, rfl⟩, by simp [schNs]; decide, _, ix, ?_⟩
  refine Ct.exI (ts, .str t0.nm) rfl ⟨oks, hw0⟩ (fun z hz => ?_) (fun x hx => by rw [hm0] at hx; exact absurd hx.1 (by simp))
  obtain ⟨b, hb, e, rfl⟩ := hz
  obtain rfl : b = t0 := nm_inj fs.1 hb h0 (by simpa using e.symm)
  have cl := (dr.good b h0).clen
  refine ⟨_, rfl, by rw [List.length_map]; omega, ?_⟩
  refine dSeq_i ?_
  simp [-Bool.exists_bool, -dSeq]
  refine ⟨schNs, ⟨_, rfl⟩, by simp [schNs]; decide, ?_⟩
  refine Ct.exI ts rfl oks (fun z hz => ?_) fun _ z => z.elim
  subst hz
  refine ⟨_, by rw [D.py, pn]; rfl, _, ⟨_, pn, rfl⟩, by rw [Nat.min_self]; simp only [PyData.depth, depth_strs]; omega, false, selfE pn, ?_⟩
  rw [if_neg (by simp)]
  refine ⟨schNs, ⟨_, rfl⟩, by simp [schNs]; decide, _, ix, ?_⟩
  refine Ct.exI (ts, .str b.nm) rfl ⟨oks, hw0⟩ (fun z hz => ?_) (fun x hx => by rw [hm0] at hx; exact absurd hx.1 (by simp))
  obtain ⟨b', hb', e', rfl⟩ := hz
  obtain rfl : b' = b := nm_inj fs.1 hb' h0 (by simpa using e'.symm)
  refine ⟨_, ix, ?_⟩
  refine Ct.exI (ts, b') rfl ⟨by show ts.length ≤ 1000; omega, h0, fun c hc => ⟨(dr.good c hc).clen, fun e => nm_inj fs.1 hc h0 e⟩⟩ (fun z hz => ?_) fun _ z => z.elim
  obtain rfl := hz
  have pc : D.pyL (b'.cs.map fun c => .str c.ti) = some ((b'.cs.map (·.ti)).map .str) := by
    have := pyL_strs (b'.cs.map (·.ti))
    rwa [List.map_map] at this
  refine ⟨_, by rw [D.py, pc]; rfl, _, by rw [D.py, pc]; rfl, by rw [Nat.min_self]; simp only [PyData.depth, depth_strs]; omega, false, selfE pc, ?_⟩
  rw [if_neg (by simp)]
  refine dSeq_i ?_
  simp [-Bool.exists_bool, -dSeq, c2]
  refine Ct.exI ts rfl ⟨f3, f4, dr.good⟩ (fun z hz => ?_) fun _ z => z.elim
  obtain ⟨us, rfl, lu, gu⟩ := hz
  refine dSeq_i ?_
  simp [-Bool.exists_bool, -dSeq]
  refine Ct.exI us rfl ⟨by omega, gu⟩ (fun z hz => ?_) fun _ z => z.elim
  subst hz
  refine Ct.exI us rfl ⟨by omega, gu⟩ (fun z hz => ?_) fun _ z => z.elim
  subst hz
  cases c : schOut us with
  | ok =>
    have e1 : outD cc_Schema cc_Table cc_Column us = schD cc_Schema cc_Table cc_Column us := by
      unfold outD
      rw [c]
      rfl
    rw [e1]
    refine ⟨false, rfl, ?_⟩
    rw [if_neg (by simp)]
    exact ⟨T_Schema.ity, true, kit_self, q⟩
  | _ =>
    have e1 : outD cc_Schema cc_Table cc_Column us = wordS (schOut us) := by
      unfold outD
      rw [c]
      rfl
    rw [c] at e1
    rw [e1]
    refine ⟨true, rfl, ?_⟩
    rw [if_pos rfl]
    obtain ⟨p, hp, dp, ep⟩ := wordS_py (schOut us)
    rw [c] at hp
    refine ⟨p, hp, p, hp, by omega, ?_⟩
    rw [ep]
    exact q

theorem fg__law_right {P : Program} {w : World} {K : PySem.W.Frag} {mg : Str → Option Value} {base : Heap} {f : Addr} {fd : FuncData} {c_BadTable c_Full c_NoTable cc_Column cc_Schema cc_Table : Addr} (F : FunD K "_law_right" "_law_right" (defArgs s__law_right) (defBody s__law_right) (defScope s__law_right) [] [] f fd) (hm : mg "_law_right" = some (.ref f)) (m_Schema : mg "Schema" = some (.ref cc_Schema)) (F__law_bent : FnG P w K mg base 3 "_law_bent" 2 (ct__law_bent )) (F__law_due : FnG P w K mg base 2 "_law_due" 1 (ct__law_due )) (F__law_names : FnG P w K mg base 1 "_law_names" 1 (ct__law_names )) (F__law_outcome : FnG P w K mg base 13 "_law_outcome" 1 (ct__law_outcome cc_Schema cc_Table cc_Column c_BadTable c_NoTable c_Full)) (F__law_references : FnG P w K mg base 1 "_law_references" 1 (ct__law_references )) (F__law_schema : FnG P w K mg base 5 "_law_schema" 2 (ct__law_schema )) (F__law_titles : FnG P w K mg base 1 "_law_titles" 2 (ct__law_titles )) (m_NoTable : mg "NoTable" = some (.ref c_NoTable)) (x_NoTable : XfC K c_NoTable) (n_NoTable_table : PySem.W.findIn K (.ref c_NoTable) "table" = some none) (m_isinstance : mg "isinstance" = none) (m_len : mg "len" = none) (M_Schema_columns : MtG P w K mg base 3 cc_Schema "columns" 2 (ct_Schema_columns cc_Schema cc_Table cc_Column c_NoTable)) (M_Schema_tables : MtG P w K mg base 1 cc_Schema "tables" 1 (ct_Schema_tables cc_Schema cc_Table cc_Column)) (MF_Schema_columns : MtFG P w K mg base 3 cc_Schema "columns" 2 (ct_Schema_columns cc_Schema cc_Table cc_Column c_NoTable)) (MF_Schema_tables : MtFG P w K mg base 1 cc_Schema "tables" 1 (ct_Schema_tables cc_Schema cc_Table cc_Column)) (m_repr : mg "repr" = none) (S_Schema___contains__ : SpsG P w K mg base 1 cc_Schema "__contains__" 2 (ct_Schema___contains__ cc_Schema cc_Table cc_Column)) (S_Schema___len__ : SpsG P w K mg base 1 cc_Schema "__len__" 1 (ct_Schema___len__ cc_Schema cc_Table cc_Column)) (S_Schema___repr__ : SpsG P w K mg base 1 cc_Schema "__repr__" 1 (ct_Schema___repr__ cc_Schema cc_Table cc_Column)) (m_str : mg "str" = none) (T_Schema : ClsD K cc_Schema schNs) (E_NoTable_NoTable : PySem.W.exmOne K (.ref c_NoTable) (.ref c_NoTable) = some true) : FnG P w K mg base 14 "_law_right" 1 (ct__law_right cc_Schema cc_Table cc_Column c_BadTable c_NoTable c_Full) :=
  fnG_of F sc__law_right hm (ok__law_right F m_Schema F__law_bent F__law_due F__law_names F__law_outcome F__law_references F__law_schema F__law_titles m_NoTable x_NoTable n_NoTable_table m_isinstance m_len M_Schema_columns M_Schema_tables MF_Schema_columns MF_Schema_tables m_repr S_Schema___contains__ S_Schema___len__ S_Schema___repr__ m_str T_Schema E_NoTable_NoTable) (F.bindsN fun _ _ _ _ _ _ us hl => match us, hl with | [_], _ => rfl) Ct.ex_mono
end K3
end
section
set_option autoImplicit true
set_option Elab.async false
set_option linter.all false
set_option maxRecDepth 100000
set_option maxHeartbeats 4000000
namespace K3
open PySem PySem.Spec PyProof.Rows L2 Pd
open Pg Pf
abbrev s_law : Stmt := top 54
abbrev N_law : List Str := ["_law_script", "_law_at", "_law_bag_here", "_law_turn"]
theorem sc_law : FnScope N_law ["_law_script"] (defScope s_law) := ⟨rfl, rfl, rfl, by decide +kernel, rfl, by decide +kernel, by decide +kernel⟩
def ct_law : Ct := Ct.ex 0 (fun ns : List Int => [some (.scr ns)]) (fun ns => ns.length ≤ 63) (fun _ z => z = .bl true) (fun _ _ => False)
theorem ok_law {P : Program} {w : World} {K : PySem.W.Frag} {mg : Str → Option Value} {base : Heap} {f : Addr} {fd : FuncData} {c_BadTable c_Full c_NoTable cc_Column cc_Schema cc_Table : Addr} (F : FunD K "law" "law" (defArgs s_law) (defBody s_law) (defScope s_law) [] [] f fd) (m_Schema : mg "Schema" = some (.ref cc_Schema)) (T_Schema_ACTIONS : ClsT K cc_Schema "ACTIONS" ["cascade", "set_null", "set_default", "restrict", "no_action"]) (F__law_bag : BagG P w K mg base 1 "_law_bag") (F__law_right : FnG P w K mg base 14 "_law_right" 1 (ct__law_right cc_Schema cc_Table cc_Column c_BadTable c_NoTable c_Full)) (m_len : mg "len" = none) (m_max : mg "max" = none) (m_min : mg "min" = none) (m_range : mg "range" = none) : Fd P w K mg base 15 f fd ["_law_script"] (spC K 1 (ct_law )) := by
  have nd := sc_law.nd
  refine fd_body (N := N_law) (ct := ct_law ) F sc_law (fun cdv A outer s H E hr hG tk pw => have hu := Room.units hr; have hv := room_u hr; (pdss_cons (pds_for pw rfl (pdi_range (by rfl) m_range (pda_cons (pd_max2 rfl m_max (pda_cons pd_int (pda_cons (pd_min2 rfl m_min (pda_cons pd_int (pda_cons (pd_lenV (i := 0) rfl (by first | exact .inl rfl | exact .inr (.inl rfl) | exact .inr (.inr rfl)) (by rfl) m_len) pda_nil))) pda_nil))) pda_nil)) (pdg_name (i := 1) nd rfl (by first | exact .inl rfl | exact .inr rfl)) (pdss_cons (pds_bag (i := 2) 1800 F__law_bag hr (by decide) hG tk nd rfl (.inl rfl) (av 0 (av 1 pda_nil)))
    (pdss_one (pds_for pw rfl (pdi_range (by rfl) m_range (pda_cons pd_int pda_nil)) (pdg_name (i := 3) nd rfl (by first | exact .inl rfl | exact .inr rfl)) (pdss_one (pds_if (pdt_not (pdt_tru (dcall F__law_right hr (by decide) hG tk (av 2 pda_nil)))) (pdss_one (pds_ret pd_bl)) pdss_nil))))))
    (pdss_one (pds_ret (pd_cmp (op_eqP hu) snd_eq (dclsT T_Schema_ACTIONS m_Schema) (pd_tup (pda_cons pd_str (pda_cons pd_str (pda_cons pd_str (pda_cons pd_str (pda_cons pd_str pda_nil))))))))))) ?_
  rintro as Q E hl ⟨ns, rfl, hn, q, -⟩
  have q := q _ rfl
  refine dSeq_i ?_
  simp [-Bool.exists_bool, -dSeq]
  refine ⟨2, ns.length, ⟨rfl, rfl⟩, 1, _, ⟨rfl, rfl⟩, ?_, ?_, ?_⟩
  · split <;> omega
  · split <;> split <;> omega
  refine loopD_inv (fun ds sv => (∃ s1 s2 s3, sv = [.dat (.scr ns), s1, s2, s3]) ∧ ∀ d ∈ ds, ∃ m : Nat, d = .int (m : Int) ∧ m < 100) ⟨⟨_, _, _, rfl⟩, fun d hd => ?_⟩ ?_ ?_
  · obtain ⟨m, hm, rfl⟩ := List.mem_map.mp hd
    refine ⟨m, rfl, ?_⟩
    have := List.mem_range.mp hm
    split at this <;> split at this <;> omega
  · rintro sv ⟨⟨s1, s2, s3, rfl⟩, -⟩
    simp [-Bool.exists_bool, -dSeq]
    refine ⟨by simp [PyData.depth, PyData.depthAll], ?_⟩
    rw [eqv_self rfl]
    exact q
  rintro d r sv ⟨⟨s1, s2, s3, rfl⟩, hr⟩ nx hnx
  obtain ⟨m, rfl, hm⟩ := hr d List.mem_cons_self
  have hr2 : ∀ d ∈ r, ∃ m : Nat, d = .int (m : Int) ∧ m < 100 := fun d hd => hr d (List.mem_cons_of_mem _ hd)
  simp [-Bool.exists_bool, -dSeq]
  refine dSeq_i ?_
  simp [-Bool.exists_bool, -dSeq]
  refine ⟨ns, m, ⟨rfl, rfl⟩, by omega, by omega, ?_⟩
  refine loopD_inv (fun ds sv => ∃ (n : Nat) (s3 : Sl), sv = [.dat (.scr ns), .dat (.int m), .bag n, s3] ∧ 224 * ds.length ≤ n) ⟨1800, s3, rfl, by simp⟩ ?_ ?_
  · rintro sv ⟨n, s3', rfl, -⟩
    exact hnx _ ⟨⟨_, _, _, rfl⟩, hr2⟩
  · rintro d r2 sv ⟨n, s3', rfl, h1⟩ nx2 hnx2
    rw [List.length_cons] at h1
    simp [-Bool.exists_bool, -dSeq]
    refine ⟨by show 224 ≤ n; omega, Ct.exI () rfl trivial (fun d hd => ?_) fun _ z => z.elim⟩
    have hd : d = .bl true := hd
    subst hd
    refine ⟨true, rfl, ?_⟩
    simp only [Bool.not_true, Bool.false_eq_true, if_false]
    exact hnx2 _ ⟨n - 224, _, rfl, by omega⟩

theorem fg_law {P : Program} {w : World} {K : PySem.W.Frag} {mg : Str → Option Value} {base : Heap} {f : Addr} {fd : FuncData} {c_BadTable c_Full c_NoTable cc_Column cc_Schema cc_Table : Addr} (F : FunD K "law" "law" (defArgs s_law) (defBody s_law) (defScope s_law) [] [] f fd) (hm : mg "law" = some (.ref f)) (m_Schema : mg "Schema" = some (.ref cc_Schema)) (T_Schema_ACTIONS : ClsT K cc_Schema "ACTIONS" ["cascade", "set_null", "set_default", "restrict", "no_action"]) (F__law_bag : BagG P w K mg base 1 "_law_bag") (F__law_right : FnG P w K mg base 14 "_law_right" 1 (ct__law_right cc_Schema cc_Table cc_Column c_BadTable c_NoTable c_Full)) (m_len : mg "len" = none) (m_max : mg "max" = none) (m_min : mg "min" = none) (m_range : mg "range" = none) : FnG P w K mg base 15 "law" 1 (ct_law ) :=
  fnG_of F sc_law hm (ok_law F m_Schema T_Schema_ACTIONS F__law_bag F__law_right m_len m_max m_min m_range) (F.bindsN fun _ _ _ _ _ _ us hl => match us, hl with | [_], _ => rfl) Ct.ex_mono
end K3
end
section
set_option autoImplicit true
set_option Elab.async false
set_option linter.all false
set_option maxRecDepth 100000
set_option maxHeartbeats 4000000
namespace K3
open PySem PySem.Spec PyProof.Rows L2 Pd
/-! the errors' own __init__ -/
section
variable {P : Program} {w : World} {K : PySem.W.Frag} {mg : Str → Option Value} {base : Heap} {f C : Addr} {fd : FuncData}
theorem vValueError (K : PySem.W.Frag) : PySem.W.findCls K (.type "ValueError") (.type "type") "__init__" = some (.val (.builtin "ValueError.__init__")) := by rfl
theorem tValueError : typeOf (.type "ValueError") = pure (.type "type") := by rfl
theorem hValueError : PySem.W.handedIn (Value.builtin "ValueError.__init__") = true := by rfl
theorem bootValueError : bootBuiltins "ValueError" = some (.type "ValueError") := by decide +kernel
abbrev bmValueError : List Value := [.type "ValueError", .type "Exception", .type "BaseException", .type "object"]
theorem vKeyError (K : PySem.W.Frag) : PySem.W.findCls K (.type "KeyError") (.type "type") "__init__" = some (.val (.builtin "KeyError.__init__")) := by rfl
theorem tKeyError : typeOf (.type "KeyError") = pure (.type "type") := by rfl
theorem hKeyError : PySem.W.handedIn (Value.builtin "KeyError.__init__") = true := by rfl
theorem bootKeyError : bootBuiltins "KeyError" = some (.type "KeyError") := by decide +kernel
abbrev bmKeyError : List Value := [.type "KeyError", .type "LookupError", .type "Exception", .type "BaseException", .type "object"]
theorem vOverflowError (K : PySem.W.Frag) : PySem.W.findCls K (.type "OverflowError") (.type "type") "__init__" = some (.val (.builtin "OverflowError.__init__")) := by rfl
theorem tOverflowError : typeOf (.type "OverflowError") = pure (.type "type") := by rfl
theorem hOverflowError : PySem.W.handedIn (Value.builtin "OverflowError.__init__") = true := by rfl
theorem bootOverflowError : bootBuiltins "OverflowError" = some (.type "OverflowError") := by decide +kernel
abbrev bmOverflowError : List Value := [.type "OverflowError", .type "ArithmeticError", .type "Exception", .type "BaseException", .type "object"]
abbrev s_BadName : Stmt := inClass (top 2) 0
theorem sc_BadName : FnScope ["self", "value"] ["self", "value"] (defScope s_BadName) := ⟨rfl, rfl, rfl, by decide +kernel, rfl, by decide +kernel, by decide +kernel⟩
theorem ini_BadName (F : FunD K "__init__" "BadName.__init__" (defArgs s_BadName) (defBody s_BadName) (defScope s_BadName) [] [] f fd) (T : OexG K C "ValueError" "ValueError.__new__" "ValueError.__init__" bmValueError) (hno : PySem.W.findIn K (.ref C) "value" = some none) (m_V : mg "ValueError" = none) :
    FnOk P w K mg base CX0 1 f fd ["self", "value"] (spEx C ["value"]) := by
  refine F.ok sc_BadName (fun vs H Q E h => ?_) fun cdv A outer s H vs Q E hr h => ⟨_, (pss_cons (ps_expr (pe_binit (B := "ValueError") (newId := "ValueError.__new__") (bm := bmValueError) (by rfl) m_V bootValueError tValueError (vValueError K) (pa_cons (pv 0) (pa_cons pe_str pa_nil)) (by decide +kernel) hValueError)) (pss_one (ps_gst (newId := "ValueError.__new__") (initId := "ValueError.__init__") (bm := bmValueError) (B := "ValueError") (pv 0) (pv 1)))), ?_⟩
  · obtain ⟨a, ws, rfl, hl, _⟩ := h
    simp [hl]
  obtain ⟨a, ws, rfl, hl, ha, q⟩ := h
  obtain ⟨y, rfl⟩ : ∃ y, ws = [y] := by
    match ws, hl with
    | [y], _ => exact ⟨y, rfl⟩
  refine ⟨.ref a, rfl, a, C, _, rfl, by decide, T, ha, ?_⟩
  exact ⟨y, rfl, .ref a, rfl, a, C, rfl, T, hno, .inl ⟨ha, fun dx h1 h2 => q dx h1 h2⟩⟩
theorem exg_BadName (F : FunD K "__init__" "BadName.__init__" (defArgs s_BadName) (defBody s_BadName) (defScope s_BadName) [] [] f fd) (hm : mg "BadName" = some (.ref C)) (h1 : exB K C "ValueError.__new__" bmValueError = true) (h2 : inB K C f = true) (h3 : noB K C ["value"] = true) (m_V : mg "ValueError" = none) : ExG P w K mg base 1 "BadName" C ["value"] := by
  obtain ⟨i1, i2⟩ := bb h2
  have T := exB_ok exb_ValueError h1
  exact ⟨⟨_, _, _, _, f, fd, ["self", "value"], T, of_decide_eq_true i1, of_decide_eq_true i2, ini_BadName F T (noB_ok h3 (by simp)) m_V, F.bindsN fun _ _ _ _ _ _ us hl => match us, hl with | [_, _], _ => rfl⟩, hm, by decide, by decide, by decide⟩
abbrev s_BadAction : Stmt := inClass (top 3) 0
theorem sc_BadAction : FnScope ["self", "value"] ["self", "value"] (defScope s_BadAction) := ⟨rfl, rfl, rfl, by decide +kernel, rfl, by decide +kernel, by decide +kernel⟩
theorem ini_BadAction (F : FunD K "__init__" "BadAction.__init__" (defArgs s_BadAction) (defBody s_BadAction) (defScope s_BadAction) [] [] f fd) (T : OexG K C "ValueError" "ValueError.__new__" "ValueError.__init__" bmValueError) (hno : PySem.W.findIn K (.ref C) "value" = some none) (m_V : mg "ValueError" = none) :
    FnOk P w K mg base CX0 1 f fd ["self", "value"] (spEx C ["value"]) := by
  refine F.ok sc_BadAction (fun vs H Q E h => ?_) fun cdv A outer s H vs Q E hr h => ⟨_, (pss_cons (ps_expr (pe_binit (B := "ValueError") (newId := "ValueError.__new__") (bm := bmValueError) (by rfl) m_V bootValueError tValueError (vValueError K) (pa_cons (pv 0) (pa_cons pe_str pa_nil)) (by decide +kernel) hValueError)) (pss_one (ps_gst (newId := "ValueError.__new__") (initId := "ValueError.__init__") (bm := bmValueError) (B := "ValueError") (pv 0) (pv 1)))), ?_⟩
  · obtain ⟨a, ws, rfl, hl, _⟩ := h
    simp [hl]
  obtain ⟨a, ws, rfl, hl, ha, q⟩ := h
  obtain ⟨y, rfl⟩ : ∃ y, ws = [y] := by
    match ws, hl with
    | [y], _ => exact ⟨y, rfl⟩
  refine ⟨.ref a, rfl, a, C, _, rfl, by decide, T, ha, ?_⟩
  exact ⟨y, rfl, .ref a, rfl, a, C, rfl, T, hno, .inl ⟨ha, fun dx h1 h2 => q dx h1 h2⟩⟩
theorem exg_BadAction (F : FunD K "__init__" "BadAction.__init__" (defArgs s_BadAction) (defBody s_BadAction) (defScope s_BadAction) [] [] f fd) (hm : mg "BadAction" = some (.ref C)) (h1 : exB K C "ValueError.__new__" bmValueError = true) (h2 : inB K C f = true) (h3 : noB K C ["value"] = true) (m_V : mg "ValueError" = none) : ExG P w K mg base 1 "BadAction" C ["value"] := by
  obtain ⟨i1, i2⟩ := bb h2
  have T := exB_ok exb_ValueError h1
  exact ⟨⟨_, _, _, _, f, fd, ["self", "value"], T, of_decide_eq_true i1, of_decide_eq_true i2, ini_BadAction F T (noB_ok h3 (by simp)) m_V, F.bindsN fun _ _ _ _ _ _ us hl => match us, hl with | [_, _], _ => rfl⟩, hm, by decide, by decide, by decide⟩
abbrev s_BadColumn : Stmt := inClass (top 4) 0
theorem sc_BadColumn : FnScope ["self", "name"] ["self", "name"] (defScope s_BadColumn) := ⟨rfl, rfl, rfl, by decide +kernel, rfl, by decide +kernel, by decide +kernel⟩
theorem ini_BadColumn (F : FunD K "__init__" "BadColumn.__init__" (defArgs s_BadColumn) (defBody s_BadColumn) (defScope s_BadColumn) [] [] f fd) (T : OexG K C "ValueError" "ValueError.__new__" "ValueError.__init__" bmValueError) (hno : PySem.W.findIn K (.ref C) "name" = some none) (m_V : mg "ValueError" = none) :
    FnOk P w K mg base CX0 1 f fd ["self", "name"] (spEx C ["name"]) := by
  refine F.ok sc_BadColumn (fun vs H Q E h => ?_) fun cdv A outer s H vs Q E hr h => ⟨_, (pss_cons (ps_expr (pe_binit (B := "ValueError") (newId := "ValueError.__new__") (bm := bmValueError) (by rfl) m_V bootValueError tValueError (vValueError K) (pa_cons (pv 0) (pa_cons pe_str pa_nil)) (by decide +kernel) hValueError)) (pss_one (ps_gst (newId := "ValueError.__new__") (initId := "ValueError.__init__") (bm := bmValueError) (B := "ValueError") (pv 0) (pv 1)))), ?_⟩
  · obtain ⟨a, ws, rfl, hl, _⟩ := h
    simp [hl]
  obtain ⟨a, ws, rfl, hl, ha, q⟩ := h
  obtain ⟨y, rfl⟩ : ∃ y, ws = [y] := by
    match ws, hl with
    | [y], _ => exact ⟨y, rfl⟩
  refine ⟨.ref a, rfl, a, C, _, rfl, by decide, T, ha, ?_⟩
  exact ⟨y, rfl, .ref a, rfl, a, C, rfl, T, hno, .inl ⟨ha, fun dx h1 h2 => q dx h1 h2⟩⟩
theorem exg_BadColumn (F : FunD K "__init__" "BadColumn.__init__" (defArgs s_BadColumn) (defBody s_BadColumn) (defScope s_BadColumn) [] [] f fd) (hm : mg "BadColumn" = some (.ref C)) (h1 : exB K C "ValueError.__new__" bmValueError = true) (h2 : inB K C f = true) (h3 : noB K C ["name"] = true) (m_V : mg "ValueError" = none) : ExG P w K mg base 1 "BadColumn" C ["name"] := by
  obtain ⟨i1, i2⟩ := bb h2
  have T := exB_ok exb_ValueError h1
  exact ⟨⟨_, _, _, _, f, fd, ["self", "name"], T, of_decide_eq_true i1, of_decide_eq_true i2, ini_BadColumn F T (noB_ok h3 (by simp)) m_V, F.bindsN fun _ _ _ _ _ _ us hl => match us, hl with | [_, _], _ => rfl⟩, hm, by decide, by decide, by decide⟩
abbrev s_BadTable : Stmt := inClass (top 5) 0
theorem sc_BadTable : FnScope ["self", "name"] ["self", "name"] (defScope s_BadTable) := ⟨rfl, rfl, rfl, by decide +kernel, rfl, by decide +kernel, by decide +kernel⟩
theorem ini_BadTable (F : FunD K "__init__" "BadTable.__init__" (defArgs s_BadTable) (defBody s_BadTable) (defScope s_BadTable) [] [] f fd) (T : OexG K C "ValueError" "ValueError.__new__" "ValueError.__init__" bmValueError) (hno : PySem.W.findIn K (.ref C) "name" = some none) (m_V : mg "ValueError" = none) :
    FnOk P w K mg base CX0 1 f fd ["self", "name"] (spEx C ["name"]) := by
  refine F.ok sc_BadTable (fun vs H Q E h => ?_) fun cdv A outer s H vs Q E hr h => ⟨_, (pss_cons (ps_expr (pe_binit (B := "ValueError") (newId := "ValueError.__new__") (bm := bmValueError) (by rfl) m_V bootValueError tValueError (vValueError K) (pa_cons (pv 0) (pa_cons pe_str pa_nil)) (by decide +kernel) hValueError)) (pss_one (ps_gst (newId := "ValueError.__new__") (initId := "ValueError.__init__") (bm := bmValueError) (B := "ValueError") (pv 0) (pv 1)))), ?_⟩
  · obtain ⟨a, ws, rfl, hl, _⟩ := h
    simp [hl]
  obtain ⟨a, ws, rfl, hl, ha, q⟩ := h
  obtain ⟨y, rfl⟩ : ∃ y, ws = [y] := by
    match ws, hl with
    | [y], _ => exact ⟨y, rfl⟩
  refine ⟨.ref a, rfl, a, C, _, rfl, by decide, T, ha, ?_⟩
  exact ⟨y, rfl, .ref a, rfl, a, C, rfl, T, hno, .inl ⟨ha, fun dx h1 h2 => q dx h1 h2⟩⟩
theorem exg_BadTable (F : FunD K "__init__" "BadTable.__init__" (defArgs s_BadTable) (defBody s_BadTable) (defScope s_BadTable) [] [] f fd) (hm : mg "BadTable" = some (.ref C)) (h1 : exB K C "ValueError.__new__" bmValueError = true) (h2 : inB K C f = true) (h3 : noB K C ["name"] = true) (m_V : mg "ValueError" = none) : ExG P w K mg base 1 "BadTable" C ["name"] := by
  obtain ⟨i1, i2⟩ := bb h2
  have T := exB_ok exb_ValueError h1
  exact ⟨⟨_, _, _, _, f, fd, ["self", "name"], T, of_decide_eq_true i1, of_decide_eq_true i2, ini_BadTable F T (noB_ok h3 (by simp)) m_V, F.bindsN fun _ _ _ _ _ _ us hl => match us, hl with | [_, _], _ => rfl⟩, hm, by decide, by decide, by decide⟩
abbrev s_NoTable : Stmt := inClass (top 6) 0
theorem sc_NoTable : FnScope ["self", "table"] ["self", "table"] (defScope s_NoTable) := ⟨rfl, rfl, rfl, by decide +kernel, rfl, by decide +kernel, by decide +kernel⟩
theorem ini_NoTable (F : FunD K "__init__" "NoTable.__init__" (defArgs s_NoTable) (defBody s_NoTable) (defScope s_NoTable) [] [] f fd) (T : OexG K C "KeyError" "LookupError.__new__" "KeyError.__init__" bmKeyError) (hno : PySem.W.findIn K (.ref C) "table" = some none) (m_V : mg "KeyError" = none) :
    FnOk P w K mg base CX0 1 f fd ["self", "table"] (spEx C ["table"]) := by
  refine F.ok sc_NoTable (fun vs H Q E h => ?_) fun cdv A outer s H vs Q E hr h => ⟨_, (pss_cons (ps_expr (pe_binit (B := "KeyError") (newId := "LookupError.__new__") (bm := bmKeyError) (by rfl) m_V bootKeyError tKeyError (vKeyError K) (pa_cons (pv 0) (pa_cons pe_str pa_nil)) (by decide +kernel) hKeyError)) (pss_one (ps_gst (newId := "LookupError.__new__") (initId := "KeyError.__init__") (bm := bmKeyError) (B := "KeyError") (pv 0) (pv 1)))), ?_⟩
  · obtain ⟨a, ws, rfl, hl, _⟩ := h
    simp [hl]
  obtain ⟨a, ws, rfl, hl, ha, q⟩ := h
  obtain ⟨y, rfl⟩ : ∃ y, ws = [y] := by
    match ws, hl with
    | [y], _ => exact ⟨y, rfl⟩
  refine ⟨.ref a, rfl, a, C, _, rfl, by decide, T, ha, ?_⟩
  exact ⟨y, rfl, .ref a, rfl, a, C, rfl, T, hno, .inl ⟨ha, fun dx h1 h2 => q dx h1 h2⟩⟩
theorem exg_NoTable (F : FunD K "__init__" "NoTable.__init__" (defArgs s_NoTable) (defBody s_NoTable) (defScope s_NoTable) [] [] f fd) (hm : mg "NoTable" = some (.ref C)) (h1 : exB K C "LookupError.__new__" bmKeyError = true) (h2 : inB K C f = true) (h3 : noB K C ["table"] = true) (m_V : mg "KeyError" = none) : ExG P w K mg base 1 "NoTable" C ["table"] := by
  obtain ⟨i1, i2⟩ := bb h2
  have T := exB_ok exb_KeyError h1
  exact ⟨⟨_, _, _, _, f, fd, ["self", "table"], T, of_decide_eq_true i1, of_decide_eq_true i2, ini_NoTable F T (noB_ok h3 (by simp)) m_V, F.bindsN fun _ _ _ _ _ _ us hl => match us, hl with | [_, _], _ => rfl⟩, hm, by decide, by decide, by decide⟩
abbrev s_Full : Stmt := inClass (top 8) 0
theorem sc_Full : FnScope ["self", "most"] ["self", "most"] (defScope s_Full) := ⟨rfl, rfl, rfl, by decide +kernel, rfl, by decide +kernel, by decide +kernel⟩
theorem ini_Full (F : FunD K "__init__" "Full.__init__" (defArgs s_Full) (defBody s_Full) (defScope s_Full) [] [] f fd) (T : OexG K C "OverflowError" "OverflowError.__new__" "OverflowError.__init__" bmOverflowError) (hno : PySem.W.findIn K (.ref C) "most" = some none) (m_V : mg "OverflowError" = none) :
    FnOk P w K mg base CX0 1 f fd ["self", "most"] (spEx C ["most"]) := by
  refine F.ok sc_Full (fun vs H Q E h => ?_) fun cdv A outer s H vs Q E hr h => ⟨_, (pss_cons (ps_expr (pe_binit (B := "OverflowError") (newId := "OverflowError.__new__") (bm := bmOverflowError) (by rfl) m_V bootOverflowError tOverflowError (vOverflowError K) (pa_cons (pv 0) (pa_cons pe_str pa_nil)) (by decide +kernel) hOverflowError)) (pss_one (ps_gst (newId := "OverflowError.__new__") (initId := "OverflowError.__init__") (bm := bmOverflowError) (B := "OverflowError") (pv 0) (pv 1)))), ?_⟩
  · obtain ⟨a, ws, rfl, hl, _⟩ := h
    simp [hl]
  obtain ⟨a, ws, rfl, hl, ha, q⟩ := h
  obtain ⟨y, rfl⟩ : ∃ y, ws = [y] := by
    match ws, hl with
    | [y], _ => exact ⟨y, rfl⟩
  refine ⟨.ref a, rfl, a, C, _, rfl, by decide, T, ha, ?_⟩
  exact ⟨y, rfl, .ref a, rfl, a, C, rfl, T, hno, .inl ⟨ha, fun dx h1 h2 => q dx h1 h2⟩⟩
theorem exg_Full (F : FunD K "__init__" "Full.__init__" (defArgs s_Full) (defBody s_Full) (defScope s_Full) [] [] f fd) (hm : mg "Full" = some (.ref C)) (h1 : exB K C "OverflowError.__new__" bmOverflowError = true) (h2 : inB K C f = true) (h3 : noB K C ["most"] = true) (m_V : mg "OverflowError" = none) : ExG P w K mg base 1 "Full" C ["most"] := by
  obtain ⟨i1, i2⟩ := bb h2
  have T := exB_ok exb_OverflowError h1
  exact ⟨⟨_, _, _, _, f, fd, ["self", "most"], T, of_decide_eq_true i1, of_decide_eq_true i2, ini_Full F T (noB_ok h3 (by simp)) m_V, F.bindsN fun _ _ _ _ _ _ us hl => match us, hl with | [_, _], _ => rfl⟩, hm, by decide, by decide, by decide⟩
end
abbrev sB : Stmt := top 38
abbrev NB : List Str := ["_law_script", "_law_at", "_law_cell", "_law_digits"]
theorem scB : FnScope NB ["_law_script", "_law_at"] (defScope sB) := ⟨rfl, rfl, rfl, by decide +kernel, rfl, by decide +kernel, by decide +kernel⟩
section
variable {P : Program} {w : World} {K : PySem.W.Frag} {mg : Str → Option Value} {base : Heap} {f : Addr} {fd : FuncData}
theorem okB {k : Nat} (F : FunD K "_law_bag" "_law_bag" (defArgs sB) (defBody sB) (defScope sB) [] [] f fd) (m_len : mg "len" = none) (m_abs : mg "abs" = none) : Fd P w K mg base (k + 1) f fd ["_law_script", "_law_at"] (spBag K) := by
  have nd := scB.nd
  refine fd_of F scB (fun vs H Q E h => ?_) fun cdv A outer s H vs Q E hr hG hsp => ⟨_, (pss_cons (ps_set (i := 2) nd rfl (.inl rfl) (pe_ifExp (pt_cmpR op_lt (pv 1) (pe_callB call_len_seq (by rfl) m_len PySem.boot_len (pa_cons (pv 0) pa_nil)) (nomark _)) (pe_ix ix_list (pv 0) (pv 1) (fun _ _ => rfl)) pe_int))
    (pss_cons (ps_set (i := 3) nd rfl (.inl rfl) (pe_ifExp (pt_cmpR op_ge (pe_callB call_abs (by rfl) m_abs boot_abs' (pa_cons (pv 2) pa_nil)) (pe_op op_pow pe_int pe_int) (nomark _)) (pe_callB call_abs (by rfl) m_abs boot_abs' (pa_cons (pv 2) pa_nil)) pe_int))
    (pss_one (ps_ret (pe_lst (pa_cons (pv 3) (pa_cons (pe_op op_mod (pe_op op_mul (pe_op op_add (pe_op op_add (pe_op op_mod (pv 2) pe_int) (pe_op op_mul pe_int (pv 1))) pe_int) pe_int) pe_int) (pa_cons pe_int pa_nil)))))))), ?_⟩
  · obtain ⟨a, ns, i, rfl, _⟩ := h
    rfl
  obtain ⟨a, ns, i, rfl, hS, hz, hi, q⟩ := hsp
  refine ⟨.int (i : Int), rfl, .ref a, rfl, a, _, rfl, .inl hS, (i : Int), _, rfl, rfl, _, rfl, ?_⟩
  -- the two ends of the cell
  have rest : ∀ (c : Int) (d : Int), 0 ≤ d → ∀ p, H p = none → Q (.ref p) (upd H p (.lst [.int d, .int ((c % 2305843009213693951 + 7919 * (i : Int) + 83) * 5915587 % 2305843009213693951), .int 0])) := fun c d hd p hp =>
    q p d _ hp hd (Int.emod_nonneg _ (by decide)) (Int.lt_trans (Int.emod_lt_of_pos _ (by decide)) (by decide))
  by_cases h1 : (i : Int) < ((ns.map V.int).length : Int)
  · rw [decide_eq_true h1]
    have hl : i < ns.length := by
      rw [List.length_map] at h1
      omega
    have ea : atI (ns.map V.int) (i : Int) = some (.int ns[i]) := by
      unfold atI ixN
      rw [if_pos (Int.natCast_nonneg i), if_pos h1]
      simp [hl]
    refine ⟨.ref a, rfl, .int (i : Int), rfl, a, _, (i : Int), .int ns[i], rfl, rfl, hS, ea, ?_⟩
    generalize ns[i] = c
    refine ⟨.int c, rfl, c, rfl, 10, 18, rfl, rfl, ⟨by decide, by decide, by decide⟩, _, _, rfl, rfl, _, rfl, ?_⟩
    by_cases h2 : (10 : Int) ^ (18 : Int).toNat ≤ (if c < 0 then -c else c)
    · rw [decide_eq_true h2]
      refine ⟨.int c, rfl, c, rfl, ?_⟩
      have hd : 0 ≤ (if c < 0 then -c else c) := by split <;> omega
      refine ⟨_, rfl, .int c, rfl, c, 2305843009213693951, rfl, rfl, (show (0 : Int) < 2305843009213693951 by decide), .int (i : Int), rfl, 7919, (i : Int), rfl, rfl, .inl (by decide), _, _, rfl, rfl, _, 83, rfl, rfl, _, 5915587, rfl, rfl, .inr (by decide), _, 2305843009213693951, rfl, rfl, (show (0 : Int) < 2305843009213693951 by decide), small_line (show 3 ≤ 100000 by decide), fun p hp => rest c _ hd p hp⟩
    · rw [decide_eq_false h2]
      refine ⟨_, rfl, .int c, rfl, c, 2305843009213693951, rfl, rfl, (show (0 : Int) < 2305843009213693951 by decide), .int (i : Int), rfl, 7919, (i : Int), rfl, rfl, .inl (by decide), _, _, rfl, rfl, _, 83, rfl, rfl, _, 5915587, rfl, rfl, .inr (by decide), _, 2305843009213693951, rfl, rfl, (show (0 : Int) < 2305843009213693951 by decide), small_line (show 3 ≤ 100000 by decide), fun p hp => rest c 0 (by decide) p hp⟩
  · rw [decide_eq_false h1]
    refine ⟨.int 0, rfl, 0, rfl, 10, 18, rfl, rfl, ⟨by decide, by decide, by decide⟩, _, _, rfl, rfl, _, rfl, ?_⟩
    have h2 : ¬ (10 : Int) ^ (18 : Int).toNat ≤ (if (0 : Int) < 0 then -0 else 0) := by decide
    rw [decide_eq_false h2]
    refine ⟨_, rfl, .int 0, rfl, 0, 2305843009213693951, rfl, rfl, (show (0 : Int) < 2305843009213693951 by decide), .int (i : Int), rfl, 7919, (i : Int), rfl, rfl, .inl (by decide), _, _, rfl, rfl, _, 83, rfl, rfl, _, 5915587, rfl, rfl, .inr (by decide), _, 2305843009213693951, rfl, rfl, (show (0 : Int) < 2305843009213693951 by decide), small_line (show 3 ≤ 100000 by decide), fun p hp => rest 0 0 (by decide) p hp⟩
end
end K3
end
section
set_option autoImplicit true
set_option Elab.async false
set_option linter.all false
set_option maxRecDepth 100000
set_option maxHeartbeats 0
namespace K3
open PySem PySem.Spec PyProof.Rows L2 Pd
def kwAt (f : Str × Option Str) (x : Str) (K : PySem.W.Frag) : Addr := match K.lookup (He.fAd K f) with
  | some ⟨_, _, .func fd, _⟩ => (match fd.kwdefaults with
    | .ref D => (match PySem.W.nsIn K D x with
      | some (some (.ref a)) => a
      | _ => 0)
    | _ => 0)
  | _ => 0
def spB (K : PySem.W.Frag) (C : Addr) (m : Str) (f : Addr) : Bool := decide (PySem.W.findIn K (.ref C) m = some (some (.ref f))) && PySem.W.isFn K (.ref f)
theorem spB_ok {K : PySem.W.Frag} {C f : Addr} {m : Str} (h : spB K C m f = true) : PySem.W.findIn K (.ref C) m = some (some (.ref f)) ∧ PySem.W.isFn K (.ref f) = true := by
  obtain ⟨h1, h2⟩ := bb h
  exact ⟨of_decide_eq_true h1, h2⟩
def methB (K : PySem.W.Frag) (C : Addr) (m : Str) (f : Addr) : Bool := spB K C m f && PySem.W.keepIn K (.ref f)
theorem methB_ok {K : PySem.W.Frag} {C f : Addr} {m : Str} (h : methB K C m f = true) : Meth K C m f := by
  obtain ⟨h1, h2⟩ := bb h
  obtain ⟨h3, h4⟩ := spB_ok h1
  exact ⟨h3, h4, h2⟩
def d_BadName___init__ : He.DefD := ⟨("BadName", some "__init__"), "__init__", "BadName.__init__", defArgs s_BadName, defBody s_BadName, defScope s_BadName, [], []⟩
def d_BadAction___init__ : He.DefD := ⟨("BadAction", some "__init__"), "__init__", "BadAction.__init__", defArgs s_BadAction, defBody s_BadAction, defScope s_BadAction, [], []⟩
def d_BadColumn___init__ : He.DefD := ⟨("BadColumn", some "__init__"), "__init__", "BadColumn.__init__", defArgs s_BadColumn, defBody s_BadColumn, defScope s_BadColumn, [], []⟩
def d_BadTable___init__ : He.DefD := ⟨("BadTable", some "__init__"), "__init__", "BadTable.__init__", defArgs s_BadTable, defBody s_BadTable, defScope s_BadTable, [], []⟩
def d_NoTable___init__ : He.DefD := ⟨("NoTable", some "__init__"), "__init__", "NoTable.__init__", defArgs s_NoTable, defBody s_NoTable, defScope s_NoTable, [], []⟩
def d_Full___init__ : He.DefD := ⟨("Full", some "__init__"), "__init__", "Full.__init__", defArgs s_Full, defBody s_Full, defScope s_Full, [], []⟩
def d__law_take : He.DefD := ⟨("_law_take", none), "_law_take", "_law_take", defArgs sT, defBody sT, defScope sT, [], []⟩
def d__law_bag : He.DefD := ⟨("_law_bag", none), "_law_bag", "_law_bag", defArgs sB, defBody sB, defScope sB, [], []⟩
def d_is_integer : He.DefD := ⟨("is_integer", none), "is_integer", "is_integer", defArgs s_is_integer, defBody s_is_integer, defScope s_is_integer, [], []⟩
def d_is_name : He.DefD := ⟨("is_name", none), "is_name", "is_name", defArgs s_is_name, defBody s_is_name, defScope s_is_name, [], []⟩
def d_is_link : He.DefD := ⟨("is_link", none), "is_link", "is_link", defArgs s_is_link, defBody s_is_link, defScope s_is_link, [], []⟩
def d_may_have : He.DefD := ⟨("may_have", none), "may_have", "may_have", defArgs s_may_have, defBody s_may_have, defScope s_may_have, [], []⟩
def d_check_links : He.DefD := ⟨("check_links", none), "check_links", "check_links", defArgs s_check_links, defBody s_check_links, defScope s_check_links, [], []⟩
def d_targets_of : He.DefD := ⟨("targets_of", none), "targets_of", "targets_of", defArgs s_targets_of, defBody s_targets_of, defScope s_targets_of, [], []⟩
def d_have_one_target_twice : He.DefD := ⟨("have_one_target_twice", none), "have_one_target_twice", "have_one_target_twice", defArgs s_have_one_target_twice, defBody s_have_one_target_twice, defScope s_have_one_target_twice, [], []⟩
def d_Column___init__ : He.DefD := ⟨("Column", some "__init__"), "__init__", "Column.__init__", defArgs s_Column___init__, defBody s_Column___init__, defScope s_Column___init__, [], [("nullable", .bl false), ("default", .non)]⟩
def d__law_of : He.DefD := ⟨("_law_of", none), "_law_of", "_law_of", defArgs s__law_of, defBody s__law_of, defScope s__law_of, [], []⟩
def d_with_links : He.DefD := ⟨("with_links", none), "with_links", "with_links", defArgs s_with_links, defBody s_with_links, defScope s_with_links, [], []⟩
def d_Table___init__ : He.DefD := ⟨("Table", some "__init__"), "__init__", "Table.__init__", defArgs s_Table___init__, defBody s_Table___init__, defScope s_Table___init__, [], [("ids", .adr (kwAt ("Table", some "__init__") "ids"))]⟩
def d_linked : He.DefD := ⟨("linked", none), "linked", "linked", defArgs s_linked, defBody s_linked, defScope s_linked, [], []⟩
def d_check_names : He.DefD := ⟨("check_names", none), "check_names", "check_names", defArgs s_check_names, defBody s_check_names, defScope s_check_names, [], []⟩
def d_check_targets : He.DefD := ⟨("check_targets", none), "check_targets", "check_targets", defArgs s_check_targets, defBody s_check_targets, defScope s_check_targets, [], []⟩
def d_actions_of : He.DefD := ⟨("actions_of", none), "actions_of", "actions_of", defArgs s_actions_of, defBody s_actions_of, defScope s_actions_of, [], []⟩
def d_with_actions : He.DefD := ⟨("with_actions", none), "with_actions", "with_actions", defArgs s_with_actions, defBody s_with_actions, defScope s_with_actions, [], []⟩
def d_Schema___init__ : He.DefD := ⟨("Schema", some "__init__"), "__init__", "Schema.__init__", defArgs s_Schema___init__, defBody s_Schema___init__, defScope s_Schema___init__, [], []⟩
def d_Schema_tables : He.DefD := ⟨("Schema", some "tables"), "tables", "Schema.tables", defArgs s_Schema_tables, defBody s_Schema_tables, defScope s_Schema_tables, [], []⟩
def d_Schema___len__ : He.DefD := ⟨("Schema", some "__len__"), "__len__", "Schema.__len__", defArgs s_Schema___len__, defBody s_Schema___len__, defScope s_Schema___len__, [], []⟩
def d_Schema___contains__ : He.DefD := ⟨("Schema", some "__contains__"), "__contains__", "Schema.__contains__", defArgs s_Schema___contains__, defBody s_Schema___contains__, defScope s_Schema___contains__, [], []⟩
def d_Schema_columns : He.DefD := ⟨("Schema", some "columns"), "columns", "Schema.columns", defArgs s_Schema_columns, defBody s_Schema_columns, defScope s_Schema_columns, [], []⟩
def d_Schema___repr__ : He.DefD := ⟨("Schema", some "__repr__"), "__repr__", "Schema.__repr__", defArgs s_Schema___repr__, defBody s_Schema___repr__, defScope s_Schema___repr__, [], []⟩
def d__law_links : He.DefD := ⟨("_law_links", none), "_law_links", "_law_links", defArgs s__law_links, defBody s__law_links, defScope s__law_links, [], []⟩
def d__law_column : He.DefD := ⟨("_law_column", none), "_law_column", "_law_column", defArgs s__law_column, defBody s__law_column, defScope s__law_column, [], []⟩
def d__law_names : He.DefD := ⟨("_law_names", none), "_law_names", "_law_names", defArgs s__law_names, defBody s__law_names, defScope s__law_names, [], []⟩
def d__law_titles : He.DefD := ⟨("_law_titles", none), "_law_titles", "_law_titles", defArgs s__law_titles, defBody s__law_titles, defScope s__law_titles, [], []⟩
def d__law_references : He.DefD := ⟨("_law_references", none), "_law_references", "_law_references", defArgs s__law_references, defBody s__law_references, defScope s__law_references, [], []⟩
def d__law_column_of : He.DefD := ⟨("_law_column_of", none), "_law_column_of", "_law_column_of", defArgs s__law_column_of, defBody s__law_column_of, defScope s__law_column_of, [], []⟩
def d__law_table_of : He.DefD := ⟨("_law_table_of", none), "_law_table_of", "_law_table_of", defArgs s__law_table_of, defBody s__law_table_of, defScope s__law_table_of, [], []⟩
def d__law_schema_of : He.DefD := ⟨("_law_schema_of", none), "_law_schema_of", "_law_schema_of", defArgs s__law_schema_of, defBody s__law_schema_of, defScope s__law_schema_of, [], []⟩
def d__law_outcome : He.DefD := ⟨("_law_outcome", none), "_law_outcome", "_law_outcome", defArgs s__law_outcome, defBody s__law_outcome, defScope s__law_outcome, [], []⟩
def d__law_due : He.DefD := ⟨("_law_due", none), "_law_due", "_law_due", defArgs s__law_due, defBody s__law_due, defScope s__law_due, [], []⟩
def d__law_schema : He.DefD := ⟨("_law_schema", none), "_law_schema", "_law_schema", defArgs s__law_schema, defBody s__law_schema, defScope s__law_schema, [], []⟩
def d__law_bent : He.DefD := ⟨("_law_bent", none), "_law_bent", "_law_bent", defArgs s__law_bent, defBody s__law_bent, defScope s__law_bent, [], []⟩
def d__law_right : He.DefD := ⟨("_law_right", none), "_law_right", "_law_right", defArgs s__law_right, defBody s__law_right, defScope s__law_right, [], []⟩
def d_law : He.DefD := ⟨("law", none), "law", "law", defArgs s_law, defBody s_law, defScope s_law, [], []⟩
def fn : List He.DefD := [d_BadName___init__, d_BadAction___init__, d_BadColumn___init__, d_BadTable___init__, d_NoTable___init__, d_Full___init__, d__law_take, d__law_bag, d_is_integer, d_is_name, d_is_link, d_may_have, d_check_links, d_targets_of, d_have_one_target_twice, d_Column___init__, d__law_of, d_with_links, d_Table___init__, d_linked, d_check_names, d_check_targets, d_actions_of, d_with_actions, d_Schema___init__, d_Schema_tables, d_Schema___len__, d_Schema___contains__, d_Schema_columns, d_Schema___repr__, d__law_links, d__law_column, d__law_names, d__law_titles, d__law_references, d__law_column_of, d__law_table_of, d__law_schema_of, d__law_outcome, d__law_due, d__law_schema, d__law_bent, d__law_right, d_law]
def fa : List He.Fa := [.glo "BadName", .glo "BadAction", .glo "BadColumn", .glo "BadTable", .glo "NoTable", .glo "Full", .glo "Column", .glo "Table", .glo "Schema", .glo "_law_take", .glo "_law_bag", .glo "is_integer", .glo "is_name", .glo "is_link", .glo "may_have", .glo "check_links", .glo "targets_of", .glo "have_one_target_twice", .glo "_law_of", .glo "with_links", .glo "linked", .glo "check_names", .glo "check_targets", .glo "actions_of", .glo "with_actions", .glo "_law_links", .glo "_law_column", .glo "_law_names", .glo "_law_titles", .glo "_law_references", .glo "_law_column_of", .glo "_law_table_of", .glo "_law_schema_of", .glo "_law_outcome", .glo "_law_due", .glo "_law_schema", .glo "_law_bent", .glo "_law_right", .glo "law", .free "bool", .free "int", .free "isinstance", .free "all", .free "len", .free "str", .free "tuple", .free "set", .free "list", .free "range", .free "KeyError", .free "OverflowError", .free "enumerate", .free "min", .free "repr", .free "max", .free "abs", .free "ValueError", .int "MOST_LETTERS" 8, .int "MOST_LINKS" 4, .int "MOST_COLUMNS" 3, .int "MOST_TABLES" 5, .int "MOST_REFERENCES" 10, .str "LETTERS" "abcdefghijklmnopqrstuvwxyz"]
def ex (K : PySem.W.Frag) : List Bool :=
  let c_BadName := He.ga K "BadName"; let c_BadAction := He.ga K "BadAction"; let c_BadColumn := He.ga K "BadColumn"; let c_BadTable := He.ga K "BadTable"; let c_NoTable := He.ga K "NoTable"; let c_Full := He.ga K "Full"; let c_Column := He.ga K "Column"; let c_Table := He.ga K "Table"; let c_Schema := He.ga K "Schema"
  [exB K c_BadName "ValueError.__new__" bmValueError, xB K c_BadName, inB K c_BadName (He.ma K c_BadName "__init__"), noB K c_BadName ["value"], exB K c_BadAction "ValueError.__new__" bmValueError, xB K c_BadAction, inB K c_BadAction (He.ma K c_BadAction "__init__"), noB K c_BadAction ["value"], exB K c_BadColumn "ValueError.__new__" bmValueError, xB K c_BadColumn, inB K c_BadColumn (He.ma K c_BadColumn "__init__"), noB K c_BadColumn ["name"], exB K c_BadTable "ValueError.__new__" bmValueError, xB K c_BadTable, inB K c_BadTable (He.ma K c_BadTable "__init__"), noB K c_BadTable ["name"], exB K c_NoTable "LookupError.__new__" bmKeyError, xB K c_NoTable, inB K c_NoTable (He.ma K c_NoTable "__init__"), noB K c_NoTable ["table"], exB K c_Full "OverflowError.__new__" bmOverflowError, xB K c_Full, inB K c_Full (He.ma K c_Full "__init__"), noB K c_Full ["most"], cdB K c_Column colNs, mkB K c_Column (He.ma K c_Column "__init__"), cdB K c_Table tabNs, mkB K c_Table (He.ma K c_Table "__init__"), cdB K c_Schema schNs, mkB K c_Schema (He.ma K c_Schema "__init__"), ctB K c_Schema "ACTIONS" ["cascade", "set_null", "set_default", "restrict", "no_action"], methB K c_Schema "tables" (He.ma K c_Schema "tables"), spB K c_Schema "__len__" (He.ma K c_Schema "__len__"), spB K c_Schema "__contains__" (He.ma K c_Schema "__contains__"), methB K c_Schema "columns" (He.ma K c_Schema "columns"), spB K c_Schema "__repr__" (He.ma K c_Schema "__repr__"), decide (PySem.W.kitOne K (.ref c_NoTable) (.type "KeyError") = some true), decide (PySem.W.kitOne K (.ref c_Full) (.type "OverflowError") = some true), decide (PySem.W.exmOne K (.ref c_BadTable) (.ref c_BadTable) = some true), decide (PySem.W.exmOne K (.ref c_NoTable) (.ref c_BadTable) = some false), decide (PySem.W.exmOne K (.ref c_NoTable) (.ref c_NoTable) = some true), decide (PySem.W.exmOne K (.ref c_Full) (.ref c_BadTable) = some false), decide (PySem.W.exmOne K (.ref c_Full) (.ref c_NoTable) = some false), decide (PySem.W.exmOne K (.ref c_Full) (.ref c_Full) = some true)]
def exA (K : PySem.W.Frag) : Bool := (ex K).all id
abbrev R : PySem.W.OpenRow := PySem.W.OpenLaw.row PySem.Challenge.rw_keyactions_k03_schemas_made
abbrev hk : PySem.W.Hook := hookY 5 fa fn exA
def ob (s : PySem.W.SharedT) : AlY := obY 5 fa fn exA (HandSHeadRun.getT s)
theorem ob_eq (s : PySem.W.SharedT) : ob s = hk.obs s.abs := obY_eq (HandSHeadRun.getT_eq s)
def names : List PySem.Str := (["_wall", "BadName", "BadAction", "BadColumn", "BadTable", "NoTable", "NoReference", "Full", "LETTERS", "MOST_LETTERS", "is_integer", "is_name", "MOST_LINKS", "MOST_COLUMNS", "MOST_TABLES", "MOST_REFERENCES", "Column", "Table", "Schema", "table_lines", "column_words", "link_words", "check_links", "is_link", "may_have", "is_strings", "targets_of", "have_one_target_twice", "linked", "with_links"] : List PySem.Str) ++ (["with_actions", "actions_of", "check_names", "check_targets", "_law_bag", "_law_take", "_law_of", "_law_links", "_law_column", "_law_schema", "_law_names", "_law_titles", "_law_references", "_law_column_of", "_law_table_of", "_law_schema_of", "_law_outcome", "_law_due", "_law_bent", "_law_right"] : List PySem.Str)
theorem run (w : World) : HandSHeadRun.RunEq R (PySem.W.view R.prog [54]) hk ob 20000 names w := by
  intro os
  kernel_rfl
theorem exAt {K : PySem.W.Frag} (h : exA K = true) (i : Nat) {b : Bool} (e : (ex K)[i]? = some b := by rfl) : b = true := List.all_eq_true.mp h b (List.mem_of_getElem? e)
theorem facts {P : Program} {w : World} {K : PySem.W.Frag} {h : Heap} {mg : Str → Option Value} {f : Addr} (X : K.In h) (G : h.Ns mainGlobals mg) (hfa : mg ("law" : Str) = some (.ref f)) (c : He.SaysD fa fn K) (x : exA K = true) :
    ∃ fd : FuncData, (∀ (s : Shared) (v : Value), BindsTo s fd ⟨[v], []⟩ [("_law_script", v)]) ∧ ∀ base : Heap, K.In base → base.Ns mainGlobals mg → Fd P w K mg base 15 f fd ["_law_script"] (spC K 1 ct_law) := by
  obtain ⟨fd0, D_BadName___init__⟩ := c.def_ 0 (d := d_BadName___init__) rfl
  obtain ⟨fd1, D_BadAction___init__⟩ := c.def_ 1 (d := d_BadAction___init__) rfl
  obtain ⟨fd2, D_BadColumn___init__⟩ := c.def_ 2 (d := d_BadColumn___init__) rfl
  obtain ⟨fd3, D_BadTable___init__⟩ := c.def_ 3 (d := d_BadTable___init__) rfl
  obtain ⟨fd4, D_NoTable___init__⟩ := c.def_ 4 (d := d_NoTable___init__) rfl
  obtain ⟨fd5, D_Full___init__⟩ := c.def_ 5 (d := d_Full___init__) rfl
  obtain ⟨fd6, D__law_take⟩ := c.def_ 6 (d := d__law_take) rfl
  obtain ⟨fd7, D__law_bag⟩ := c.def_ 7 (d := d__law_bag) rfl
  obtain ⟨fd8, D_is_integer⟩ := c.def_ 8 (d := d_is_integer) rfl
  obtain ⟨fd9, D_is_name⟩ := c.def_ 9 (d := d_is_name) rfl
  obtain ⟨fd10, D_is_link⟩ := c.def_ 10 (d := d_is_link) rfl
  obtain ⟨fd11, D_may_have⟩ := c.def_ 11 (d := d_may_have) rfl
  obtain ⟨fd12, D_check_links⟩ := c.def_ 12 (d := d_check_links) rfl
  obtain ⟨fd13, D_targets_of⟩ := c.def_ 13 (d := d_targets_of) rfl
  obtain ⟨fd14, D_have_one_target_twice⟩ := c.def_ 14 (d := d_have_one_target_twice) rfl
  obtain ⟨fd15, D_Column___init__⟩ := c.def_ 15 (d := d_Column___init__) rfl
  obtain ⟨fd16, D__law_of⟩ := c.def_ 16 (d := d__law_of) rfl
  obtain ⟨fd17, D_with_links⟩ := c.def_ 17 (d := d_with_links) rfl
  obtain ⟨fd18, D_Table___init__⟩ := c.def_ 18 (d := d_Table___init__) rfl
  obtain ⟨fd19, D_linked⟩ := c.def_ 19 (d := d_linked) rfl
  obtain ⟨fd20, D_check_names⟩ := c.def_ 20 (d := d_check_names) rfl
  obtain ⟨fd21, D_check_targets⟩ := c.def_ 21 (d := d_check_targets) rfl
  obtain ⟨fd22, D_actions_of⟩ := c.def_ 22 (d := d_actions_of) rfl
  obtain ⟨fd23, D_with_actions⟩ := c.def_ 23 (d := d_with_actions) rfl
  obtain ⟨fd24, D_Schema___init__⟩ := c.def_ 24 (d := d_Schema___init__) rfl
  obtain ⟨fd25, D_Schema_tables⟩ := c.def_ 25 (d := d_Schema_tables) rfl
  obtain ⟨fd26, D_Schema___len__⟩ := c.def_ 26 (d := d_Schema___len__) rfl
  obtain ⟨fd27, D_Schema___contains__⟩ := c.def_ 27 (d := d_Schema___contains__) rfl
  obtain ⟨fd28, D_Schema_columns⟩ := c.def_ 28 (d := d_Schema_columns) rfl
  obtain ⟨fd29, D_Schema___repr__⟩ := c.def_ 29 (d := d_Schema___repr__) rfl
  obtain ⟨fd30, D__law_links⟩ := c.def_ 30 (d := d__law_links) rfl
  obtain ⟨fd31, D__law_column⟩ := c.def_ 31 (d := d__law_column) rfl
  obtain ⟨fd32, D__law_names⟩ := c.def_ 32 (d := d__law_names) rfl
  obtain ⟨fd33, D__law_titles⟩ := c.def_ 33 (d := d__law_titles) rfl
  obtain ⟨fd34, D__law_references⟩ := c.def_ 34 (d := d__law_references) rfl
  obtain ⟨fd35, D__law_column_of⟩ := c.def_ 35 (d := d__law_column_of) rfl
  obtain ⟨fd36, D__law_table_of⟩ := c.def_ 36 (d := d__law_table_of) rfl
  obtain ⟨fd37, D__law_schema_of⟩ := c.def_ 37 (d := d__law_schema_of) rfl
  obtain ⟨fd38, D__law_outcome⟩ := c.def_ 38 (d := d__law_outcome) rfl
  obtain ⟨fd39, D__law_due⟩ := c.def_ 39 (d := d__law_due) rfl
  obtain ⟨fd40, D__law_schema⟩ := c.def_ 40 (d := d__law_schema) rfl
  obtain ⟨fd41, D__law_bent⟩ := c.def_ 41 (d := d__law_bent) rfl
  obtain ⟨fd42, D__law_right⟩ := c.def_ 42 (d := d__law_right) rfl
  obtain ⟨fd43, D_law⟩ := c.def_ 43 (d := d_law) rfl
  have m_BadName := He.glo_ok X G (c.fact 0 (f := .glo "BadName") rfl)
  have m_BadAction := He.glo_ok X G (c.fact 1 (f := .glo "BadAction") rfl)
  have m_BadColumn := He.glo_ok X G (c.fact 2 (f := .glo "BadColumn") rfl)
  have m_BadTable := He.glo_ok X G (c.fact 3 (f := .glo "BadTable") rfl)
  have m_NoTable := He.glo_ok X G (c.fact 4 (f := .glo "NoTable") rfl)
  have m_Full := He.glo_ok X G (c.fact 5 (f := .glo "Full") rfl)
  have m_Column := He.glo_ok X G (c.fact 6 (f := .glo "Column") rfl)
  have m_Table := He.glo_ok X G (c.fact 7 (f := .glo "Table") rfl)
  have m_Schema := He.glo_ok X G (c.fact 8 (f := .glo "Schema") rfl)
  have m__law_take := He.glo_ok X G (c.fact 9 (f := .glo "_law_take") rfl)
  have m__law_bag := He.glo_ok X G (c.fact 10 (f := .glo "_law_bag") rfl)
  have m_is_integer := He.glo_ok X G (c.fact 11 (f := .glo "is_integer") rfl)
  have m_is_name := He.glo_ok X G (c.fact 12 (f := .glo "is_name") rfl)
  have m_is_link := He.glo_ok X G (c.fact 13 (f := .glo "is_link") rfl)
  have m_may_have := He.glo_ok X G (c.fact 14 (f := .glo "may_have") rfl)
  have m_check_links := He.glo_ok X G (c.fact 15 (f := .glo "check_links") rfl)
  have m_targets_of := He.glo_ok X G (c.fact 16 (f := .glo "targets_of") rfl)
  have m_have_one_target_twice := He.glo_ok X G (c.fact 17 (f := .glo "have_one_target_twice") rfl)
  have m__law_of := He.glo_ok X G (c.fact 18 (f := .glo "_law_of") rfl)
  have m_with_links := He.glo_ok X G (c.fact 19 (f := .glo "with_links") rfl)
  have m_linked := He.glo_ok X G (c.fact 20 (f := .glo "linked") rfl)
  have m_check_names := He.glo_ok X G (c.fact 21 (f := .glo "check_names") rfl)
  have m_check_targets := He.glo_ok X G (c.fact 22 (f := .glo "check_targets") rfl)
  have m_actions_of := He.glo_ok X G (c.fact 23 (f := .glo "actions_of") rfl)
  have m_with_actions := He.glo_ok X G (c.fact 24 (f := .glo "with_actions") rfl)
  have m__law_links := He.glo_ok X G (c.fact 25 (f := .glo "_law_links") rfl)
  have m__law_column := He.glo_ok X G (c.fact 26 (f := .glo "_law_column") rfl)
  have m__law_names := He.glo_ok X G (c.fact 27 (f := .glo "_law_names") rfl)
  have m__law_titles := He.glo_ok X G (c.fact 28 (f := .glo "_law_titles") rfl)
  have m__law_references := He.glo_ok X G (c.fact 29 (f := .glo "_law_references") rfl)
  have m__law_column_of := He.glo_ok X G (c.fact 30 (f := .glo "_law_column_of") rfl)
  have m__law_table_of := He.glo_ok X G (c.fact 31 (f := .glo "_law_table_of") rfl)
  have m__law_schema_of := He.glo_ok X G (c.fact 32 (f := .glo "_law_schema_of") rfl)
  have m__law_outcome := He.glo_ok X G (c.fact 33 (f := .glo "_law_outcome") rfl)
  have m__law_due := He.glo_ok X G (c.fact 34 (f := .glo "_law_due") rfl)
  have m__law_schema := He.glo_ok X G (c.fact 35 (f := .glo "_law_schema") rfl)
  have m__law_bent := He.glo_ok X G (c.fact 36 (f := .glo "_law_bent") rfl)
  have m__law_right := He.glo_ok X G (c.fact 37 (f := .glo "_law_right") rfl)
  have m_law := He.glo_ok X G (c.fact 38 (f := .glo "law") rfl)
  have m_bool := He.free_ok X G (c.fact 39 (f := .free "bool") rfl)
  have m_int := He.free_ok X G (c.fact 40 (f := .free "int") rfl)
  have m_isinstance := He.free_ok X G (c.fact 41 (f := .free "isinstance") rfl)
  have m_all := He.free_ok X G (c.fact 42 (f := .free "all") rfl)
  have m_len := He.free_ok X G (c.fact 43 (f := .free "len") rfl)
  have m_str := He.free_ok X G (c.fact 44 (f := .free "str") rfl)
  have m_tuple := He.free_ok X G (c.fact 45 (f := .free "tuple") rfl)
  have m_set := He.free_ok X G (c.fact 46 (f := .free "set") rfl)
  have m_list := He.free_ok X G (c.fact 47 (f := .free "list") rfl)
  have m_range := He.free_ok X G (c.fact 48 (f := .free "range") rfl)
  have m_KeyError := He.free_ok X G (c.fact 49 (f := .free "KeyError") rfl)
  have m_OverflowError := He.free_ok X G (c.fact 50 (f := .free "OverflowError") rfl)
  have m_enumerate := He.free_ok X G (c.fact 51 (f := .free "enumerate") rfl)
  have m_min := He.free_ok X G (c.fact 52 (f := .free "min") rfl)
  have m_repr := He.free_ok X G (c.fact 53 (f := .free "repr") rfl)
  have m_max := He.free_ok X G (c.fact 54 (f := .free "max") rfl)
  have m_abs := He.free_ok X G (c.fact 55 (f := .free "abs") rfl)
  have m_ValueError := He.free_ok X G (c.fact 56 (f := .free "ValueError") rfl)
  have m_MOST_LETTERS := He.int_ok X G (c.fact 57 (f := .int "MOST_LETTERS" 8) rfl)
  have m_MOST_LINKS := He.int_ok X G (c.fact 58 (f := .int "MOST_LINKS" 4) rfl)
  have m_MOST_COLUMNS := He.int_ok X G (c.fact 59 (f := .int "MOST_COLUMNS" 3) rfl)
  have m_MOST_TABLES := He.int_ok X G (c.fact 60 (f := .int "MOST_TABLES" 5) rfl)
  have m_MOST_REFERENCES := He.int_ok X G (c.fact 61 (f := .int "MOST_REFERENCES" 10) rfl)
  have m_LETTERS := He.str_ok X G (c.fact 62 (f := .str "LETTERS" "abcdefghijklmnopqrstuvwxyz") rfl)
  have e := hfa.symm.trans m_law
  cases e
  have T_Column := cdB_ok (exAt x 24)
  have T_Table := cdB_ok (exAt x 26)
  have T_Schema := cdB_ok (exAt x 28)
  have T_Schema_ACTIONS := ctB_ok (exAt x 30)
  have M_Column := mkB_ok (exAt x 25)
  have M_Table := mkB_ok (exAt x 27)
  have M_Schema := mkB_ok (exAt x 29)
  have bnd := FunD.bindsA (ps := ["_law_script"]) D_law fun _ _ _ _ _ _ us hl => match us, hl with | [_], _ => rfl
  refine ⟨_, fun s v => bnd s [v] rfl, fun base _ _ => ?_⟩
  have E_BadName : ExG P w K mg base 1 "BadName" _ ["value"] := exg_BadName D_BadName___init__ m_BadName (exAt x 0) (exAt x 2) (exAt x 3) m_ValueError
  have XX_BadName := xB_ok (exAt x 1)
  have E_BadAction : ExG P w K mg base 1 "BadAction" _ ["value"] := exg_BadAction D_BadAction___init__ m_BadAction (exAt x 4) (exAt x 6) (exAt x 7) m_ValueError
  have XX_BadAction := xB_ok (exAt x 5)
  have E_BadColumn : ExG P w K mg base 1 "BadColumn" _ ["name"] := exg_BadColumn D_BadColumn___init__ m_BadColumn (exAt x 8) (exAt x 10) (exAt x 11) m_ValueError
  have XX_BadColumn := xB_ok (exAt x 9)
  have E_BadTable : ExG P w K mg base 1 "BadTable" _ ["name"] := exg_BadTable D_BadTable___init__ m_BadTable (exAt x 12) (exAt x 14) (exAt x 15) m_ValueError
  have XX_BadTable := xB_ok (exAt x 13)
  have E_NoTable : ExG P w K mg base 1 "NoTable" _ ["table"] := exg_NoTable D_NoTable___init__ m_NoTable (exAt x 16) (exAt x 18) (exAt x 19) m_KeyError
  have XX_NoTable := xB_ok (exAt x 17)
  have E_Full : ExG P w K mg base 1 "Full" _ ["most"] := exg_Full D_Full___init__ m_Full (exAt x 20) (exAt x 22) (exAt x 23) m_OverflowError
  have XX_Full := xB_ok (exAt x 21)
  have F__law_take : FnG P w K mg base 1 "_law_take" 2 ctTake := fnG_of D__law_take scT m__law_take (okT (k := 0) D__law_take m_int) (FunD.bindsN D__law_take fun _ _ _ _ _ _ us hl => match us, hl with | [_, _], _ => rfl) ctTake_mono
  have F__law_bag : BagG P w K mg base 1 "_law_bag" := ⟨⟨_, _, ["_law_script", "_law_at"], rfl, okB (k := 0) D__law_bag m_len m_abs, m__law_bag, D__law_bag.kp, FunD.bindsN D__law_bag fun _ _ _ _ _ _ us hl => match us, hl with | [_, _], _ => rfl⟩⟩
  have F_is_integer := fg_is_integer (P := P) (w := w) (base := base)  D_is_integer m_is_integer m_bool m_int m_isinstance
  have F_is_name := fg_is_name (P := P) (w := w) (base := base)  D_is_name m_is_name m_LETTERS m_MOST_LETTERS m_all m_isinstance m_len m_str
  have F_is_link := fg_is_link (P := P) (w := w) (base := base)  D_is_link m_is_link F_is_name m_isinstance m_len m_tuple
  have F_may_have := fg_may_have (P := P) (w := w) (base := base) (cc_Schema := He.ga K "Schema") D_may_have m_may_have m_Schema T_Schema_ACTIONS
  have F_check_links := fg_check_links (P := P) (w := w) (base := base) (c_BadAction := He.ga K "BadAction") D_check_links m_check_links F_is_link F_may_have E_BadAction
  have F_targets_of := fg_targets_of (P := P) (w := w) (base := base)  D_targets_of m_targets_of 
  have F_have_one_target_twice := fg_have_one_target_twice (P := P) (w := w) (base := base)  D_have_one_target_twice m_have_one_target_twice F_targets_of m_len m_set
  have B_Column := bd_Column (P := P) (w := w) (K := K) (mg := mg) (base := base) (f := He.ma K (He.ga K "Column") "__init__") (fd := fd15) (c_BadAction := He.ga K "BadAction") (c_BadColumn := He.ga K "BadColumn") (c_BadName := He.ga K "BadName") (cc_Column := He.ga K "Column") m_MOST_LINKS m_bool F_check_links F_have_one_target_twice F_is_integer F_is_name E_BadColumn E_BadName m_isinstance m_len T_Column
  have C_Column_nullable_default := cn_a D_Column___init__ B_Column M_Column m_Column
  have F__law_of := fg__law_of (P := P) (w := w) (base := base)  D__law_of m__law_of F__law_take m_len
  have F_with_links := fg_with_links (P := P) (w := w) (base := base) (c_BadAction := He.ga K "BadAction") (c_BadColumn := He.ga K "BadColumn") (c_BadName := He.ga K "BadName") (cc_Column := He.ga K "Column") D_with_links m_with_links C_Column_nullable_default T_Column
  have B_Table := bd_Table (kwsT := []) (P := P) (w := w) (K := K) (mg := mg) (base := base) (f := He.ma K (He.ga K "Table") "__init__") (fd := fd18) (c_BadAction := He.ga K "BadAction") (c_BadName := He.ga K "BadName") (c_BadTable := He.ga K "BadTable") (cc_Column := He.ga K "Column") (cc_Table := He.ga K "Table") m_MOST_COLUMNS m_MOST_LINKS F_check_links F_have_one_target_twice F_is_name F_targets_of F_with_links E_BadName E_BadTable m_len m_set m_tuple T_Column T_Table trivial
  have C_Table_ids := cn_Ta D_Table___init__ B_Table M_Table m_Table
  have F_linked := fg_linked (P := P) (w := w) (base := base) (cc_Column := He.ga K "Column") (cc_Table := He.ga K "Table") D_linked m_linked T_Table T_Column
  have F_check_names := fg_check_names (P := P) (w := w) (base := base) (c_BadTable := He.ga K "BadTable") (cc_Column := He.ga K "Column") (cc_Table := He.ga K "Table") D_check_names m_check_names E_BadTable T_Table
  have F_check_targets := fg_check_targets (P := P) (w := w) (base := base) (c_NoTable := He.ga K "NoTable") (cc_Column := He.ga K "Column") (cc_Table := He.ga K "Table") D_check_targets m_check_targets F_linked F_targets_of E_NoTable T_Table
  have F_actions_of := fg_actions_of (P := P) (w := w) (base := base) (cc_Column := He.ga K "Column") (cc_Table := He.ga K "Table") D_actions_of m_actions_of F_linked T_Table
  have F_with_actions := fg_with_actions (P := P) (w := w) (base := base) (c_BadAction := He.ga K "BadAction") (c_BadName := He.ga K "BadName") (c_BadTable := He.ga K "BadTable") (cc_Column := He.ga K "Column") (cc_Table := He.ga K "Table") D_with_actions m_with_actions F_linked F_targets_of F_with_links m_tuple C_Table_ids T_Table T_Column
  have B_Schema := bd_Schema (P := P) (w := w) (K := K) (mg := mg) (base := base) (f := He.ma K (He.ga K "Schema") "__init__") (fd := fd24) (c_BadTable := He.ga K "BadTable") (c_Full := He.ga K "Full") (c_NoTable := He.ga K "NoTable") (cc_Column := He.ga K "Column") (cc_Schema := He.ga K "Schema") (cc_Table := He.ga K "Table") m_MOST_REFERENCES m_MOST_TABLES F_actions_of F_check_names F_check_targets F_with_actions E_Full m_len m_tuple T_Schema T_Table
  have C_Schema := cn_S D_Schema___init__ B_Schema M_Schema m_Schema
  have ME_tables := methB_ok (exAt x 31)
  have M_Schema_tables := mt_Schema_tables (P := P) (w := w) (base := base) (cc_Column := He.ga K "Column") (cc_Schema := He.ga K "Schema") (cc_Table := He.ga K "Table") D_Schema_tables T_Schema.ity.cl ME_tables m_list T_Schema
  have MF_Schema_tables := mtF_Schema_tables (P := P) (w := w) (base := base) (cc_Column := He.ga K "Column") (cc_Schema := He.ga K "Schema") (cc_Table := He.ga K "Table") D_Schema_tables T_Schema.ity.cl ME_tables m_list T_Schema
  have SB___len__ := spB_ok (exAt x 32)
  have S_Schema___len__ := sp_Schema___len__ (P := P) (w := w) (base := base) (cc_Column := He.ga K "Column") (cc_Schema := He.ga K "Schema") (cc_Table := He.ga K "Table") D_Schema___len__ SB___len__.1 SB___len__.2 m_len T_Schema
  have SB___contains__ := spB_ok (exAt x 33)
  have S_Schema___contains__ := sp_Schema___contains__ (P := P) (w := w) (base := base) (cc_Column := He.ga K "Column") (cc_Schema := He.ga K "Schema") (cc_Table := He.ga K "Table") D_Schema___contains__ SB___contains__.1 SB___contains__.2 m_isinstance m_str T_Schema
  have ME_columns := methB_ok (exAt x 34)
  have M_Schema_columns := mt_Schema_columns (P := P) (w := w) (base := base) (c_NoTable := He.ga K "NoTable") (cc_Column := He.ga K "Column") (cc_Schema := He.ga K "Schema") (cc_Table := He.ga K "Table") D_Schema_columns T_Schema.ity.cl ME_columns E_NoTable S_Schema___contains__ T_Schema T_Table T_Column
  have MF_Schema_columns := mtF_Schema_columns (P := P) (w := w) (base := base) (c_NoTable := He.ga K "NoTable") (cc_Column := He.ga K "Column") (cc_Schema := He.ga K "Schema") (cc_Table := He.ga K "Table") D_Schema_columns T_Schema.ity.cl ME_columns E_NoTable S_Schema___contains__ T_Schema T_Table T_Column
  have SB___repr__ := spB_ok (exAt x 35)
  have S_Schema___repr__ := sp_Schema___repr__ (P := P) (w := w) (base := base) (cc_Column := He.ga K "Column") (cc_Schema := He.ga K "Schema") (cc_Table := He.ga K "Table") D_Schema___repr__ SB___repr__.1 SB___repr__.2 m_len T_Schema
  have F__law_links := fg__law_links (P := P) (w := w) (base := base)  D__law_links m__law_links F__law_of F__law_take m_len m_list m_range
  have F__law_column := fg__law_column (P := P) (w := w) (base := base)  D__law_column m__law_column F__law_links F__law_of F__law_take
  have F__law_names := fg__law_names (P := P) (w := w) (base := base)  D__law_names m__law_names 
  have F__law_titles := fg__law_titles (P := P) (w := w) (base := base)  D__law_titles m__law_titles 
  have F__law_references := fg__law_references (P := P) (w := w) (base := base)  D__law_references m__law_references 
  have F__law_column_of := fg__law_column_of (P := P) (w := w) (base := base) (c_BadAction := He.ga K "BadAction") (c_BadColumn := He.ga K "BadColumn") (c_BadName := He.ga K "BadName") (cc_Column := He.ga K "Column") D__law_column_of m__law_column_of m_len C_Column_nullable_default
  have F__law_table_of := fg__law_table_of (P := P) (w := w) (base := base) (c_BadAction := He.ga K "BadAction") (c_BadName := He.ga K "BadName") (c_BadTable := He.ga K "BadTable") (cc_Column := He.ga K "Column") (cc_Table := He.ga K "Table") D__law_table_of m__law_table_of F__law_column_of m_len m_tuple C_Table_ids
  have F__law_schema_of := fg__law_schema_of (P := P) (w := w) (base := base) (c_BadTable := He.ga K "BadTable") (c_Full := He.ga K "Full") (c_NoTable := He.ga K "NoTable") (cc_Column := He.ga K "Column") (cc_Schema := He.ga K "Schema") (cc_Table := He.ga K "Table") D__law_schema_of m__law_schema_of m_len C_Schema
  have F__law_outcome := fg__law_outcome (P := P) (w := w) (base := base) (c_BadTable := He.ga K "BadTable") (c_Full := He.ga K "Full") (c_NoTable := He.ga K "NoTable") (cc_Column := He.ga K "Column") (cc_Schema := He.ga K "Schema") (cc_Table := He.ga K "Table") D__law_outcome m__law_outcome m_KeyError m_OverflowError F__law_schema_of F__law_table_of m_BadTable XX_BadTable.1 (noB_ok (exAt x 15) (by simp)) m_Full XX_Full.1 (noB_ok (exAt x 23) (by simp)) m_NoTable XX_NoTable.1 (noB_ok (exAt x 19) (by simp)) m_isinstance XX_NoTable.2 XX_Full.2 (of_decide_eq_true (exAt x 36)) (of_decide_eq_true (exAt x 37)) (of_decide_eq_true (exAt x 38)) (of_decide_eq_true (exAt x 39)) (of_decide_eq_true (exAt x 40)) (of_decide_eq_true (exAt x 41)) (of_decide_eq_true (exAt x 42)) (of_decide_eq_true (exAt x 43))
  have F__law_due := fg__law_due (P := P) (w := w) (base := base)  D__law_due m__law_due F__law_names F__law_references m_enumerate m_len
  have F__law_schema := fg__law_schema (P := P) (w := w) (base := base)  D__law_schema m__law_schema F__law_column F__law_links F__law_of F__law_take m_len m_min
  have F__law_bent := fg__law_bent (P := P) (w := w) (base := base)  D__law_bent m__law_bent F__law_of F__law_take m_len
  have F__law_right := fg__law_right (P := P) (w := w) (base := base) (c_BadTable := He.ga K "BadTable") (c_Full := He.ga K "Full") (c_NoTable := He.ga K "NoTable") (cc_Column := He.ga K "Column") (cc_Schema := He.ga K "Schema") (cc_Table := He.ga K "Table") D__law_right m__law_right m_Schema F__law_bent F__law_due F__law_names F__law_outcome F__law_references F__law_schema F__law_titles m_NoTable XX_NoTable.1 (noB_ok (exAt x 19) (by simp)) m_isinstance m_len M_Schema_columns M_Schema_tables MF_Schema_columns MF_Schema_tables m_repr S_Schema___contains__ S_Schema___len__ S_Schema___repr__ m_str T_Schema (of_decide_eq_true (exAt x 40))
  exact ok_law (c_BadTable := He.ga K "BadTable") (c_Full := He.ga K "Full") (c_NoTable := He.ga K "NoTable") (cc_Column := He.ga K "Column") (cc_Schema := He.ga K "Schema") (cc_Table := He.ga K "Table") D_law m_Schema T_Schema_ACTIONS F__law_bag F__law_right m_len m_max m_min m_range
theorem law_in {K : PySem.W.Frag} {H : Hp} {a : Addr} {ns : List Int} (hl : ns.length ≤ 63) (hS : SqL K H a (ns.map V.int)) : spC K 1 ct_law [.ref a] H (fun v _ => v = .bl true) fun _ _ _ => False :=
  ⟨H, fun _ => False, 0, [some (.scr ns)], Sub.refl H, by decide, ⟨.ref a, [], rfl, ⟨a, rfl, hS⟩, rfl⟩, rfl, trivial, fun _ z => z.elim, Ct.exI ns rfl hl (fun d hd v H' P' _ r => by
    have hd : d = .bl true := hd
    subst hd
    exact r) fun _ z => z.elim⟩
end K3
open PySem PySem.W PySem.Calls PyProof.Rows
theorem PySem.Challenge.cw_keyactions_k03_schemas_made_holds : PySem.Challenge.rw_keyactions_k03_schemas_made.Holds := by
  w_on; o_law
  refine HandSHeadRun.head_any (r := OpenLaw.row PySem.Challenge.rw_keyactions_k03_schemas_made) (q := view (OpenLaw.row PySem.Challenge.rw_keyactions_k03_schemas_made).prog [54]) (H := K3.hk) (ob := K3.ob) (M := 20000) (loose := K3.names) (d := HandSHeadRun.topDef (OpenLaw.row PySem.Challenge.rw_keyactions_k03_schemas_made).prog 54) (kwd := []) K3.ob_eq (by kernel_rfl) (fun s => by kernel_rfl) K3.run (by kernel_rfl) (by kernel_rfl) (by kernel_rfl) (by rfl) (by first | assumption | decide +kernel) (by decide +kernel) ⟨rfl, rfl, rfl, rfl, rfl, by decide +kernel⟩ ?hw ?hc
  case hw => w_witness2
  case hc =>
    refine Pd.walkG (l := PySem.Challenge.rw_keyactions_k03_schemas_made) (n := 63) (k := 15) (x := "_law_script") rfl (by decide) (by kernel_rfl) ⟨rfl, by decide, by decide⟩ ?F
    intro w mg f h Y G hmg0
    obtain ⟨K, KX, c, x⟩ := Y
    have hmg : mg ("law" : PySem.Str) = some (.ref f) := by
      have e : (HandSHeadRun.topDef (OpenLaw.row PySem.Challenge.rw_keyactions_k03_schemas_made).prog 54).name = ("law" : PySem.Str) := by kernel_rfl
      rw [← e]
      exact hmg0
    obtain ⟨fd, hb, hF⟩ := K3.facts (P := PySem.Challenge.rw_keyactions_k03_schemas_made.prog) (w := w) KX G hmg c x
    exact ⟨K, fd, Pd.spC K 1 K3.ct_law, KX, hb, fun H a ns hl hS => K3.law_in hl hS, hF⟩
end
