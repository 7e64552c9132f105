import PyProof.Rows.All
import Wide.All
import OpenK.AllK
import Wide.FinOn
import HandS.ForMost
import HandS.ForExc
import HandS.Defaults
import HandS.Star
import HandS.MakeKw
import HandS.MakeKwOnly
import HandS.TryMany
import HandS.ExcField
import HandS.ExcIs
import HandS.ExcInit
import HandS.IsInst
import HandS.FStr
import HandS.Strs
import HandS.Wide
import HandS.CallSlots
import HandS.Evl
import HandS.Steps
import KE.DataEq
import KE.SortData
import PyProof.ReprRoads
import PyProof.Rows.FactsExc_KeyError
import PyProof.ExcBaseAll.LookupError
import PyProof.ExcBaseAll.RuntimeError
import PyProof.ExcBaseAll.IndexError
import PyProof.ExcBaseAll.OverflowError
import PyProof.ExcBaseAll.ValueError
import HandS.ClsMeth
import HandS.Ends
import HandS.HeadEnd
import HandS.HeadHook1
import HandS.HeadHook2
import HandS.Head0
import HandS.Head1
import HandS.Head2
import HandS.OwnEq
import HandS.TupAny
import PySem.Challenge.RW_keyactions_k02_tables_made
section
set_option autoImplicit false
set_option Elab.async false
set_option linter.all false
set_option autoImplicit false
set_option maxRecDepth 100000
set_option maxHeartbeats 1000000
/-! Pd0: data without addresses, and how they stand in the heap. -/
namespace Pd
open PySem PySem.Spec PyProof.Rows L2

/-- data: what a value is, deep, without addresses -/
inductive D where
  | non | bl (b : Bool) | int (i : Int) | str (x : Str)
  | lst (xs : List D) | tup (xs : List D)
  | ins (C : Addr) (ns : List Str) (xs : List D)
  | dk (ks : List Key) (xs : List D)
  | dt (ks : List (List Key)) (xs : List D)
  | scr (ns : List Int)

mutual
/-- v stands for d in the heap P -/
def Rp (K : PySem.W.Frag) (P : Hp) : D → V → Prop
  | .non, v => v = .non
  | .bl b, v => v = .bl b
  | .int i, v => v = .int i
  | .str x, v => v = .str x
  | .lst ds, v => ∃ a xs, v = .ref a ∧ P a = some (.lst xs) ∧ RpL K P ds xs
  | .tup ds, v => ∃ a xs, v = .ref a ∧ SqT K P a xs ∧ RpL K P ds xs
  | .ins C ns ds, v => ∃ a dx xs, v = .ref a ∧ P a = some (.ins C dx (ns.zip xs)) ∧ xs.length = ns.length ∧ RpL K P ds xs
  | .dk ks ds, v => ∃ a xs, v = .ref a ∧ P a = some (.dK (ks.zip xs)) ∧ xs.length = ks.length ∧ RpL K P ds xs
  | .dt ks ds, v => ∃ a xs, v = .ref a ∧ P a = some (.dT (ks.zip xs)) ∧ xs.length = ks.length ∧ RpL K P ds xs
  | .scr ns, v => ∃ a, v = .ref a ∧ SqL K P a (ns.map V.int)
def RpL (K : PySem.W.Frag) (P : Hp) : List D → List V → Prop
  | [], vs => vs = []
  | d :: ds, vs => ∃ v r, vs = v :: r ∧ Rp K P d v ∧ RpL K P ds r
end

/-- P is a part of H -/
def Sub (P H : Hp) : Prop := ∀ a o, P a = some o → H a = some o
theorem Sub.refl (H : Hp) : Sub H H := fun _ _ h => h
theorem Sub.trans {A B C : Hp} (x : Sub A B) (y : Sub B C) : Sub A C := fun a o h => y a o (x a o h)

theorem sub_rd {P H : Hp} {a : Addr} {u : HO} (e : Sub P H) (h : Rd P a u) : Rd H a u := by
  rcases h with h | ⟨o, h⟩
  · exact .inl (e a _ h)
  · exact .inr ⟨o, e a _ h⟩
theorem sub_l {K : PySem.W.Frag} {P H : Hp} {a : Addr} {xs : List V} (e : Sub P H) (h : SqL K P a xs) : SqL K H a xs := by
  rcases h with h | h
  · exact .inl (sub_rd e h)
  · exact .inr h
theorem sub_t {K : PySem.W.Frag} {P H : Hp} {a : Addr} {xs : List V} (e : Sub P H) (h : SqT K P a xs) : SqT K H a xs := by
  rcases h with h | h
  · exact .inl (sub_rd e h)
  · exact .inr h
mutual
theorem Rp.mono {K : PySem.W.Frag} {P H : Hp} (e : Sub P H) : ∀ (d : D) (v : V), Rp K P d v → Rp K H d v
  | .non, _, h => h
  | .bl _, _, h => h
  | .int _, _, h => h
  | .str _, _, h => h
  | .lst ds, _, h => by
    obtain ⟨a, xs, ev, hs, ha⟩ := h
    exact ⟨a, xs, ev, e _ _ hs, RpL.mono e ds xs ha⟩
  | .tup ds, _, h => by
    obtain ⟨a, xs, ev, hs, ha⟩ := h
    exact ⟨a, xs, ev, sub_t e hs, RpL.mono e ds xs ha⟩
  | .ins C ns ds, _, h => by
    obtain ⟨a, dx, xs, ev, hs, hl, ha⟩ := h
    exact ⟨a, dx, xs, ev, e _ _ hs, hl, RpL.mono e ds xs ha⟩
  | .dk ks ds, _, h => by
    obtain ⟨a, xs, ev, hs, hl, ha⟩ := h
    exact ⟨a, xs, ev, e _ _ hs, hl, RpL.mono e ds xs ha⟩
  | .scr ns, _, h => by
    obtain ⟨a, rfl, h⟩ := h
    exact ⟨a, rfl, sub_l e h⟩
  | .dt ks ds, _, h => by
    obtain ⟨a, xs, ev, hs, hl, ha⟩ := h
    exact ⟨a, xs, ev, e _ _ hs, hl, RpL.mono e ds xs ha⟩
theorem RpL.mono {K : PySem.W.Frag} {P H : Hp} (e : Sub P H) : ∀ (ds : List D) (vs : List V), RpL K P ds vs → RpL K H ds vs
  | [], _, h => h
  | d :: ds, _, h => by
    obtain ⟨v, r, ev, h1, h2⟩ := h
    exact ⟨v, r, ev, Rp.mono e d v h1, RpL.mono e ds r h2⟩
end
theorem RpL.length {K : PySem.W.Frag} {P : Hp} : ∀ {ds : List D} {vs : List V}, RpL K P ds vs → vs.length = ds.length
  | [], _, h => by
    cases h
    rfl
  | _ :: ds, _, h => by
    obtain ⟨v, r, rfl, _, h2⟩ := h
    simp [RpL.length h2]
theorem RpL.get {K : PySem.W.Frag} {P : Hp} : ∀ {ds : List D} {vs : List V} {i : Nat} {v : V}, RpL K P ds vs → vs[i]? = some v → ∃ d, ds[i]? = some d ∧ Rp K P d v
  | [], _, _, _, h, e => by
    cases h
    simp at e
  | d :: ds, _, 0, v, h, e => by
    obtain ⟨w, r, rfl, h1, _⟩ := h
    simp at e
    subst e
    exact ⟨d, rfl, h1⟩
  | d :: ds, _, i + 1, v, h, e => by
    obtain ⟨w, r, rfl, _, h2⟩ := h
    exact RpL.get (i := i) h2 (by simpa using e)
theorem RpL.getD {K : PySem.W.Frag} {P : Hp} {ds : List D} {vs : List V} {i : Nat} {d : D} (h : RpL K P ds vs) (e : ds[i]? = some d) : ∃ v, vs[i]? = some v ∧ Rp K P d v := by
  have hl := h.length
  have hi : i < ds.length := (List.getElem?_eq_some_iff.mp e).1
  obtain ⟨d', e', r⟩ := h.get (i := i) (v := vs[i]'(by omega)) (by simp [hl, hi])
  rw [e] at e'
  cases e'
  exact ⟨_, by simp [hl, hi], r⟩
theorem RpL.append {K : PySem.W.Frag} {P : Hp} : ∀ {ds es : List D} {vs ws : List V}, RpL K P ds vs → RpL K P es ws → RpL K P (ds ++ es) (vs ++ ws)
  | [], _, _, _, h, g => by
    cases h
    exact g
  | d :: ds, _, _, _, h, g => by
    obtain ⟨v, r, rfl, h1, h2⟩ := h
    exact ⟨v, _, rfl, h1, RpL.append h2 g⟩
theorem RpL.take {K : PySem.W.Frag} {P : Hp} : ∀ {ds : List D} {vs : List V} (n : Nat), RpL K P ds vs → RpL K P (ds.take n) (vs.take n)
  | [], _, n, h => by
    cases h
    cases n <;> rfl
  | d :: ds, _, 0, _ => by
    show RpL K P [] _
    simp [RpL]
  | d :: ds, _, n + 1, h => by
    obtain ⟨v, r, rfl, h1, h2⟩ := h
    exact ⟨v, _, rfl, h1, RpL.take n h2⟩
theorem RpL.drop {K : PySem.W.Frag} {P : Hp} : ∀ {ds : List D} {vs : List V} (n : Nat), RpL K P ds vs → RpL K P (ds.drop n) (vs.drop n)
  | [], _, n, h => by
    cases h
    cases n <;> rfl
  | d :: ds, _, 0, h => h
  | d :: ds, _, n + 1, h => by
    obtain ⟨v, r, rfl, h1, h2⟩ := h
    exact RpL.drop n h2

/-! ### data that are the library's PyData -/
mutual
@[simp] def D.py : D → Option PyData
  | .non => some .none
  | .bl b => some (.bool b)
  | .int i => some (.int i)
  | .str x => some (.str x)
  | .lst ds => (D.pyL ds).map .list
  | .tup ds => (D.pyL ds).map .tuple
  | .ins _ _ _ => none
  | .dk _ _ => none
  | .dt _ _ => none
  | .scr _ => none
@[simp] def D.pyL : List D → Option (List PyData)
  | [] => some []
  | d :: ds => match d.py, D.pyL ds with
    | some p, some ps => some (p :: ps)
    | _, _ => none
end
mutual
theorem Rp.dp {K : PySem.W.Frag} {P : Hp} : ∀ (d : D) (p : PyData) (v : V), d.py = some p → Rp K P d v → Dp K P v p
  | .non, p, v, e, h => by
    cases e
    cases h
    exact .non
  | .bl b, p, v, e, h => by
    cases e
    cases h
    exact .bl b
  | .int i, p, v, e, h => by
    cases e
    cases h
    exact .int i
  | .str x, p, v, e, h => by
    cases e
    cases h
    exact .str x
  | .lst ds, p, v, e, h => by
    obtain ⟨a, xs, rfl, hs, ha⟩ := h
    simp only [D.py, Option.map_eq_some_iff] at e
    obtain ⟨ps, e1, rfl⟩ := e
    exact .lst (SqL.of hs) (RpL.dp ds ps xs e1 ha)
  | .tup ds, p, v, e, h => by
    obtain ⟨a, xs, rfl, hs, ha⟩ := h
    simp only [D.py, Option.map_eq_some_iff] at e
    obtain ⟨ps, e1, rfl⟩ := e
    exact .tup hs (RpL.dp ds ps xs e1 ha)
  | .ins _ _ _, p, v, e, _ => by simp [D.py] at e
  | .dk _ _, p, v, e, _ => by simp [D.py] at e
  | .dt _ _, p, v, e, _ => by simp [D.py] at e
  | .scr _, p, v, e, _ => by simp [D.py] at e
theorem RpL.dp {K : PySem.W.Frag} {P : Hp} : ∀ (ds : List D) (ps : List PyData) (vs : List V), D.pyL ds = some ps → RpL K P ds vs → DpAll K P vs ps
  | [], ps, vs, e, h => by
    cases e
    cases h
    exact .nil
  | d :: ds, ps, vs, e, h => by
    obtain ⟨v, r, rfl, h1, h2⟩ := h
    simp only [D.pyL] at e
    cases e1 : d.py with
    | none =>
      rw [e1] at e
      simp at e
    | some p =>
      cases e2 : D.pyL ds with
      | none =>
        rw [e1, e2] at e
        simp at e
      | some qs =>
        rw [e1, e2] at e
        cases e
        exact .cons (Rp.dp d p v e1 h1) (RpL.dp ds qs r e2 h2)
end
mutual
theorem D.py_plain : ∀ (d : D) (p : PyData), d.py = some p → p.plain = true
  | .non, p, e => by
    cases e
    rfl
  | .bl b, p, e => by
    cases e
    rfl
  | .int i, p, e => by
    cases e
    rfl
  | .str x, p, e => by
    cases e
    rfl
  | .lst ds, p, e => by
    simp only [D.py, Option.map_eq_some_iff] at e
    obtain ⟨ps, e1, rfl⟩ := e
    exact D.pyL_plain ds ps e1
  | .tup ds, p, e => by
    simp only [D.py, Option.map_eq_some_iff] at e
    obtain ⟨ps, e1, rfl⟩ := e
    exact D.pyL_plain ds ps e1
  | .ins _ _ _, p, e => by simp [D.py] at e
  | .dk _ _, p, e => by simp [D.py] at e
  | .dt _ _, p, e => by simp [D.py] at e
  | .scr _, p, e => by simp [D.py] at e
theorem D.pyL_plain : ∀ (ds : List D) (ps : List PyData), D.pyL ds = some ps → PyData.plainAll ps = true
  | [], ps, e => by
    cases e
    rfl
  | d :: ds, ps, e => by
    simp only [D.pyL] at e
    cases e1 : d.py with
    | none =>
      rw [e1] at e
      simp at e
    | some p =>
      cases e2 : D.pyL ds with
      | none =>
        rw [e1, e2] at e
        simp at e
      | some qs =>
        rw [e1, e2] at e
        cases e
        simp only [PyData.plainAll, Bool.and_eq_true]
        exact ⟨D.py_plain d p e1, D.pyL_plain ds qs e2⟩
end
end Pd
end
section
set_option autoImplicit false
set_option Elab.async false
set_option linter.all false
set_option autoImplicit false
set_option maxRecDepth 100000
set_option maxHeartbeats 1000000
/-! Pd1: slots, frames, the judgements over data. -/
namespace Pd
open PySem PySem.Spec PyProof.Rows L2

/-- an exception: its class, its fields -/
structure Xd where
  C : Addr
  ns : List Str
  ds : List D
/-- what a slot holds: nothing, data, a list of the frame's own (nobody else knows it), the draws (n more may be made), the instance that is being made -/
inductive Sl where
  | un | dat (d : D) | own (xs : List D) | bag (n : Nat) | slf (C : Addr) (ns : List Str) (xs : List D) | exc (x : Xd)
def Sl.addr : Sl → Bool
  | .own _ => true
  | .bag _ => true
  | .slf _ _ _ => true
  | _ => false
abbrev Sv := List Sl
abbrev DX := Xd → Sv → Prop
abbrev De := Sv → (D → Sv → Prop) → DX → Prop
/-- what a frame is entered with -/
structure Fr where
  H0 : Hp
  P0 : Hp
  B0 : Addr → Prop
  S0 : Addr → Prop
  L : Int
  Kp : List (Addr × List V)
  Xc : Option (Addr × Value × Option Addr)

/-- what is beside the frame: the error that is being handled -/
abbrev Ez := Option (Addr × Value × Option Addr)
abbrev Fr.at (F : Fr) (z : Ez) : Fr := { F with Xc := z }
/-- what is wished for, where an error leaves; what is being handled -/
structure Wz where
  w : WX
  z : Ez
instance : CoeFun Wz (fun _ => WX) := ⟨Wz.w⟩

def DrawsAt (H : Hp) (p : Addr) (L : Int) (n : Nat) : Prop := ∃ x y z : Int, H p = some (.lst [.int x, .int y, .int z]) ∧ 0 ≤ x ∧ 0 ≤ y ∧ y < 2 ^ 61 ∧ 0 ≤ z ∧ z + n ≤ L
theorem DrawsAt.less {H : Hp} {p : Addr} {L : Int} {n m : Nat} (h : DrawsAt H p L n) (e : m ≤ n) : DrawsAt H p L m := by
  obtain ⟨x, y, z, h1, h2, h3, h4, h5, h6⟩ := h
  exact ⟨x, y, z, h1, h2, h3, h4, h5, by omega⟩

/-- how many draws may be made of p: as many as the frame was told, or (a bag of its own) as there may be -/
def Fr.lim (F : Fr) (p : Addr) : Int := if (F.H0 p).isNone then 2 ^ 39 else F.L
theorem Fr.lim_some {F : Fr} {p : Addr} {o : HO} (h : F.H0 p = some o) : F.lim p = F.L := by
  unfold Fr.lim
  rw [h]
  rfl
theorem Fr.lim_none {F : Fr} {p : Addr} (h : F.H0 p = none) : F.lim p = 2 ^ 39 := by
  unfold Fr.lim
  rw [h]
  rfl
theorem Fr.lim_le {F : Fr} {p : Addr} (h : F.L ≤ 2 ^ 39) : F.lim p ≤ 2 ^ 39 := by
  unfold Fr.lim
  split
  · exact Int.le_refl _
  · exact h
/-- how an exception stands: its class, its dict -/
def XdRel (K : PySem.W.Frag) (P H : Hp) (x : Xd) (cls : Value) (dd : Option Addr) : Prop :=
  cls = .ref x.C ∧ ((x.ns = [] ∧ dd = none) ∨ ∃ d fs, dd = some d ∧ P d = some (.xd fs) ∧ ∀ f z, (x.ns.zip x.ds).lookup f = some z → ∃ v, fs.lookup f = some v ∧ Rp K P z v)
theorem XdRel.mono {K : PySem.W.Frag} {P P' H H' : Hp} {x : Xd} {cls : Value} {dd : Option Addr} (e : Sub P P') (h : XdRel K P H x cls dd) : XdRel K P' H' x cls dd := by
  obtain ⟨h1, h2⟩ := h
  refine ⟨h1, ?_⟩
  rcases h2 with h2 | ⟨d, fs, e1, e2, h2⟩
  · exact .inl h2
  · refine .inr ⟨d, fs, e1, e _ _ e2, fun f z q => ?_⟩
    obtain ⟨v, q1, q2⟩ := h2 f z q
    exact ⟨v, q1, Rp.mono e z v q2⟩

/-- slot i's content; o is the value of the slot -/
def SlRel (K : PySem.W.Frag) (F : Fr) (P H : Hp) : Sl → Option V → Prop
  | .un, _ => True
  | .dat d, o => ∃ v, o = some v ∧ Rp K P d v
  | .own ds, o => ∃ p vs, o = some (.ref p) ∧ H p = some (.lst vs) ∧ P p = none ∧ F.H0 p = none ∧ RpL K P ds vs
  | .bag n, o => ∃ p, o = some (.ref p) ∧ P p = none ∧ (F.B0 p ∨ F.H0 p = none) ∧ DrawsAt H p (F.lim p) n
  | .exc x, o => ∃ a cls dd, F.Xc = some (a, cls, dd) ∧ o = some (.ref a) ∧ XdRel K P H x cls dd
  | .slf C ns ds, o => ∃ p dx vs, o = some (.ref p) ∧ H p = some (.ins C dx (ns.zip vs)) ∧ vs.length = ns.length ∧ P p = none ∧ F.S0 p ∧ RpL K P ds vs

structure Rel (K : PySem.W.Frag) (F : Fr) (P H : Hp) (σ : L2.St) (sv : Sv) : Prop where
  len : sv.length = σ.length
  lim : F.L ≤ 2 ^ 39
  sub : Sub P H
  p0 : Sub F.P0 P
  new : ∀ a o, P a = some o → F.P0 a = some o ∨ F.H0 a = none
  ext : ∀ a o, F.H0 a = some o → ¬ F.B0 a → ¬ F.S0 a → H a = some o
  selfs : ∀ a, F.S0 a → F.P0 a = none ∧ (∃ o, F.H0 a = some o) ∧ ∃ C dx fs, H a = some (.ins C dx fs)
  bags : ∀ a, F.B0 a → F.P0 a = none ∧ (∃ o, F.H0 a = some o) ∧ DrawsAt H a F.L 0
  sl : ∀ (i : Nat) (s : Sl) (o : Option V), sv[i]? = some s → σ[i]? = some o → SlRel K F P H s o
  apart : ∀ (i j : Nat) (s t : Sl) (o u : Option V) (p : Addr), i ≠ j → sv[i]? = some s → sv[j]? = some t → s.addr = true → t.addr = true → σ[i]? = some o → σ[j]? = some u → o = some (.ref p) → u ≠ some (.ref p)
  kept : ∀ p vs, (p, vs) ∈ F.Kp → H p = some (.lst vs) ∧ P p = none ∧ F.H0 p = none ∧ ∀ (i : Nat) (s : Sl), sv[i]? = some s → s.addr = true → σ[i]? ≠ some (some (.ref p))

def SndE (K : PySem.W.Frag) (W : Wz) (t : TE) (f : De) : Prop := ∀ (F : Fr) (P H : Hp) (σ : L2.St) (sv : Sv) (Q : D → Sv → Prop) (E : DX) (R : VK), Rel K (F.at W.z) P H σ sv →
  (∀ v H' P' d sv', Rel K (F.at W.z) P' H' σ sv' → Sub P P' → Rp K P' d v → Q d sv' → R v H') →
  (∀ cls dd H' P' x sv', Rel K (F.at W.z) P' H' σ sv' → XdRel K P' H' x cls dd → E x sv' → W cls dd σ H') → f sv Q E → t σ H R
def PD (X : Cx) (W : Wz) (e : Expr) (f : De) : Prop := ∃ t, PE X e t ∧ SndE X.K W t f

abbrev Dt := Sv → (Bool → Sv → Prop) → DX → Prop
def SndT (K : PySem.W.Frag) (W : Wz) (t : TT) (f : Dt) : Prop := ∀ (F : Fr) (P H : Hp) (σ : L2.St) (sv : Sv) (Q : Bool → Sv → Prop) (E : DX) (R : Bool → Hp → Prop), Rel K (F.at W.z) P H σ sv →
  (∀ b H' P' sv', Rel K (F.at W.z) P' H' σ sv' → Sub P P' → Q b sv' → R b H') →
  (∀ cls dd H' P' x sv', Rel K (F.at W.z) P' H' σ sv' → XdRel K P' H' x cls dd → E x sv' → W cls dd σ H') → f sv Q E → t σ H R
def PDT (X : Cx) (W : Wz) (e : Expr) (f : Dt) : Prop := ∃ t, PT X e t ∧ SndT X.K W t f

/-- an argument: data, or the draws of slot i -/
inductive Ar where
  | dat (d : D) | bag (i : Nat)
def ArRel (K : PySem.W.Frag) (P : Hp) (σ : L2.St) : Ar → V → Prop
  | .dat d, v => Rp K P d v
  | .bag i, v => σ[i]? = some (some v)
def ArsRel (K : PySem.W.Frag) (P : Hp) (σ : L2.St) : List Ar → List V → Prop
  | [], vs => vs = []
  | a :: as, vs => ∃ v r, vs = v :: r ∧ ArRel K P σ a v ∧ ArsRel K P σ as r
theorem ArRel.mono {K : PySem.W.Frag} {P P' : Hp} {σ : L2.St} (e : Sub P P') : ∀ {a : Ar} {v : V}, ArRel K P σ a v → ArRel K P' σ a v
  | .dat d, v, h => Rp.mono e d v h
  | .bag _, _, h => h
theorem ArsRel.mono {K : PySem.W.Frag} {P P' : Hp} {σ : L2.St} (e : Sub P P') : ∀ {as : List Ar} {vs : List V}, ArsRel K P σ as vs → ArsRel K P' σ as vs
  | [], _, h => h
  | a :: as, _, h => by
    obtain ⟨v, r, rfl, h1, h2⟩ := h
    exact ⟨v, r, rfl, h1.mono e, h2.mono e⟩
abbrev Da := Sv → (List Ar → Sv → Prop) → DX → Prop
def SndA (K : PySem.W.Frag) (W : Wz) (t : TA) (f : Da) : Prop := ∀ (F : Fr) (P H : Hp) (σ : L2.St) (sv : Sv) (Q : List Ar → Sv → Prop) (E : DX) (R : List V → Hp → Prop), Rel K (F.at W.z) P H σ sv →
  (∀ vs H' P' as sv', Rel K (F.at W.z) P' H' σ sv' → Sub P P' → ArsRel K P' σ as vs → Q as sv' → R vs H') →
  (∀ cls dd H' P' x sv', Rel K (F.at W.z) P' H' σ sv' → XdRel K P' H' x cls dd → E x sv' → W cls dd σ H') → f sv Q E → t σ H R
def PDA (X : Cx) (W : Wz) (es : List Expr) (f : Da) : Prop := ∃ t, PA X es t ∧ SndA X.K W t f

/-- an expression that gives a new list -/
abbrev Dl := Sv → (List D → Sv → Prop) → DX → Prop
/-- p is a list that nobody knows -/
def NewL (K : PySem.W.Frag) (F : Fr) (P H : Hp) (σ : L2.St) (sv : Sv) (p : Addr) (ds : List D) : Prop :=
  ∃ vs, H p = some (.lst vs) ∧ P p = none ∧ F.H0 p = none ∧ RpL K P ds vs ∧ (∀ (i : Nat) (s : Sl), sv[i]? = some s → s.addr = true → σ[i]? ≠ some (some (.ref p))) ∧ ∀ q ws, (q, ws) ∈ F.Kp → q ≠ p
def SndL (K : PySem.W.Frag) (W : Wz) (t : TE) (f : Dl) : Prop := ∀ (F : Fr) (P H : Hp) (σ : L2.St) (sv : Sv) (Q : List D → Sv → Prop) (E : DX) (R : VK), Rel K (F.at W.z) P H σ sv →
  (∀ p H' P' ds sv', Rel K (F.at W.z) P' H' σ sv' → Sub P P' → NewL K (F.at W.z) P' H' σ sv' p ds → Q ds sv' → R (.ref p) H') →
  (∀ cls dd H' P' x sv', Rel K (F.at W.z) P' H' σ sv' → XdRel K P' H' x cls dd → E x sv' → W cls dd σ H') → f sv Q E → t σ H R
def PDL (X : Cx) (W : Wz) (e : Expr) (f : Dl) : Prop := ∃ t, PE X e t ∧ SndL X.K W t f

/-! ### what is wanted behind a statement -/
structure Ed where
  nx : Sv → Prop
  rt : D → Prop
  bk : Sv → Prop := fun _ => False
  ct : Sv → Prop := fun _ => False
  ex : DX := fun _ _ => False
abbrev Ds := Sv → Ed → Prop
structure Link (K : PySem.W.Frag) (W : Wz) (F : Fr) (P : Hp) (D : Ends) (Dd : Ed) : Prop where
  nx : ∀ σ' H' P' sv', Rel K (F.at W.z) P' H' σ' sv' → Sub P P' → Dd.nx sv' → D.nx σ' H'
  rt : ∀ σ' H' P' sv' v d, Rel K (F.at W.z) P' H' σ' sv' → Rp K P' d v → Dd.rt d → D.rt v H'
  bk : ∀ σ' H' P' sv', Rel K (F.at W.z) P' H' σ' sv' → Sub P P' → Dd.bk sv' → D.bk σ' H'
  ct : ∀ σ' H' P' sv', Rel K (F.at W.z) P' H' σ' sv' → Sub P P' → Dd.ct sv' → D.ct σ' H'
  ex : ∀ cls dd σ' H' P' x sv', Rel K (F.at W.z) P' H' σ' sv' → XdRel K P' H' x cls dd → Dd.ex x sv' → W cls dd σ' H'
theorem Link.mono {K : PySem.W.Frag} {W : Wz} {F : Fr} {P P1 : Hp} {D : Ends} {Dd : Ed} (l : Link K W F P D Dd) (s : Sub P P1) : Link K W F P1 D Dd :=
  ⟨fun σ' H' P' sv' r q => l.nx σ' H' P' sv' r (s.trans q), l.rt, fun σ' H' P' sv' r q => l.bk σ' H' P' sv' r (s.trans q), fun σ' H' P' sv' r q => l.ct σ' H' P' sv' r (s.trans q), l.ex⟩
def SndS (K : PySem.W.Frag) (W : Wz) (t : TS) (f : Ds) : Prop := ∀ (F : Fr) (P H : Hp) (σ : L2.St) (sv : Sv) (D : Ends) (Dd : Ed), Rel K (F.at W.z) P H σ sv → Link K W F P D Dd → f sv Dd → t D σ H
def PDS (X : Cx) (W : Wz) (st : Stmt) (f : Ds) : Prop := ∃ t, PS X st t ∧ SndS X.K W t f
def PDSs (X : Cx) (W : Wz) (st : List Stmt) (f : Ds) : Prop := ∃ t, PSs X st t ∧ SndS X.K W t f

/-! ### how the relation moves -/
section
variable {K : PySem.W.Frag} {F : Fr} {P H H' P' : Hp} {σ : L2.St} {sv : Sv}
theorem SlRel.mono {s : Sl} {o : Option V} (eP : Sub P P') (nP : ∀ a o, P' a = some o → P a = some o ∨ H a = none) (eH : Sub H H') (h : SlRel K F P H s o) : SlRel K F P' H' s o := by
  have np : ∀ p o, P p = none → H p = some o → P' p = none := fun p o n e => by
    cases q : P' p with
    | none => rfl
    | some u =>
      rcases nP p u q with z | z
      · rw [n] at z
        cases z
      · rw [e] at z
        cases z
  cases s with
  | un => trivial
  | dat d =>
    obtain ⟨v, e, r⟩ := h
    exact ⟨v, e, Rp.mono eP d v r⟩
  | own ds =>
    obtain ⟨p, vs, e, h1, h2, h3, r⟩ := h
    exact ⟨p, vs, e, eH _ _ h1, np p _ h2 h1, h3, RpL.mono eP ds vs r⟩
  | bag n =>
    obtain ⟨p, e, h1, h2, x, y, z, h3, h4⟩ := h
    exact ⟨p, e, np p _ h1 h3, h2, x, y, z, eH _ _ h3, h4⟩
  | slf C ns ds =>
    obtain ⟨p, dx, vs, e, h1, h2, h3, h4, r⟩ := h
    exact ⟨p, dx, vs, e, eH _ _ h1, h2, np p _ h3 h1, h4, RpL.mono eP ds vs r⟩
  | exc x =>
    obtain ⟨a, cls, dd, e1, e2, r⟩ := h
    exact ⟨a, cls, dd, e1, e2, r.mono eP⟩
/-- the heap grows, P grows into what is new -/
theorem Rel.grow (r : Rel K F P H σ sv) (eP : Sub P P') (nP : ∀ a o, P' a = some o → P a = some o ∨ H a = none) (eH : Sub H H') (s : Sub P' H') : Rel K F P' H' σ sv where
  len := r.len
  lim := r.lim
  sub := s
  p0 := r.p0.trans eP
  new := fun a o e => by
    rcases nP a o e with z | z
    · exact r.new a o z
    · refine .inr ?_
      cases q : F.H0 a with
      | none => rfl
      | some u =>
        by_cases hb : F.B0 a
        · obtain ⟨_, _, x, y, w, e1, _⟩ := r.bags a hb
          rw [e1] at z
          cases z
        · by_cases hs : F.S0 a
          · obtain ⟨_, _, C, dx, fs, e1⟩ := r.selfs a hs
            rw [e1] at z
            cases z
          · rw [r.ext a u q hb hs] at z
            cases z
  ext := fun a o e nb ns => eH a o (r.ext a o e nb ns)
  selfs := fun a hs => by
    obtain ⟨h1, h2, C, dx, fs, h3⟩ := r.selfs a hs
    exact ⟨h1, h2, C, dx, fs, eH _ _ h3⟩
  bags := fun a hb => by
    obtain ⟨h1, h2, x, y, z, h3, h4⟩ := r.bags a hb
    exact ⟨h1, h2, x, y, z, eH _ _ h3, h4⟩
  sl := fun i s o h1 h2 => (r.sl i s o h1 h2).mono eP nP eH
  apart := r.apart
  kept := fun p vs hp => by
    obtain ⟨h1, h2, h3, h4⟩ := r.kept p vs hp
    refine ⟨eH _ _ h1, ?_, h3, h4⟩
    cases q : P' p with
    | none => rfl
    | some u =>
      rcases nP p u q with z | z
      · rw [h2] at z
        cases z
      · rw [h1] at z
        cases z
theorem sub_upd {p : Addr} {o : HO} (h : H p = none) : Sub H (upd H p o) := fun a u e => by
  rw [upd_ne (ne_of_none e h)]
  exact e
theorem Rel.free (r : Rel K F P H σ sv) {p : Addr} (h : H p = none) : P p = none := by
  cases q : P p with
  | none => rfl
  | some u =>
    rw [r.sub p u q] at h
    cases h
theorem Rel.free0 (r : Rel K F P H σ sv) {p : Addr} (h : H p = none) : F.H0 p = none := by
  cases q : F.H0 p with
  | none => rfl
  | some u =>
    by_cases hb : F.B0 p
    · obtain ⟨_, _, x, y, w, e1, _⟩ := r.bags p hb
      rw [e1] at h
      cases h
    · by_cases hs : F.S0 p
      · obtain ⟨_, _, C, dx, fs, e1⟩ := r.selfs p hs
        rw [e1] at h
        cases h
      · rw [r.ext p u q hb hs] at h
        cases h
/-- a new object is laid and is data from now on -/
theorem Rel.lay (r : Rel K F P H σ sv) {p : Addr} {o : HO} (h : H p = none) : Rel K F (upd P p o) (upd H p o) σ sv := by
  refine r.grow (sub_upd (r.free h)) (fun a u e => ?_) (sub_upd h) fun a u e => ?_
  · by_cases ha : a = p
    · subst ha
      exact .inr h
    · rw [upd_ne ha] at e
      exact .inl e
  · by_cases ha : a = p
    · subst ha
      rw [upd_same] at e ⊢
      exact e
    · rw [upd_ne ha] at e ⊢
      exact r.sub a u e
/-- a new object is laid, not known as data yet -/
theorem Rel.layH (r : Rel K F P H σ sv) {p : Addr} {o : HO} (h : H p = none) : Rel K F P (upd H p o) σ sv :=
  r.grow (Sub.refl P) (fun _ _ e => .inl e) (sub_upd h) (r.sub.trans (sub_upd h))
/-- an address of the slots is no free one -/
theorem Rel.slotNe (r : Rel K F P H σ sv) {p : Addr} (h : H p = none) (i : Nat) (s : Sl) (hs : sv[i]? = some s) (ha : s.addr = true) : σ[i]? ≠ some (some (.ref p)) := fun e => by
  have q := r.sl i s _ hs e
  cases s with
  | un => cases ha
  | dat d => cases ha
  | own ds =>
    obtain ⟨p', vs, e1, h1, _⟩ := q
    cases e1
    rw [h1] at h
    cases h
  | bag n =>
    obtain ⟨p', e1, _, _, x, y, z, h1, _⟩ := q
    cases e1
    rw [h1] at h
    cases h
  | slf C ns ds =>
    obtain ⟨p', dx, vs, e1, h1, _⟩ := q
    cases e1
    rw [h1] at h
    cases h
  | exc x => cases ha
theorem Rel.newL (r : Rel K F P H σ sv) {p : Addr} {ds : List D} {vs : List V} (h : H p = none) (rv : RpL K P ds vs) : NewL K F P (upd H p (.lst vs)) σ sv p ds :=
  ⟨vs, upd_same, r.free h, r.free0 h, rv, r.slotNe h, fun q ws hq z => by
    obtain ⟨h1, _⟩ := r.kept q ws hq
    rw [z, h] at h1
    cases h1⟩
/-- a new list becomes data -/
theorem Rel.publish (r : Rel K F P H σ sv) {p : Addr} {ds : List D} (h : NewL K F P H σ sv p ds) : ∃ P', Rel K F P' H σ sv ∧ Sub P P' ∧ Rp K P' (.lst ds) (.ref p) := by
  obtain ⟨vs, h1, h2, h3, h4, h5, h6⟩ := h
  refine ⟨upd P p (.lst vs), ?_, sub_upd h2, ⟨p, vs, rfl, upd_same, RpL.mono (sub_upd h2) ds vs h4⟩⟩
  refine ⟨r.len, r.lim, fun a o e => ?_, r.p0.trans (sub_upd h2), fun a o e => ?_, r.ext, r.selfs, r.bags, fun i s o e1 e2 => ?_, r.apart, fun q ws hq => by
    obtain ⟨z1, z2, z3⟩ := r.kept q ws hq
    exact ⟨z1, by rw [upd_ne (h6 q ws hq)]; exact z2, z3⟩⟩
  · by_cases ha : a = p
    · subst ha
      rw [upd_same] at e
      cases e
      exact h1
    · rw [upd_ne ha] at e
      exact r.sub a o e
  · by_cases ha : a = p
    · subst ha
      exact .inr h3
    · rw [upd_ne ha] at e
      exact r.new a o e
  · have q := r.sl i s o e1 e2
    cases s with
    | un => trivial
    | dat d =>
      obtain ⟨v, e, z⟩ := q
      exact ⟨v, e, Rp.mono (sub_upd h2) d v z⟩
    | own es =>
      obtain ⟨q', ws, e, z1, z2, z3, z4⟩ := q
      have ne : q' ≠ p := fun z => by
        subst z e
        exact h5 i (.own es) e1 rfl e2
      exact ⟨q', ws, e, z1, by rw [upd_ne ne]; exact z2, z3, RpL.mono (sub_upd h2) es ws z4⟩
    | bag n =>
      obtain ⟨q', e, z1, z2, z3⟩ := q
      have ne : q' ≠ p := fun z => by
        subst z e
        exact h5 i (.bag n) e1 rfl e2
      exact ⟨q', e, by rw [upd_ne ne]; exact z1, z2, z3⟩
    | slf C ns es =>
      obtain ⟨q', dx, ws, e, z1, z2, z3, z4, z5⟩ := q
      have ne : q' ≠ p := fun z => by
        subst z e
        exact h5 i (.slf C ns es) e1 rfl e2
      exact ⟨q', dx, ws, e, z1, z2, by rw [upd_ne ne]; exact z3, z4, RpL.mono (sub_upd h2) es ws z5⟩
    | exc x =>
      obtain ⟨a, cls, dd, e1, e2, z⟩ := q
      exact ⟨a, cls, dd, e1, e2, z.mono (sub_upd h2)⟩
/-- a slot is given data -/
theorem Rel.setDat (r : Rel K F P H σ sv) {i : Nat} {d : D} {v : V} (h : Rp K P d v) : Rel K F P H (σ.set i (some v)) (sv.set i (.dat d)) := by
  have back : ∀ {m : Nat} {z : Sl}, (sv.set i (.dat d))[m]? = some z → z.addr = true → sv[m]? = some z ∧ m ≠ i := fun {m z} em az => by
    by_cases hm : m = i
    · subst hm
      rw [List.getElem?_set] at em
      rw [if_pos rfl] at em
      split at em
      · cases em
        cases az
      · cases em
    · exact ⟨by rwa [List.getElem?_set_ne (Ne.symm hm)] at em, hm⟩
  refine ⟨by rw [List.length_set, List.length_set]; exact r.len, r.lim, r.sub, r.p0, r.new, r.ext, r.selfs, r.bags, fun j s o e1 e2 => ?_, fun j k s t o u p ne e1 e2 a1 a2 s1 s2 eo eu => ?_, fun p vs hp => ?_⟩
  · by_cases hj : j = i
    · subst hj
      rw [List.getElem?_set, if_pos rfl] at e1 e2
      split at e1
      · cases e1
        split at e2
        · cases e2
          exact ⟨v, rfl, h⟩
        · cases e2
      · cases e1
    · rw [List.getElem?_set_ne (Ne.symm hj)] at e1 e2
      exact r.sl j s o e1 e2
  · obtain ⟨b1, n1⟩ := back e1 a1
    obtain ⟨b2, n2⟩ := back e2 a2
    rw [List.getElem?_set_ne (Ne.symm n1)] at s1
    rw [List.getElem?_set_ne (Ne.symm n2)] at s2
    exact r.apart j k s t o u p ne b1 b2 a1 a2 s1 s2 eo eu
  · obtain ⟨z1, z2, z3, z4⟩ := r.kept p vs hp
    refine ⟨z1, z2, z3, fun m s e1 a1 => ?_⟩
    obtain ⟨b1, n1⟩ := back e1 a1
    rw [List.getElem?_set_ne (Ne.symm n1)]
    exact z4 m s b1 a1
/-- a slot is given a new list -/
theorem Rel.setNew (r : Rel K F P H σ sv) {i : Nat} {p : Addr} {ds : List D} (h : NewL K F P H σ sv p ds) : Rel K F P H (σ.set i (some (.ref p))) (sv.set i (.own ds)) := by
  obtain ⟨vs, h1, h2, h3, h4, h5, h6⟩ := h
  refine ⟨by rw [List.length_set, List.length_set]; exact r.len, r.lim, r.sub, r.p0, r.new, r.ext, r.selfs, r.bags, fun j s o e1 e2 => ?_, fun j k s t o u q ne e1 e2 a1 a2 s1 s2 eo eu => ?_, fun q ws hq => ?_⟩
  · by_cases hj : j = i
    · subst hj
      rw [List.getElem?_set, if_pos rfl] at e1 e2
      split at e1
      · cases e1
        split at e2
        · cases e2
          exact ⟨p, vs, rfl, h1, h2, h3, h4⟩
        · cases e2
      · cases e1
    · rw [List.getElem?_set_ne (Ne.symm hj)] at e1 e2
      exact r.sl j s o e1 e2
  · by_cases hj : j = i
    · subst hj
      have hk : k ≠ j := fun z => ne z.symm
      rw [List.getElem?_set_ne (Ne.symm hk)] at e2 s2
      rw [List.getElem?_set, if_pos rfl] at s1
      split at s1
      · cases s1
        cases eo
        rw [eu] at s2
        exact h5 k t e2 a2 s2
      · cases s1
    · rw [List.getElem?_set_ne (Ne.symm hj)] at e1 s1
      by_cases hk : k = i
      · subst hk
        rw [List.getElem?_set, if_pos rfl] at s2
        split at s2
        · cases s2
          cases eu
          rw [eo] at s1
          exact h5 j s e1 a1 s1
        · cases s2
      · rw [List.getElem?_set_ne (Ne.symm hk)] at e2 s2
        exact r.apart j k s t o u q ne e1 e2 a1 a2 s1 s2 eo eu
  · obtain ⟨z1, z2, z3, z4⟩ := r.kept q ws hq
    refine ⟨z1, z2, z3, fun m s e1 a1 => ?_⟩
    by_cases hm : m = i
    · subst hm
      rw [List.getElem?_set, if_pos rfl]
      split
      · intro z
        injection z with z5
        injection z5 with z6
        injection z6 with z7
        exact h6 q ws hq z7.symm
      · intro z
        cases z
    · rw [List.getElem?_set_ne (Ne.symm hm)] at e1 ⊢
      exact z4 m s e1 a1
end
end Pd
end
section
set_option autoImplicit false
set_option Elab.async false
set_option linter.all false
set_option autoImplicit false
set_option maxRecDepth 100000
set_option maxHeartbeats 1000000
/-! Pd2: expressions over data. -/
namespace Pd
open PySem PySem.Spec PyProof.Rows L2
section
variable {X : Cx} {W : Wz} {pos : Pos}

/-! ### constants, names -/
@[simp] def dC (d : D) : De := fun sv Q _ => Q d sv
theorem snd_c {K : PySem.W.Frag} {W : Wz} {d : D} {v : V} (h : ∀ P, Rp K P d v) : SndE K W (tC v) (dC d) := fun F P H σ sv Q E R r k _ q => k v H P d sv r (Sub.refl P) (h P) q
theorem pd_int {i j} : PD X W (.Constant (.int i) j pos) (dC (.int i)) := ⟨_, pe_int, snd_c fun _ => rfl⟩
theorem pd_bl {b j} : PD X W (.Constant (.bool b) j pos) (dC (.bl b)) := ⟨_, pe_bl, snd_c fun _ => rfl⟩
theorem pd_non {j} : PD X W (.Constant .none j pos) (dC .non) := ⟨_, pe_non, snd_c fun _ => rfl⟩
theorem pd_str {x j} : PD X W (.Constant (.str x) j pos) (dC (.str x)) := ⟨_, pe_str, snd_c fun _ => rfl⟩
theorem pd_globI {x : Str} {i : Int} (hg : Gl X x) (hm : ∃ t, X.mg x = some (.int i t)) (hd : (x == ("__debug__" : Str)) = false := by decide) : PD X W (.Name x pos) (dC (.int i)) := by
  obtain ⟨t, hm⟩ := hm
  exact ⟨_, pe_glob (v := .int i) hg hm ⟨t, rfl⟩ hd, snd_c fun _ => rfl⟩
theorem pd_globS {x z : Str} (hg : Gl X x) (hm : ∃ t, X.mg x = some (.str z t)) (hd : (x == ("__debug__" : Str)) = false := by decide) : PD X W (.Name x pos) (dC (.str z)) := by
  obtain ⟨t, hm⟩ := hm
  exact ⟨_, pe_glob (v := .str z) hg hm ⟨t, rfl⟩ hd, snd_c fun _ => rfl⟩

/-- a slot is read as data; a list of one's own is data from then on -/
@[simp] def dVar (i : Nat) : De := fun sv Q _ => match sv[i]? with
  | some (.dat d) => Q d sv
  | some (.own ds) => Q (.lst ds) (sv.set i (.dat (.lst ds)))
  | _ => False
theorem rel_get {K : PySem.W.Frag} {F : Fr} {P H : Hp} {σ : L2.St} {sv : Sv} (r : Rel K F P H σ sv) {i : Nat} {s : Sl} (h : sv[i]? = some s) : ∃ o, σ[i]? = some o ∧ SlRel K F P H s o := by
  have hi : i < sv.length := (List.getElem?_eq_some_iff.mp h).1
  have hi2 : i < σ.length := by rw [← r.len]; exact hi
  exact ⟨σ[i], by simp [hi2], r.sl i s _ h (by simp [hi2])⟩
/-- slot i's list becomes data -/
theorem Rel.freeze {K : PySem.W.Frag} {F : Fr} {P H : Hp} {σ : L2.St} {sv : Sv} (r : Rel K F P H σ sv) {i : Nat} {ds : List D} (h : sv[i]? = some (.own ds)) :
    ∃ p P', σ[i]? = some (some (.ref p)) ∧ Rel K F P' H σ (sv.set i (.dat (.lst ds))) ∧ Sub P P' ∧ Rp K P' (.lst ds) (.ref p) := by
  obtain ⟨o, ho, p, vs, rfl, h1, h2, h3, h4⟩ := rel_get r h
  have hi : i < sv.length := (List.getElem?_eq_some_iff.mp h).1
  have rp : Rp K (upd P p (.lst vs)) (.lst ds) (.ref p) := ⟨p, vs, rfl, upd_same, RpL.mono (sub_upd h2) ds vs h4⟩
  refine ⟨p, upd P p (.lst vs), ho, ?_, sub_upd h2, rp⟩
  refine ⟨by rw [List.length_set]; exact r.len, r.lim, fun a u e => ?_, r.p0.trans (sub_upd h2), fun a u e => ?_, r.ext, r.selfs, r.bags, fun j s u e1 e2 => ?_, fun j k s t u w q ne e1 e2 a1 a2 s1 s2 eu ew => ?_, fun q ws hq => ?_⟩
  · by_cases ha : a = p
    · subst ha
      rw [upd_same] at e
      cases e
      exact h1
    · rw [upd_ne ha] at e
      exact r.sub a u e
  · by_cases ha : a = p
    · subst ha
      exact .inr h3
    · rw [upd_ne ha] at e
      exact r.new a u e
  · by_cases hj : j = i
    · subst hj
      rw [List.getElem?_set_self hi] at e1
      cases e1
      rw [ho] at e2
      cases e2
      exact ⟨_, rfl, rp⟩
    · rw [List.getElem?_set_ne (Ne.symm hj)] at e1
      have q := r.sl j s u e1 e2
      cases s with
      | un => trivial
      | dat d =>
        obtain ⟨v, e, z⟩ := q
        exact ⟨v, e, Rp.mono (sub_upd h2) d v z⟩
      | own es =>
        obtain ⟨q', ws, e, z1, z2, z3, z4⟩ := q
        have ne : q' ≠ p := fun z => by
          subst z e
          exact r.apart j i _ _ _ _ q' hj e1 h rfl rfl e2 ho rfl rfl
        exact ⟨q', ws, e, z1, by rw [upd_ne ne]; exact z2, z3, RpL.mono (sub_upd h2) es ws z4⟩
      | bag n =>
        obtain ⟨q', e, z1, z2, z3⟩ := q
        have ne : q' ≠ p := fun z => by
          subst z e
          exact r.apart j i _ _ _ _ q' hj e1 h rfl rfl e2 ho rfl rfl
        exact ⟨q', e, by rw [upd_ne ne]; exact z1, z2, z3⟩
      | slf C ns es =>
        obtain ⟨q', dx, ws, e, z1, z2, z3, z4, z5⟩ := q
        have ne : q' ≠ p := fun z => by
          subst z e
          exact r.apart j i _ _ _ _ q' hj e1 h rfl rfl e2 ho rfl rfl
        exact ⟨q', dx, ws, e, z1, z2, by rw [upd_ne ne]; exact z3, z4, RpL.mono (sub_upd h2) es ws z5⟩
      | exc x =>
        obtain ⟨a, cls, dd, e1, e2, z⟩ := q
        exact ⟨a, cls, dd, e1, e2, z.mono (sub_upd h2)⟩
  · have back : ∀ {m : Nat} {z : Sl}, (sv.set i (.dat (.lst ds)))[m]? = some z → z.addr = true → sv[m]? = some z := fun {m z} em az => by
      by_cases hm : m = i
      · subst hm
        rw [List.getElem?_set_self hi] at em
        cases em
        cases az
      · rwa [List.getElem?_set_ne (Ne.symm hm)] at em
    exact r.apart j k s t u w q ne (back e1 a1) (back e2 a2) a1 a2 s1 s2 eu ew
  · obtain ⟨z1, z2, z3, z4⟩ := r.kept q ws hq
    have ne : q ≠ p := fun z => by
      subst z
      exact z4 i _ h rfl ho
    refine ⟨z1, by rw [upd_ne ne]; exact z2, z3, fun m s e1 a1 => ?_⟩
    by_cases hm : m = i
    · subst hm
      rw [List.getElem?_set_self hi] at e1
      cases e1
      cases a1
    · rw [List.getElem?_set_ne (Ne.symm hm)] at e1
      exact z4 m s e1 a1
theorem snd_var {K : PySem.W.Frag} {i : Nat} : SndE K W (tVar i) (dVar i) := fun F P H σ sv Q E R r k _ q => by
  unfold dVar at q
  cases e : sv[i]? with
  | none =>
    rw [e] at q
    exact q.elim
  | some s =>
    rw [e] at q
    cases s with
    | un => exact q.elim
    | bag n => exact q.elim
    | slf C ns ds => exact q.elim
    | exc x => exact q.elim
    | dat d =>
      obtain ⟨o, ho, v, rfl, rv⟩ := rel_get r e
      exact ⟨v, ho, k v H P d sv r (Sub.refl P) rv q⟩
    | own ds =>
      obtain ⟨p, P', hp, r', s', rv⟩ := r.freeze e
      exact ⟨_, hp, k _ H P' _ _ r' s' rv q⟩
theorem pd_var {i : Nat} {x : Str} (hN : X.N[i]? = some x) (hv : Vis X.env.scope x) (hd : (x == ("__debug__" : Str)) = false := by decide) (hcd : (x == ("__classdict__" : Str)) = false := by decide) : PD X W (.Name x pos) (dVar i) :=
  ⟨_, pe_var hN hv hd hcd, snd_var⟩

/-! ### argument lists -/
@[simp] def dNil : Da := fun sv Q _ => Q [] sv
@[simp] def dCons (f : De) (g : Da) : Da := fun sv Q E => f sv (fun d sv1 => g sv1 (fun as sv2 => Q (.dat d :: as) sv2) E) E
/-- a name in an argument list: data, or the draws -/
@[simp] def dConsV (i : Nat) (g : Da) : Da := fun sv Q E => match sv[i]? with
  | some (.bag _) => g sv (fun as sv2 => Q (.bag i :: as) sv2) E
  | _ => dCons (dVar i) g sv Q E
theorem pda_nil : PDA X W [] dNil := ⟨_, pa_nil, fun F P H σ sv Q E R r k _ q => k [] H P [] sv r (Sub.refl P) rfl q⟩
theorem snd_cons {K : PySem.W.Frag} {te : TE} {ta : TA} {f : De} {g : Da} (h1 : SndE K W te f) (h2 : SndA K W ta g) : SndA K W (tCons te ta) (dCons f g) := fun F P H σ sv Q E R r k kx q =>
  h1 F P H σ sv _ E _ r (fun v H1 P1 d sv1 r1 s1 rv q1 => h2 F P1 H1 σ sv1 _ E _ r1 (fun vs H2 P2 as sv2 r2 s2 ra q2 =>
    k (v :: vs) H2 P2 (.dat d :: as) sv2 r2 (s1.trans s2) ⟨v, vs, rfl, Rp.mono s2 d v rv, ra⟩ q2) kx q1) kx q
theorem pda_cons {e : Expr} {es : List Expr} {f : De} {g : Da} (h1 : PD X W e f) (h2 : PDA X W es g) (hs : starEach (e :: es) X.env = (false, eval e X.env) :: starEach es X.env := by rfl) : PDA X W (e :: es) (dCons f g) := by
  obtain ⟨te, p1, s1⟩ := h1
  obtain ⟨ta, p2, s2⟩ := h2
  exact ⟨_, pa_cons p1 p2 hs, snd_cons s1 s2⟩
theorem pda_var {i : Nat} {x : Str} {p : Pos} {es : List Expr} {g : Da} (hN : X.N[i]? = some x) (hv : Vis X.env.scope x) (h2 : PDA X W es g) (hd : (x == ("__debug__" : Str)) = false := by decide) (hcd : (x == ("__classdict__" : Str)) = false := by decide)
    (hs : starEach (.Name x p :: es) X.env = (false, eval (.Name x p) X.env) :: starEach es X.env := by rfl) : PDA X W (.Name x p :: es) (dConsV i g) := by
  obtain ⟨ta, p2, s2⟩ := h2
  refine ⟨_, pa_cons (pe_var hN hv hd hcd) p2 hs, fun F P H σ sv Q E R r k kx q => ?_⟩
  unfold dConsV at q
  cases e : sv[i]? with
  | none =>
    rw [e] at q
    exact snd_cons snd_var s2 F P H σ sv Q E R r k kx q
  | some s =>
    rw [e] at q
    cases s with
    | un => exact snd_cons snd_var s2 F P H σ sv Q E R r k kx q
    | dat d => exact snd_cons snd_var s2 F P H σ sv Q E R r k kx q
    | own ds => exact snd_cons snd_var s2 F P H σ sv Q E R r k kx q
    | slf C ns ds => exact snd_cons snd_var s2 F P H σ sv Q E R r k kx q
    | exc x => exact snd_cons snd_var s2 F P H σ sv Q E R r k kx q
    | bag n =>
      obtain ⟨o, ho, p', rfl, _⟩ := rel_get r e
      exact ⟨_, ho, s2 F P H σ sv _ E _ r (fun vs H2 P2 as sv2 r2 s2' ra q2 => k _ H2 P2 (.bag i :: as) sv2 r2 s2' ⟨_, vs, rfl, ho, ra⟩ q2) kx q⟩
/-- data all of them -/
@[simp] def asD : List Ar → Option (List D)
  | [] => some []
  | .dat d :: as => (asD as).map (d :: ·)
  | .bag _ :: _ => none
theorem asD_rel {K : PySem.W.Frag} {P : Hp} {σ : L2.St} : ∀ {as : List Ar} {vs : List V} {ds : List D}, ArsRel K P σ as vs → asD as = some ds → RpL K P ds vs
  | [], _, _, h, e => by
    cases e
    exact h
  | .dat d :: as, _, _, h, e => by
    obtain ⟨v, r, rfl, h1, h2⟩ := h
    simp only [asD, Option.map_eq_some_iff] at e
    obtain ⟨ds, e1, rfl⟩ := e
    exact ⟨v, r, rfl, h1, asD_rel h2 e1⟩
  | .bag _ :: _, _, _, _, e => by cases e
theorem small_line {n : Nat} (h : n ≤ 100000) : n ≤ sizeLine := Nat.le_trans h (by decide)

/-! ### displays -/
@[simp] def dTup (g : Da) : De := fun sv Q E => g sv (fun as sv' => ∃ ds, asD as = some ds ∧ ds.length ≤ 100000 ∧ Q (.tup ds) sv') E
@[simp] def dLst (g : Da) : Dl := fun sv Q E => g sv (fun as sv' => ∃ ds, asD as = some ds ∧ ds.length ≤ 100000 ∧ Q ds sv') E
theorem pd_tup {es : List Expr} {c} {g : Da} (h : PDA X W es g) : PD X W (.Tuple es c pos) (dTup g) := by
  obtain ⟨ta, p, s⟩ := h
  refine ⟨_, pe_tup p, fun F P H σ sv Q E R r k kx q => s F P H σ sv _ E _ r (fun vs H1 P1 as sv1 r1 s1 ra ⟨ds, e, hl, q1⟩ => ?_) kx q⟩
  have rv := asD_rel ra e
  refine ⟨small_line (by rw [rv.length]; exact hl), fun p hp => ?_⟩
  exact k (.ref p) _ _ (.tup ds) sv1 (r1.lay hp) (s1.trans (sub_upd (r1.free hp))) ⟨p, vs, rfl, .inl (.inl upd_same), RpL.mono (sub_upd (r1.free hp)) ds vs rv⟩ q1
theorem pdl_lst {es : List Expr} {g : Da} (h : PDA X W es g) : PDL X W (.List es pos) (dLst g) := by
  obtain ⟨ta, p, s⟩ := h
  refine ⟨_, pe_lst p, fun F P H σ sv Q E R r k kx q => s F P H σ sv _ E _ r (fun vs H1 P1 as sv1 r1 s1 ra ⟨ds, e, hl, q1⟩ => ?_) kx q⟩
  have rv := asD_rel ra e
  refine ⟨small_line (by rw [rv.length]; exact hl), fun p hp => ?_⟩
  exact k p _ _ ds sv1 (r1.layH hp) s1 (r1.newL hp rv) q1
/-- a new list as data -/
@[simp] def dL (g : Dl) : De := fun sv Q E => g sv (fun ds sv' => Q (.lst ds) sv') E
theorem snd_L {K : PySem.W.Frag} {t : TE} {g : Dl} (h : SndL K W t g) : SndE K W t (dL g) := fun F P H σ sv Q E R r k kx q =>
  h F P H σ sv _ E R r (fun p H1 P1 ds sv1 r1 s1 n q1 => by
    obtain ⟨P2, r2, s2, rp⟩ := r1.publish n
    exact k _ H1 P2 _ sv1 r2 (s1.trans s2) rp q1) kx q
theorem pd_L {e : Expr} {g : Dl} (h : PDL X W e g) : PD X W e (dL g) := by
  obtain ⟨t, p, s⟩ := h
  exact ⟨t, p, snd_L s⟩

/-! ### operators by values -/
abbrev G2 := D → D → (D → Prop) → Prop
def SndR (K : PySem.W.Frag) (r : R2) (g : G2) : Prop := ∀ (F : Fr) (P H : Hp) (σ : L2.St) (sv : Sv) (x y : V) (d e : D) (Q : D → Prop) (R : VK), Rel K F P H σ sv → Rp K P d x → Rp K P e y →
  (∀ v H' P' z, Rel K F P' H' σ sv → Sub P P' → Rp K P' z v → Q z → R v H') → g d e Q → r x y H R
@[simp] def dOp (g : G2) (f1 f2 : De) : De := fun sv Q E => f1 sv (fun d sv1 => f2 sv1 (fun e sv2 => g d e fun z => Q z sv2) E) E
theorem snd_op {K : PySem.W.Frag} {ta tb : TE} {f1 f2 : De} {r : R2} {g : G2} (h1 : SndE K W ta f1) (h2 : SndE K W tb f2) (hr : SndR K r g) : SndE K W (tOp r ta tb) (dOp g f1 f2) := fun F P H σ sv Q E R re k kx q =>
  h1 F P H σ sv _ E _ re (fun x H1 P1 d sv1 r1 s1 rx q1 => h2 F P1 H1 σ sv1 _ E _ r1 (fun y H2 P2 e sv2 r2 s2 ry q2 =>
    hr _ P2 H2 σ sv2 x y d e _ R r2 (Rp.mono s2 d x rx) ry (fun v H3 P3 z r3 s3 rz q3 => k v H3 P3 z sv2 r3 ((s1.trans s2).trans s3) rz q3) q2) kx q1) kx q
theorem pd_op {a b : Expr} {op : Operator} {f1 f2 : De} {r : R2} {g : G2} (ho : OpR X (binaryOp op) r) (hr : SndR X.K r g) (h1 : PD X W a f1) (h2 : PD X W b f2) : PD X W (.BinOp a op b pos) (dOp g f1 f2) := by
  obtain ⟨ta, p1, s1⟩ := h1
  obtain ⟨tb, p2, s2⟩ := h2
  exact ⟨_, pe_op ho p1 p2, snd_op s1 s2 hr⟩
theorem pd_cmp {a b : Expr} {op : CmpOp} {f1 f2 : De} {r : R2} {g : G2} (ho : OpR X (compareOp op) r) (hr : SndR X.K r g) (h1 : PD X W a f1) (h2 : PD X W b f2) (hm : behindInMarks op b = false := by rfl) : PD X W (.Compare a [op] [b] pos) (dOp g f1 f2) := by
  obtain ⟨ta, p1, s1⟩ := h1
  obtain ⟨tb, p2, s2⟩ := h2
  exact ⟨_, pe_cmpR ho p1 p2 hm, snd_op s1 s2 hr⟩
/-- a test by a value that is a bool -/
@[simp] def dTest (f : De) : Dt := fun sv Q E => f sv (fun d sv' => ∃ b, d = .bl b ∧ Q b sv') E
theorem pdt_cmp {a b : Expr} {op : CmpOp} {f1 f2 : De} {r : R2} {g : G2} (ho : OpR X (compareOp op) r) (hr : SndR X.K r g) (h1 : PD X W a f1) (h2 : PD X W b f2) (hm : behindInMarks op b = false := by rfl) : PDT X W (.Compare a [op] [b] pos) (dTest (dOp g f1 f2)) := by
  obtain ⟨ta, p1, s1⟩ := h1
  obtain ⟨tb, p2, s2⟩ := h2
  refine ⟨_, pt_cmpR ho p1 p2 hm, fun F P H σ sv Q E R re k kx q => snd_op s1 s2 hr _ P H σ sv _ E _ re (fun v H1 P1 d sv1 r1 s1' rv ⟨b, ed, q1⟩ => ?_) kx q⟩
  subst ed
  exact ⟨b, rv, k b H1 P1 sv1 r1 s1' q1⟩
theorem SndR.or {K : PySem.W.Frag} {r r' : R2} {g g' : G2} (h : SndR K r g) (h' : SndR K r' g') : SndR K (fun x y H Q => r x y H Q ∨ r' x y H Q) (fun d e Q => g d e Q ∨ g' d e Q) := fun F P H σ sv x y d e Q R re rx ry k q => by
  rcases q with q | q
  · exact .inl (h F P H σ sv x y d e Q R re rx ry k q)
  · exact .inr (h' F P H σ sv x y d e Q R re rx ry k q)

/-- ints -/
@[simp] def gI (f : Int → Int → D) : G2 := fun d e Q => match d, e with
  | .int i, .int j => Q (f i j)
  | _, _ => False
theorem snd_I0 {K : PySem.W.Frag} {g : Int → Int → V} {f : Int → Int → D} (h : ∀ P i j, Rp K P (f i j) (g i j)) : SndR K (rI0 g) (gI f) := fun F P H σ sv x y d e Q R re rx ry k q => by
  cases d with
  | int i =>
    cases e with
    | int j =>
      obtain rfl := rx
      obtain rfl := ry
      exact ⟨i, j, rfl, rfl, k _ H P _ re (Sub.refl P) (h P i j) q⟩
    | _ => exact q.elim
  | _ => exact q.elim
/-- ints, under a condition -/
@[simp] def gIC (C : Int → Int → Prop) (f : Int → Int → D) : G2 := fun d e Q => match d, e with
  | .int i, .int j => C i j ∧ Q (f i j)
  | _, _ => False
theorem snd_I {K : PySem.W.Frag} {C : Int → Int → Prop} {g : Int → Int → V} {f : Int → Int → D} (h : ∀ P i j, Rp K P (f i j) (g i j)) : SndR K (rI C g) (gIC C f) := fun F P H σ sv x y d e Q R re rx ry k q => by
  cases d with
  | int i =>
    cases e with
    | int j =>
      obtain rfl := rx
      obtain rfl := ry
      exact ⟨i, j, rfl, rfl, q.1, k _ H P _ re (Sub.refl P) (h P i j) q.2⟩
    | _ => exact q.elim
  | _ => exact q.elim

/-- + of ints, texts, lists (a new one) -/
@[simp] def gAdd : G2 := fun d e Q => match d, e with
  | .int i, .int j => Q (.int (i + j))
  | .str a, .str b => a.length + b.length ≤ sizeLine ∧ Q (.str (a ++ b))
  | .lst xs, .lst ys => xs.length + ys.length ≤ 100000 ∧ Q (.lst (xs ++ ys))
  | _, _ => False
theorem pd_add {a b : Expr} {f1 f2 : De} (h1 : PD X W a f1) (h2 : PD X W b f2) : PD X W (.BinOp a .Add b pos) (dOp gAdd f1 f2) := by
  refine pd_op (OpR.or op_add (OpR.or op_add_str op_cat)) ?_ h1 h2
  intro F P H σ sv x y d e Q R re rx ry k q
  cases d with
  | int i =>
    cases e with
    | int j =>
      obtain rfl := rx
      obtain rfl := ry
      exact .inl ⟨i, j, rfl, rfl, k _ H P (.int (i + j)) re (Sub.refl P) rfl q⟩
    | _ => exact q.elim
  | str z =>
    cases e with
    | str w =>
      obtain rfl := rx
      obtain rfl := ry
      exact .inr (.inl ⟨z, w, rfl, rfl, q.1, k _ H P (.str (z ++ w)) re (Sub.refl P) rfl q.2⟩)
    | _ => exact q.elim
  | lst xs =>
    cases e with
    | lst ys =>
      obtain ⟨p, vs, rfl, e1, r1⟩ := rx
      obtain ⟨p2, ws, rfl, e2, r2⟩ := ry
      refine .inr (.inr ⟨p, p2, vs, ws, rfl, rfl, re.sub _ _ e1, re.sub _ _ e2, small_line (by rw [r1.length, r2.length]; exact q.1), fun p3 hp => ?_⟩)
      have f3 := re.free hp
      exact k _ _ _ (.lst (xs ++ ys)) (re.lay hp) (sub_upd f3) ⟨p3, _, rfl, upd_same, RpL.mono (sub_upd f3) _ _ (r1.append r2)⟩ q.2
    | _ => exact q.elim
  | _ => exact q.elim
theorem pd_sub {a b : Expr} {f1 f2 : De} (h1 : PD X W a f1) (h2 : PD X W b f2) : PD X W (.BinOp a .Sub b pos) (dOp (gI fun i j => .int (i - j)) f1 f2) := pd_op op_sub (snd_I0 fun _ _ _ => rfl) h1 h2
theorem pd_mod {a b : Expr} {f1 f2 : De} (h1 : PD X W a f1) (h2 : PD X W b f2) : PD X W (.BinOp a .Mod b pos) (dOp (gIC (fun _ j => 0 < j) fun i j => .int (i % j)) f1 f2) := pd_op op_mod (snd_I fun _ _ _ => rfl) h1 h2
/-- * of ints, of a list and an int -/
@[simp] def gMul : G2 := fun d e Q => match d, e with
  | .int i, .int j => CMul i j ∧ Q (.int (i * j))
  | .lst xs, .int k => -(2 ^ 63) ≤ k ∧ k < 2 ^ 63 ∧ xs.length * k.toNat ≤ 100000 ∧ Q (.lst (List.replicate k.toNat xs).flatten)
  | _, _ => False
theorem RpL.rep {K : PySem.W.Frag} {P : Hp} {ds : List D} {vs : List V} (h : RpL K P ds vs) : ∀ n : Nat, RpL K P (List.replicate n ds).flatten (List.replicate n vs).flatten
  | 0 => rfl
  | n + 1 => by
    rw [List.replicate_succ, List.replicate_succ, List.flatten_cons, List.flatten_cons]
    exact h.append (RpL.rep h n)
theorem pd_mul {a b : Expr} {f1 f2 : De} (h1 : PD X W a f1) (h2 : PD X W b f2) : PD X W (.BinOp a .Mult b pos) (dOp gMul f1 f2) := by
  refine pd_op (OpR.or op_mul op_rep) ?_ h1 h2
  intro F P H σ sv x y d e Q R re rx ry k q
  cases d with
  | int i =>
    cases e with
    | int j =>
      obtain rfl := rx
      obtain rfl := ry
      exact .inl ⟨i, j, rfl, rfl, q.1, k _ H P (.int (i * j)) re (Sub.refl P) rfl q.2⟩
    | _ => exact q.elim
  | lst xs =>
    cases e with
    | int j =>
      obtain ⟨p, vs, rfl, e1, r1⟩ := rx
      obtain rfl := ry
      refine .inr ⟨p, j, vs, rfl, rfl, re.sub _ _ e1, q.1, q.2.1, small_line (by rw [r1.length]; exact q.2.2.1), fun p3 hp => ?_⟩
      have f3 := re.free hp
      exact k _ _ _ (.lst _) (re.lay hp) (sub_upd f3) ⟨p3, _, rfl, upd_same, RpL.mono (sub_upd f3) _ _ (r1.rep j.toNat)⟩ q.2.2.2
    | _ => exact q.elim
  | _ => exact q.elim
@[simp] def gLt : G2 := gI fun i j => .bl (decide (i < j))
@[simp] def gLe : G2 := gI fun i j => .bl (decide (i ≤ j))
@[simp] def gGt : G2 := gI fun i j => .bl (decide (j < i))
@[simp] def gGe : G2 := gI fun i j => .bl (decide (j ≤ i))
theorem or_lt : OpR X (compareOp .Lt) (rI0 fun i j => .bl (decide (i < j))) := op_lt
theorem snd_lt {K : PySem.W.Frag} : SndR K (rI0 fun i j => .bl (decide (i < j))) gLt := snd_I0 fun _ _ _ => rfl
theorem snd_le {K : PySem.W.Frag} : SndR K (rI0 fun i j => .bl (decide (i ≤ j))) gLe := snd_I0 fun _ _ _ => rfl
theorem snd_gt {K : PySem.W.Frag} : SndR K (rI0 fun i j => .bl (decide (j < i))) gGt := snd_I0 fun _ _ _ => rfl
theorem snd_ge {K : PySem.W.Frag} : SndR K (rI0 fun i j => .bl (decide (j ≤ i))) gGe := snd_I0 fun _ _ _ => rfl

/-! ### ==, != of plain data -/
@[simp] def gEq : G2 := fun d e Q => ∃ p q, d.py = some p ∧ e.py = some q ∧ min p.depth q.depth ≤ 60 ∧ Q (.bl (PyData.eqv p q))
@[simp] def gNe : G2 := fun d e Q => ∃ p q, d.py = some p ∧ e.py = some q ∧ min p.depth q.depth ≤ 60 ∧ Q (.bl (!PyData.eqv p q))
def rEqP (K : PySem.W.Frag) : R2 := fun x y H Q => ∃ d e, Dp K H x d ∧ Dp K H y e ∧ d.plain = true ∧ e.plain = true ∧ min d.depth e.depth ≤ 60 ∧ Q (.bl (PyData.eqv d e)) H
def rNeP (K : PySem.W.Frag) : R2 := fun x y H Q => ∃ d e, Dp K H x d ∧ Dp K H y e ∧ d.plain = true ∧ e.plain = true ∧ min d.depth e.depth ≤ 60 ∧ Q (.bl (!PyData.eqv d e)) H
theorem op_eqP (hu : X.A.units + 64 < cLine) : OpR X (compareOp .Eq) (rEqP X.K) := by
  intro pins s σ H x y v u Q I rx ry h
  obtain ⟨d, e, hd, he, pd, pe, hm, q⟩ := h
  obtain ⟨as, r1⟩ := Dp.reads I d x v hd rx
  obtain ⟨bs, r2⟩ := Dp.reads I e y u he ry
  exact PySem.SeqAt.eq_plain r1 r2 pd pe (by omega) ⟨.bl _, H, I, rfl, q⟩
theorem op_neP (hu : X.A.units + 64 < cLine) : OpR X (compareOp .NotEq) (rNeP X.K) := by
  intro pins s σ H x y v u Q I rx ry h
  obtain ⟨d, e, hd, he, pd, pe, hm, q⟩ := h
  obtain ⟨as, r1⟩ := Dp.reads I d x v hd rx
  obtain ⟨bs, r2⟩ := Dp.reads I e y u he ry
  exact PySem.SeqAt.ne_plain r1 r2 pd pe (by omega) ⟨.bl _, H, I, rfl, q⟩
theorem snd_eq {K : PySem.W.Frag} : SndR K (rEqP K) gEq := fun F P H σ sv x y d e Q R re rx ry k q => by
  obtain ⟨p, p2, e1, e2, hm, q⟩ := q
  exact ⟨p, p2, Rp.dp d p x e1 (Rp.mono re.sub d x rx), Rp.dp e p2 y e2 (Rp.mono re.sub e y ry), D.py_plain d p e1, D.py_plain e p2 e2, hm, k _ H P (.bl _) re (Sub.refl P) rfl q⟩
theorem snd_ne {K : PySem.W.Frag} : SndR K (rNeP K) gNe := fun F P H σ sv x y d e Q R re rx ry k q => by
  obtain ⟨p, p2, e1, e2, hm, q⟩ := q
  exact ⟨p, p2, Rp.dp d p x e1 (Rp.mono re.sub d x rx), Rp.dp e p2 y e2 (Rp.mono re.sub e y ry), D.py_plain d p e1, D.py_plain e p2 e2, hm, k _ H P (.bl _) re (Sub.refl P) rfl q⟩
/-! ### is None -/
@[simp] def D.isNon : D → Bool
  | .non => true
  | _ => false
theorem D.isNon_v {K : PySem.W.Frag} {P : Hp} {d : D} {v : V} (h : Rp K P d v) : decide (v = .non) = d.isNon := by
  cases d with
  | non => cases h; rfl
  | bl b => cases h; rfl
  | int i => cases h; rfl
  | str x => cases h; rfl
  | lst ds => obtain ⟨a, xs, rfl, _⟩ := h; rfl
  | tup ds => obtain ⟨a, xs, rfl, _⟩ := h; rfl
  | ins C ns ds => obtain ⟨a, dx, xs, rfl, _⟩ := h; rfl
  | dk ks ds => obtain ⟨a, xs, rfl, _⟩ := h; rfl
  | dt ks ds => obtain ⟨a, xs, rfl, _⟩ := h; rfl
  | scr ns => obtain ⟨a, rfl, _⟩ := h; rfl
@[simp] def gIsN : G2 := fun d e Q => e = .non ∧ Q (.bl d.isNon)
@[simp] def gNotN : G2 := fun d e Q => e = .non ∧ Q (.bl (!d.isNon))
theorem snd_isN {K : PySem.W.Frag} : SndR K rIsN gIsN := fun F P H σ sv x y d e Q R re rx ry k q => by
  obtain ⟨rfl, q⟩ := q
  refine ⟨ry, ?_⟩
  rw [D.isNon_v rx]
  exact k _ H P (.bl _) re (Sub.refl P) rfl q
theorem snd_notN {K : PySem.W.Frag} : SndR K rNotN gNotN := fun F P H σ sv x y d e Q R re rx ry k q => by
  obtain ⟨rfl, q⟩ := q
  refine ⟨ry, ?_⟩
  rw [D.isNon_v rx]
  exact k _ H P (.bl _) re (Sub.refl P) rfl q
end
end Pd
end
section
set_option autoImplicit false
set_option Elab.async false
set_option linter.all false
set_option autoImplicit false
set_option maxRecDepth 100000
set_option maxHeartbeats 1000000
/-! Pd3: membership, chains, and | or | not, tests, choices, items, slices, fields, built-ins. -/
namespace Pd
open PySem PySem.Spec PyProof.Rows L2
section
variable {X : Cx} {W : Wz} {pos : Pos}

/-! ### in -/
def rInP (K : PySem.W.Frag) : R2 := fun x y H Q => ∃ d ds, Dp K H x d ∧ (Dp K H y (.list ds) ∨ Dp K H y (.tuple ds)) ∧ d.plain = true ∧ PyData.plainAll ds = true ∧ min (PyData.depthAll ds) d.depth ≤ 60 ∧ Q (.bl (ds.any fun z => PyData.eqv z d)) H
def rNotInP (K : PySem.W.Frag) : R2 := fun x y H Q => ∃ d ds, Dp K H x d ∧ (Dp K H y (.list ds) ∨ Dp K H y (.tuple ds)) ∧ d.plain = true ∧ PyData.plainAll ds = true ∧ min (PyData.depthAll ds) d.depth ≤ 60 ∧ Q (.bl (!ds.any fun z => PyData.eqv z d)) H
theorem op_inP (hu : X.A.units + 65 < cLine) : OpR X (compareOp .In) (rInP X.K) := by
  intro pins s σ H x y v u Q I rx ry h
  obtain ⟨d, ds, hd, he, pd, pe, hm, q⟩ := h
  obtain ⟨as, r1⟩ := Dp.reads I d x v hd rx
  rcases he with he | he
  · obtain ⟨bs, r2⟩ := Dp.reads I _ y u he ry
    exact PySem.SeqAt.in_list_data r2 r1 pe pd (by omega) ⟨.bl _, H, I, rfl, q⟩
  · obtain ⟨bs, r2⟩ := Dp.reads I _ y u he ry
    exact PySem.SeqAt.in_tuple_data r2 r1 pe pd (by omega) ⟨.bl _, H, I, rfl, q⟩
theorem op_notInP (hu : X.A.units + 65 < cLine) : OpR X (compareOp .NotIn) (rNotInP X.K) := by
  intro pins s σ H x y v u Q I rx ry h
  obtain ⟨d, ds, hd, he, pd, pe, hm, q⟩ := h
  obtain ⟨as, r1⟩ := Dp.reads I d x v hd rx
  rcases he with he | he
  · obtain ⟨bs, r2⟩ := Dp.reads I _ y u he ry
    exact PySem.SeqAt.notIn_list_data r2 r1 pe pd (by omega) ⟨.bl _, H, I, rfl, q⟩
  · obtain ⟨bs, r2⟩ := Dp.reads I _ y u he ry
    exact PySem.SeqAt.notIn_tuple_data r2 r1 pe pd (by omega) ⟨.bl _, H, I, rfl, q⟩
/-- what x in y is -/
@[simp] def isIn (d e : D) (Q : Bool → Prop) : Prop := match e with
  | .str z => ∃ c, d = .str ⟨#[c]⟩ ∧ Q (decide (c ∈ z.cps.toList))
  | .lst es => ∃ p ps, d.py = some p ∧ D.pyL es = some ps ∧ min (PyData.depthAll ps) p.depth ≤ 60 ∧ Q (ps.any fun z => PyData.eqv z p)
  | .tup es => ∃ p ps, d.py = some p ∧ D.pyL es = some ps ∧ min (PyData.depthAll ps) p.depth ≤ 60 ∧ Q (ps.any fun z => PyData.eqv z p)
  | _ => False
@[simp] def gIn : G2 := fun d e Q => isIn d e fun b => Q (.bl b)
@[simp] def gNotIn : G2 := fun d e Q => isIn d e fun b => Q (.bl (!b))
theorem pyTup {es : List D} {ps : List PyData} (h : D.pyL es = some ps) : (D.tup es).py = some (.tuple ps) := by simp [D.py, h]
theorem pyLst {es : List D} {ps : List PyData} (h : D.pyL es = some ps) : (D.lst es).py = some (.list ps) := by simp [D.py, h]
theorem snd_in {K : PySem.W.Frag} : SndR K (fun x y H Q => (∃ (c : Nat) (z : Str), x = .str ⟨#[c]⟩ ∧ y = .str z ∧ Q (.bl (decide (c ∈ z.cps.toList))) H) ∨ rInP K x y H Q) gIn := fun F P H σ sv x y d e Q R re rx ry k q => by
  cases e with
  | str z =>
    obtain ⟨c, rfl, q⟩ := q
    obtain rfl := ry
    obtain rfl := rx
    exact .inl ⟨c, z, rfl, rfl, k _ H P (.bl _) re (Sub.refl P) rfl q⟩
  | lst es =>
    obtain ⟨p, ps, e1, e2, hm, q⟩ := q
    exact .inr ⟨p, ps, Rp.dp d p x e1 (Rp.mono re.sub d x rx), .inl (Rp.dp _ _ y (pyLst e2) (Rp.mono re.sub _ y ry)), D.py_plain d p e1, D.pyL_plain es ps e2, hm, k _ H P (.bl _) re (Sub.refl P) rfl q⟩
  | tup es =>
    obtain ⟨p, ps, e1, e2, hm, q⟩ := q
    exact .inr ⟨p, ps, Rp.dp d p x e1 (Rp.mono re.sub d x rx), .inr (Rp.dp _ _ y (pyTup e2) (Rp.mono re.sub _ y ry)), D.py_plain d p e1, D.pyL_plain es ps e2, hm, k _ H P (.bl _) re (Sub.refl P) rfl q⟩
  | _ => exact q.elim
theorem snd_notIn {K : PySem.W.Frag} : SndR K (fun x y H Q => (∃ (c : Nat) (z : Str), x = .str ⟨#[c]⟩ ∧ y = .str z ∧ Q (.bl (!decide (c ∈ z.cps.toList))) H) ∨ rNotInP K x y H Q) gNotIn := fun F P H σ sv x y d e Q R re rx ry k q => by
  cases e with
  | str z =>
    obtain ⟨c, rfl, q⟩ := q
    obtain rfl := ry
    obtain rfl := rx
    exact .inl ⟨c, z, rfl, rfl, k _ H P (.bl _) re (Sub.refl P) rfl q⟩
  | lst es =>
    obtain ⟨p, ps, e1, e2, hm, q⟩ := q
    exact .inr ⟨p, ps, Rp.dp d p x e1 (Rp.mono re.sub d x rx), .inl (Rp.dp _ _ y (pyLst e2) (Rp.mono re.sub _ y ry)), D.py_plain d p e1, D.pyL_plain es ps e2, hm, k _ H P (.bl _) re (Sub.refl P) rfl q⟩
  | tup es =>
    obtain ⟨p, ps, e1, e2, hm, q⟩ := q
    exact .inr ⟨p, ps, Rp.dp d p x e1 (Rp.mono re.sub d x rx), .inr (Rp.dp _ _ y (pyTup e2) (Rp.mono re.sub _ y ry)), D.py_plain d p e1, D.pyL_plain es ps e2, hm, k _ H P (.bl _) re (Sub.refl P) rfl q⟩
  | _ => exact q.elim

/-! ### a op b op' c -/
@[simp] def dChain (g g' : G2) (f1 f2 f3 : De) : De := fun sv Q E => f1 sv (fun d sv1 => f2 sv1 (fun e sv2 => g d e fun z => ∃ b, z = .bl b ∧ if b = true then f3 sv2 (fun w sv3 => g' e w fun u => Q u sv3) E else Q (.bl false) sv2) E) E
theorem snd_chain {K : PySem.W.Frag} {ta tb tc : TE} {f1 f2 f3 : De} {r r' : R2} {g g' : G2} (h1 : SndE K W ta f1) (h2 : SndE K W tb f2) (h3 : SndE K W tc f3) (hr : SndR K r g) (hr' : SndR K r' g') :
    SndE K W (tChain r r' ta tb tc) (dChain g g' f1 f2 f3) := fun F P H σ sv Q E R re k kx q =>
  h1 F P H σ sv _ E _ re (fun x H1 P1 d sv1 r1 s1 rx q1 => h2 F P1 H1 σ sv1 _ E _ r1 (fun y H2 P2 e sv2 r2 s2 ry q2 =>
    hr _ P2 H2 σ sv2 x y d e _ _ r2 (Rp.mono s2 d x rx) ry (fun v H3 P3 z r3 s3 rz q3 => by
      obtain ⟨b, rfl, q3⟩ := q3
      refine ⟨b, rz, ?_⟩
      cases b with
      | true =>
        exact h3 F P3 H3 σ sv2 _ E _ r3 (fun w H4 P4 dw sv3 r4 s4 rw q4 => hr' _ P4 H4 σ sv3 y w e dw _ R r4 (Rp.mono s4 e y (Rp.mono s3 e y ry)) rw
          (fun v' H5 P5 z' r5 s5 rz' q5 => k v' H5 P5 z' sv3 r5 ((((s1.trans s2).trans s3).trans s4).trans s5) rz' q5) q4) kx q3
      | false => exact k _ H3 P3 (.bl false) sv2 r3 ((s1.trans s2).trans s3) rfl q3) q2) kx q1) kx q
theorem pd_chain {a b c : Expr} {op op' : CmpOp} {f1 f2 f3 : De} {r r' : R2} {g g' : G2} (ho : OpR X (compareOp op) r) (hr : SndR X.K r g) (ho' : OpR X (compareOp op') r') (hr' : SndR X.K r' g') (h1 : PD X W a f1) (h2 : PD X W b f2) (h3 : PD X W c f3)
    (hm : lastMarks [op, op'] [b, c] = false := by with_unfolding_all rfl) : PD X W (.Compare a [op, op'] [b, c] pos) (dChain g g' f1 f2 f3) := by
  obtain ⟨ta, p1, s1⟩ := h1
  obtain ⟨tb, p2, s2⟩ := h2
  obtain ⟨tc, p3, s3⟩ := h3
  exact ⟨_, pe_chain ho ho' p1 p2 p3 hm, snd_chain s1 s2 s3 hr hr'⟩

/-! ### and, or, not: values that are bools -/
@[simp] def dAndV (f g : De) : De := fun sv Q E => f sv (fun d sv1 => ∃ b, d = .bl b ∧ if b = true then g sv1 Q E else Q (.bl false) sv1) E
@[simp] def dOrV (f g : De) : De := fun sv Q E => f sv (fun d sv1 => ∃ b, d = .bl b ∧ if b = true then Q (.bl true) sv1 else g sv1 Q E) E
@[simp] def dNotV (f : De) : De := fun sv Q E => f sv (fun d sv1 => ∃ b, d = .bl b ∧ Q (.bl (!b)) sv1) E
theorem pd_one {op} {a : Expr} {f : De} (h : PD X W a f) : PD X W (.BoolOp op [a] pos) f := by
  obtain ⟨t, p, s⟩ := h
  exact ⟨t, pe_one p, s⟩
theorem pd_and {a b : Expr} {rest : List Expr} {f g : De} (h1 : PD X W a f) (h2 : PD X W (.BoolOp .And (b :: rest) pos) g) : PD X W (.BoolOp .And (a :: b :: rest) pos) (dAndV f g) := by
  obtain ⟨ta, p1, s1⟩ := h1
  obtain ⟨tb, p2, s2⟩ := h2
  refine ⟨_, pe_and p1 p2, fun F P H σ sv Q E R re k kx q => s1 F P H σ sv _ E _ re (fun v H1 P1 d sv1 r1 s1' rv q1 => ?_) kx q⟩
  obtain ⟨b, rfl, q1⟩ := q1
  refine ⟨b, rv, ?_⟩
  cases b with
  | true => exact s2 F P1 H1 σ sv1 Q E R r1 (fun v' H2 P2 d' sv2 r2 s2' rv' q2 => k v' H2 P2 d' sv2 r2 (s1'.trans s2') rv' q2) kx q1
  | false => exact k _ H1 P1 (.bl false) sv1 r1 s1' rfl q1
theorem pd_or {a b : Expr} {rest : List Expr} {f g : De} (h1 : PD X W a f) (h2 : PD X W (.BoolOp .Or (b :: rest) pos) g) : PD X W (.BoolOp .Or (a :: b :: rest) pos) (dOrV f g) := by
  obtain ⟨ta, p1, s1⟩ := h1
  obtain ⟨tb, p2, s2⟩ := h2
  refine ⟨_, pe_or p1 p2, fun F P H σ sv Q E R re k kx q => s1 F P H σ sv _ E _ re (fun v H1 P1 d sv1 r1 s1' rv q1 => ?_) kx q⟩
  obtain ⟨b, rfl, q1⟩ := q1
  refine ⟨b, rv, ?_⟩
  cases b with
  | true => exact k _ H1 P1 (.bl true) sv1 r1 s1' rfl q1
  | false => exact s2 F P1 H1 σ sv1 Q E R r1 (fun v' H2 P2 d' sv2 r2 s2' rv' q2 => k v' H2 P2 d' sv2 r2 (s1'.trans s2') rv' q2) kx q1
theorem pd_not {a : Expr} {f : De} (h1 : PD X W a f) : PD X W (.UnaryOp .Not a pos) (dNotV f) := by
  obtain ⟨ta, p1, s1⟩ := h1
  refine ⟨_, pe_not p1, fun F P H σ sv Q E R re k kx q => s1 F P H σ sv _ E _ re (fun v H1 P1 d sv1 r1 s1' rv q1 => ?_) kx q⟩
  obtain ⟨b, rfl, q1⟩ := q1
  exact ⟨b, rv, k _ H1 P1 (.bl (!b)) sv1 r1 s1' rfl q1⟩

/-! ### tests -/
theorem pdt_val {e : Expr} {f : De} (h : PD X W e f) (he : ∀ whole, isTrue e X.env whole = (do let v ← whole; standAt e.pos; holding [v] (truthy v)) := by intro _; rfl) : PDT X W e (dTest f) := by
  obtain ⟨t, p, s⟩ := h
  refine ⟨_, pt_val p he, fun F P H σ sv Q E R re k kx q => s F P H σ sv _ E _ re (fun v H1 P1 d sv1 r1 s1' rv q1 => ?_) kx q⟩
  obtain ⟨b, rfl, q1⟩ := q1
  exact ⟨b, rv, k b H1 P1 sv1 r1 s1' q1⟩
def PDW (X : Cx) (W : Wz) (e : Expr) (f : Dt) : Prop := ∃ t, PW X e t ∧ SndT X.K W t f
theorem pdt_w {e : Expr} {f : Dt} (h : PDW X W e f) : PDT X W e f := by
  obtain ⟨t, p, s⟩ := h
  exact ⟨t, p.pt, s⟩
@[simp] def dAnd (f g : Dt) : Dt := fun sv Q E => f sv (fun b sv1 => if b = true then g sv1 Q E else Q false sv1) E
@[simp] def dOr (f g : Dt) : Dt := fun sv Q E => f sv (fun b sv1 => if b = true then Q true sv1 else g sv1 Q E) E
@[simp] def dNot (f : Dt) : Dt := fun sv Q E => f sv (fun b sv1 => Q (!b) sv1) E
theorem pdw_and1 {a : Expr} {f : Dt} (h : PDT X W a f) : PDW X W (.BoolOp .And [a] pos) f := by
  obtain ⟨t, p, s⟩ := h
  exact ⟨t, pw_and1 p, s⟩
theorem pdw_or1 {a : Expr} {f : Dt} (h : PDT X W a f) : PDW X W (.BoolOp .Or [a] pos) f := by
  obtain ⟨t, p, s⟩ := h
  exact ⟨t, pw_or1 p, s⟩
theorem snd_and {K : PySem.W.Frag} {t u : TT} {f g : Dt} (s1 : SndT K W t f) (s2 : SndT K W u g) : SndT K W (tAnd t u) (dAnd f g) := fun F P H σ sv Q E R re k kx q => s1 F P H σ sv _ E _ re (fun b H1 P1 sv1 r1 s1' q1 => by
  cases b with
  | true => exact s2 F P1 H1 σ sv1 Q E R r1 (fun b' H2 P2 sv2 r2 s2' q2 => k b' H2 P2 sv2 r2 (s1'.trans s2') q2) kx q1
  | false => exact k false H1 P1 sv1 r1 s1' q1) kx q
theorem snd_or {K : PySem.W.Frag} {t u : TT} {f g : Dt} (s1 : SndT K W t f) (s2 : SndT K W u g) : SndT K W (tOr t u) (dOr f g) := fun F P H σ sv Q E R re k kx q => s1 F P H σ sv _ E _ re (fun b H1 P1 sv1 r1 s1' q1 => by
  cases b with
  | true => exact k true H1 P1 sv1 r1 s1' q1
  | false => exact s2 F P1 H1 σ sv1 Q E R r1 (fun b' H2 P2 sv2 r2 s2' q2 => k b' H2 P2 sv2 r2 (s1'.trans s2') q2) kx q1) kx q
theorem pdw_and {a b : Expr} {rest : List Expr} {f g : Dt} (h1 : PDT X W a f) (h2 : PDW X W (.BoolOp .And (b :: rest) pos) g) : PDW X W (.BoolOp .And (a :: b :: rest) pos) (dAnd f g) := by
  obtain ⟨ta, p1, s1⟩ := h1
  obtain ⟨tb, p2, s2⟩ := h2
  exact ⟨_, pw_and p1 p2, snd_and s1 s2⟩
theorem pdw_or {a b : Expr} {rest : List Expr} {f g : Dt} (h1 : PDT X W a f) (h2 : PDW X W (.BoolOp .Or (b :: rest) pos) g) : PDW X W (.BoolOp .Or (a :: b :: rest) pos) (dOr f g) := by
  obtain ⟨ta, p1, s1⟩ := h1
  obtain ⟨tb, p2, s2⟩ := h2
  exact ⟨_, pw_or p1 p2, snd_or s1 s2⟩
theorem pdt_not {a : Expr} {f : Dt} (h1 : PDT X W a f) : PDT X W (.UnaryOp .Not a pos) (dNot f) := by
  obtain ⟨ta, p1, s1⟩ := h1
  exact ⟨_, pt_not p1, fun F P H σ sv Q E R re k kx q => s1 F P H σ sv _ E _ re (fun b H1 P1 sv1 r1 s1' q1 => k (!b) H1 P1 sv1 r1 s1' q1) kx q⟩
/-- the truth of data: a bool, a list, a tuple, an int, a text, None -/
@[simp] def D.tru : D → Option Bool
  | .non => some false
  | .bl b => some b
  | .int i => some (i != 0)
  | .str x => if x.length ≤ sizeLine then some ((x.length : Int) != 0) else none
  | .lst ds => some (!ds.isEmpty)
  | .tup ds => some (!ds.isEmpty)
  | _ => none
@[simp] def dTru (f : De) : Dt := fun sv Q E => f sv (fun d sv' => ∃ b, d.tru = some b ∧ Q b sv') E
theorem isEmptyL {K : PySem.W.Frag} {P : Hp} {ds : List D} {vs : List V} (h : RpL K P ds vs) : vs.isEmpty = ds.isEmpty := by
  cases ds with
  | nil => cases h; rfl
  | cons d ds => obtain ⟨v, r, rfl, _⟩ := h; rfl
theorem tru_v {K : PySem.W.Frag} {H : Hp} {d : D} {v : V} {b : Bool} (h : Rp K H d v) (e : d.tru = some b) : TruV K v H b := by
  cases d with
  | non => cases h; cases e; rfl
  | bl b => cases h; cases e; rfl
  | int i => cases h; cases e; rfl
  | str x =>
    cases h
    have e2 : (if x.length ≤ sizeLine then some ((x.length : Int) != 0) else none) = some b := e
    by_cases hx : x.length ≤ sizeLine
    · rw [if_pos hx] at e2
      cases e2
      exact ⟨hx, rfl⟩
    · rw [if_neg hx] at e2
      cases e2
  | lst ds =>
    obtain ⟨a, xs, rfl, h1, h2⟩ := h
    cases e
    exact .inl ⟨xs, SqL.of h1, by rw [isEmptyL h2]⟩
  | tup ds =>
    obtain ⟨a, xs, rfl, h1, h2⟩ := h
    cases e
    exact .inr (.inl ⟨xs, h1, by rw [isEmptyL h2]⟩)
  | _ => cases e
theorem pdt_tru {e : Expr} {f : De} (h : PD X W e f) (he : ∀ whole, isTrue e X.env whole = (do let v ← whole; standAt e.pos; holding [v] (truthy v)) := by intro _; rfl) : PDT X W e (dTru f) := by
  obtain ⟨t, p, s⟩ := h
  refine ⟨_, pt_truth p he, fun F P H σ sv Q E R re k kx q => s F P H σ sv _ E _ re (fun v H1 P1 d sv1 r1 s1' rv q1 => ?_) kx q⟩
  obtain ⟨b, e1, q1⟩ := q1
  exact ⟨b, tru_v (Rp.mono r1.sub d v rv) e1, k b H1 P1 sv1 r1 s1' q1⟩

/-! ### a if c else b -/
@[simp] def dIf (c : Dt) (f g : De) : De := fun sv Q E => c sv (fun b sv1 => if b = true then f sv1 Q E else g sv1 Q E) E
theorem pd_if {c a b : Expr} {fc : Dt} {f g : De} (hc : PDT X W c fc) (h1 : PD X W a f) (h2 : PD X W b g) : PD X W (.IfExp c a b pos) (dIf fc f g) := by
  obtain ⟨tc, pc, sc⟩ := hc
  obtain ⟨ta, p1, s1⟩ := h1
  obtain ⟨tb, p2, s2⟩ := h2
  refine ⟨_, pe_ifExp pc p1 p2, fun F P H σ sv Q E R re k kx q => sc F P H σ sv _ E _ re (fun c H1 P1 sv1 r1 s1' q1 => ?_) kx q⟩
  cases c with
  | true => exact s1 F P1 H1 σ sv1 Q E R r1 (fun v' H2 P2 d' sv2 r2 s2' rv' q2 => k v' H2 P2 d' sv2 r2 (s1'.trans s2') rv' q2) kx q1
  | false => exact s2 F P1 H1 σ sv1 Q E R r1 (fun v' H2 P2 d' sv2 r2 s2' rv' q2 => k v' H2 P2 d' sv2 r2 (s1'.trans s2') rv' q2) kx q1

/-! ### items and slices -/
theorem atI_rel {K : PySem.W.Frag} {P : Hp} {ds : List D} {vs : List V} {i : Int} {z : D} (h : RpL K P ds vs) (e : atI ds i = some z) : ∃ v, atI vs i = some v ∧ Rp K P z v := by
  unfold atI at e ⊢
  rw [h.length]
  cases q : ixN ds.length i with
  | none =>
    rw [q] at e
    cases e
  | some j =>
    rw [q] at e
    exact h.getD e
@[simp] def gIx : G2 := fun d e Q => match d, e with
  | .lst ds, .int i => ∃ z, atI ds i = some z ∧ Q z
  | .tup ds, .int i => ∃ z, atI ds i = some z ∧ Q z
  | .str s, .int i => s.length ≤ sizeLine ∧ ∃ c, atI s.cps.toList i = some c ∧ Q (.str ⟨#[c]⟩)
  | _, _ => False
theorem pd_ix {a b : Expr} {f g : De} (h1 : PD X W a f) (h2 : PD X W b g) (hs : PlainIx b := by exact fun _ _ => rfl) : PD X W (.Subscript a b pos) (dOp gIx f g) := by
  obtain ⟨ta, p1, s1⟩ := h1
  obtain ⟨tb, p2, s2⟩ := h2
  refine ⟨_, pe_ix (IxR.or ix_list (IxR.or ix_tup ix_str)) p1 p2 hs, snd_op s1 s2 fun F P H σ sv x y d e Q R re rx ry k q => ?_⟩
  cases d with
  | lst ds =>
    cases e with
    | int i =>
      obtain ⟨p, vs, rfl, e1, r1⟩ := rx
      obtain rfl := ry
      obtain ⟨z, ez, q⟩ := q
      obtain ⟨v, ev, rv⟩ := atI_rel r1 ez
      exact .inl ⟨p, vs, i, v, rfl, rfl, SqL.of (re.sub _ _ e1), ev, k v H P z re (Sub.refl P) rv q⟩
    | _ => exact q.elim
  | tup ds =>
    cases e with
    | int i =>
      obtain ⟨p, vs, rfl, e1, r1⟩ := rx
      obtain rfl := ry
      obtain ⟨z, ez, q⟩ := q
      obtain ⟨v, ev, rv⟩ := atI_rel r1 ez
      exact .inr (.inl ⟨p, vs, i, v, rfl, rfl, sub_t re.sub e1, ev, k v H P z re (Sub.refl P) rv q⟩)
    | _ => exact q.elim
  | str s =>
    cases e with
    | int i =>
      obtain rfl := rx
      obtain rfl := ry
      obtain ⟨hl, c, ec, q⟩ := q
      exact .inr (.inr ⟨s, i, c, rfl, rfl, hl, ec, k _ H P (.str ⟨#[c]⟩) re (Sub.refl P) rfl q⟩)
    | _ => exact q.elim
  | _ => exact q.elim
/-- a part of a slice -/
abbrev Do := Sv → (Option Int → Sv → Prop) → DX → Prop
def SndO (K : PySem.W.Frag) (W : Wz) (t : TO) (f : Do) : Prop := ∀ (F : Fr) (P H : Hp) (σ : L2.St) (sv : Sv) (Q : Option Int → Sv → Prop) (E : DX) (R : Option Int → Hp → Prop), Rel K (F.at W.z) P H σ sv →
  (∀ o H' P' sv', Rel K (F.at W.z) P' H' σ sv' → Sub P P' → Q o sv' → R o H') →
  (∀ cls dd H' P' x sv', Rel K (F.at W.z) P' H' σ sv' → XdRel K P' H' x cls dd → E x sv' → W cls dd σ H') → f sv Q E → t σ H R
def PDO (X : Cx) (W : Wz) (e : Option Expr) (f : Do) : Prop := ∃ t, PO X e t ∧ SndO X.K W t f
@[simp] def dNoPart : Do := fun sv Q _ => Q none sv
@[simp] def dPart (f : De) : Do := fun sv Q E => f sv (fun d sv1 => ∃ i, d = .int i ∧ Q (some i) sv1) E
theorem pdo_none : PDO X W none dNoPart := ⟨_, po_none, fun F P H σ sv Q E R re k kx q => k _ H P sv re (Sub.refl P) q⟩
theorem pdo_some {e : Expr} {f : De} (h : PD X W e f) : PDO X W (some e) (dPart f) := by
  obtain ⟨t, p, s⟩ := h
  refine ⟨_, po_some p, fun F P H σ sv Q E R re k kx q => s F P H σ sv _ E _ re (fun v H1 P1 d sv1 r1 s1' rv q1 => ?_) kx q⟩
  obtain ⟨i, rfl, q1⟩ := q1
  exact ⟨i, rv, k (some i) H1 P1 sv1 r1 s1' q1⟩
def cutD {α : Type} (xs : List α) (lo hi : Option Int) : List α := (xs.drop (HT.sIx xs.length 0 lo)).take (HT.sIx xs.length xs.length hi - HT.sIx xs.length 0 lo)
theorem cut_rel {K : PySem.W.Frag} {P : Hp} {ds : List D} {vs : List V} (lo hi : Option Int) (h : RpL K P ds vs) : RpL K P (cutD ds lo hi) (cutV vs lo hi) := by
  unfold cutD cutV
  rw [h.length]
  exact (h.drop _).take _
/-- xs[lo:hi] of a list: a new one -/
@[simp] def dSl (f : De) (lo hi : Do) : Dl := fun sv Q E => f sv (fun d sv1 => lo sv1 (fun l sv2 => hi sv2 (fun u sv3 => ∃ ds, d = .lst ds ∧ Q (cutD ds l u) sv3) E) E) E
theorem pdl_sl {e : Expr} {lo hi : Option Expr} {p2 : Pos} {f : De} {g h : Do} (h1 : PD X W e f) (h2 : PDO X W lo g) (h3 : PDO X W hi h) : PDL X W (.Subscript e (.Slice lo hi none p2) pos) (dSl f g h) := by
  obtain ⟨ta, p1, s1⟩ := h1
  obtain ⟨tb, p2, s2⟩ := h2
  obtain ⟨tc, p3, s3⟩ := h3
  refine ⟨_, pe_slice sl_list p1 p2 p3, fun F P H σ sv Q E R re k kx q => s1 F P H σ sv _ E _ re (fun v H1 P1 d sv1 r1 s1' rv q1 => s2 F P1 H1 σ sv1 _ E _ r1 (fun l H2 P2 sv2 r2 s2' q2 => s3 F P2 H2 σ sv2 _ E _ r2 (fun u H3 P3 sv3 r3 s3' q3 => ?_) kx q2) kx q1) kx q⟩
  obtain ⟨ds, rfl, q3⟩ := q3
  obtain ⟨a, vs, rfl, e1, rl⟩ := Rp.mono (s2'.trans s3') (.lst ds) v rv
  exact ⟨a, vs, rfl, SqL.of (r3.sub _ _ e1), fun p hp => k p _ _ _ sv3 (r3.layH hp) ((s1'.trans s2').trans s3') (r3.newL hp (cut_rel l u rl)) q3⟩

/-! ### o.f of an instance -/
def OkF (K : PySem.W.Frag) (C : Addr) (f : Str) : Prop := Cls K C ∧ NoAttr K C f
theorem lookup_zip {K : PySem.W.Frag} {P : Hp} {f : Str} : ∀ {ns : List Str} {ds : List D} {vs : List V} {z : D}, RpL K P ds vs → (ns.zip ds).lookup f = some z → ∃ v, (ns.zip vs).lookup f = some v ∧ Rp K P z v
  | [], ds, vs, z, _, e => by simp at e
  | n :: ns, [], vs, z, _, e => by simp at e
  | n :: ns, d :: ds, vs, z, h, e => by
    obtain ⟨v, r, rfl, h1, h2⟩ := h
    simp only [List.zip_cons_cons, List.lookup_cons] at e ⊢
    cases q : (f == n) with
    | true =>
      rw [q] at e
      cases e
      exact ⟨v, rfl, h1⟩
    | false =>
      rw [q] at e
      exact lookup_zip h2 e
@[simp] def gFld (K : PySem.W.Frag) (f : Str) (d : D) (Q : D → Prop) : Prop := match d with
  | .ins C ns ds => OkF K C f ∧ ∃ z, (ns.zip ds).lookup f = some z ∧ Q z
  | _ => False
@[simp] def dFld (K : PySem.W.Frag) (f : Str) (g : De) : De := fun sv Q E => g sv (fun d sv1 => gFld K f d fun z => Q z sv1) E
theorem pd_fld {e : Expr} {f : Str} {g : De} (h : PD X W e g) (hb : attributeBase e f X.env (eval e X.env) = eval e X.env := by rfl) : PD X W (.Attribute e f pos) (dFld X.K f g) := by
  obtain ⟨t, p, s⟩ := h
  refine ⟨_, pe_fld p hb, fun F P H σ sv Q E R re k kx q => s F P H σ sv _ E _ re (fun v H1 P1 d sv1 r1 s1' rv q1 => ?_) kx q⟩
  cases d with
  | ins C ns ds =>
    obtain ⟨⟨c, n⟩, z, ez, q1⟩ := q1
    obtain ⟨a, dx, vs, rfl, e1, _, rl⟩ := rv
    obtain ⟨w, ew, rw⟩ := lookup_zip rl ez
    exact ⟨a, C, dx, _, w, rfl, r1.sub _ _ e1, c, n, ew, k w H1 P1 z sv1 r1 s1' rw q1⟩
  | _ => exact q1.elim
end
end Pd
end
section
set_option autoImplicit false
set_option Elab.async false
set_option linter.all false
set_option autoImplicit false
set_option maxRecDepth 100000
set_option maxHeartbeats 1000000
/-! Pd4: built-ins by name, lists of one's own. -/
namespace Pd
open PySem PySem.Spec PyProof.Rows L2
section
variable {X : Cx} {W : Wz} {pos : Pos}

/-! ### calls of built-ins with data -/
abbrev G1 := List D → (D → Prop) → Prop
def SndC (K : PySem.W.Frag) (r : List V → Hp → VK → Prop) (g : G1) : Prop := ∀ (F : Fr) (P H : Hp) (σ : L2.St) (sv : Sv) (vs : List V) (ds : List D) (Q : D → Prop) (R : VK), Rel K F P H σ sv → RpL K P ds vs →
  (∀ v H' P' z, Rel K F P' H' σ sv → Sub P P' → Rp K P' z v → Q z → R v H') → g ds Q → r vs H R
@[simp] def dCB (g : G1) (fa : Da) : De := fun sv Q E => fa sv (fun as sv1 => ∃ ds, asD as = some ds ∧ g ds fun z => Q z sv1) E
theorem snd_cb {K : PySem.W.Frag} {ta : TA} {fa : Da} {r : List V → Hp → VK → Prop} {g : G1} (h1 : SndA K W ta fa) (hr : SndC K r g) : SndE K W (tCB r ta) (dCB g fa) := fun F P H σ sv Q E R re k kx q =>
  h1 F P H σ sv _ E _ re (fun vs H1 P1 as sv1 r1 s1 ra ⟨ds, e, q1⟩ => hr _ P1 H1 σ sv1 vs ds _ R r1 (asD_rel ra e) (fun v H2 P2 z r2 s2 rz q2 => k v H2 P2 z sv1 r2 (s1.trans s2) rz q2) q1) kx q
theorem pd_callB {x : Str} {p : Pos} {e : Expr} {es : List Expr} {fa : Da} {id : String} {r : List V → Hp → VK → Prop} {g : G1} (hc : CallR X (.builtin id) r) (hr : SndC X.K r g) (hv : bootBuiltins x = some (.builtin id)) (hg : Gl X x) (hm : X.mg x = none) (ha : PDA X W (e :: es) fa)
    (hn : x ≠ "__name__" := by decide) (hdb : (x == ("__debug__" : Str)) = false := by decide) (he : starEach (e :: es) X.env = (false, eval e X.env) :: starEach es X.env := by rfl) (hpl : (backTo pos (starEach es X.env)).any (·.1) = false := by rfl) :
    PD X W (.Call (.Name x p) (e :: es) [] pos) (dCB g fa) := by
  obtain ⟨ta, p1, s1⟩ := ha
  exact ⟨_, pe_callB hc hg hm hv p1 hn hdb he hpl, snd_cb s1 hr⟩
theorem pd_callTy {x : Str} {p : Pos} {e : Expr} {es : List Expr} {fa : Da} {T : String} {r : List V → Hp → VK → Prop} {g : G1} (hc : CallR X (.type T) r) (hr : SndC X.K r g) (hv : bootBuiltins x = some (.type T)) (hg : Gl X x) (hm : X.mg x = none) (ha : PDA X W (e :: es) fa)
    (hn : x ≠ "__name__" := by decide) (hdb : (x == ("__debug__" : Str)) = false := by decide) (he : starEach (e :: es) X.env = (false, eval e X.env) :: starEach es X.env := by rfl) (hpl : (backTo pos (starEach es X.env)).any (·.1) = false := by rfl) :
    PD X W (.Call (.Name x p) (e :: es) [] pos) (dCB g fa) := by
  obtain ⟨ta, p1, s1⟩ := ha
  exact ⟨_, pe_callTy hc hg hm hv p1 hn hdb he hpl, snd_cb s1 hr⟩

/-! len -/
@[simp] def len1 (d : D) (Q : D → Prop) : Prop := match d with
  | .lst xs => Q (.int xs.length)
  | .tup xs => Q (.int xs.length)
  | .str s => s.length ≤ sizeLine ∧ Q (.int s.length)
  | .scr ns => Q (.int ns.length)
  | _ => False
@[simp] def gLen : G1 := fun ds Q => ∃ d, ds = [d] ∧ len1 d Q
theorem snd_len {K : PySem.W.Frag} : SndC K (fun xs H Q => (∃ p ys, xs = [.ref p] ∧ (SqL K H p ys ∨ SqT K H p ys) ∧ Q (.int ys.length) H) ∨ ∃ z : Str, xs = [.str z] ∧ z.length ≤ sizeLine ∧ Q (.int z.length) H) gLen := fun F P H σ sv vs ds Q R re rv k q => by
  obtain ⟨d, rfl, q⟩ := q
  obtain ⟨v, r, rfl, rv, rfl⟩ := rv
  cases d with
  | lst xs =>
    obtain ⟨a, ys, rfl, e1, rl⟩ := rv
    refine .inl ⟨a, ys, rfl, .inl (SqL.of (re.sub _ _ e1)), ?_⟩
    rw [rl.length]
    exact k _ H P (.int xs.length) re (Sub.refl P) rfl q
  | tup xs =>
    obtain ⟨a, ys, rfl, e1, rl⟩ := rv
    refine .inl ⟨a, ys, rfl, .inr (sub_t re.sub e1), ?_⟩
    rw [rl.length]
    exact k _ H P (.int xs.length) re (Sub.refl P) rfl q
  | str s =>
    obtain rfl := rv
    exact .inr ⟨s, rfl, q.1, k _ H P (.int s.length) re (Sub.refl P) rfl q.2⟩
  | scr ns =>
    obtain ⟨a, rfl, e1⟩ := rv
    refine .inl ⟨a, _, rfl, .inl (sub_l re.sub e1), ?_⟩
    rw [List.length_map]
    exact k _ H P (.int ns.length) re (Sub.refl P) rfl q
  | _ => exact q.elim
theorem pd_len {p : Pos} {e : Expr} {fa : Da} (hg : Gl X "len") (hm : X.mg "len" = none) (ha : PDA X W [e] fa) (he : starEach [e] X.env = (false, eval e X.env) :: starEach [] X.env := by rfl) : PD X W (.Call (.Name "len" p) [e] [] pos) (dCB gLen fa) :=
  pd_callB (CallR.or call_len_seq call_len_str) snd_len PySem.boot_len hg hm ha (by decide) (by decide) he
/-- len of a name: a list of one's own stays one's own -/
@[simp] def dLenV (i : Nat) : De := fun sv Q E => match sv[i]? with
  | some (.own ds) => Q (.int ds.length) sv
  | _ => dCB gLen (dConsV i dNil) sv Q E
theorem pd_lenV {p p2 : Pos} {i : Nat} {x : Str} (hN : X.N[i]? = some x) (hv : Vis X.env.scope x) (hg : Gl X "len") (hm : X.mg "len" = none) (hd : (x == ("__debug__" : Str)) = false := by decide) (hcd : (x == ("__classdict__" : Str)) = false := by decide)
    (he : starEach [.Name x p2] X.env = (false, eval (.Name x p2) X.env) :: starEach [] X.env := by rfl) : PD X W (.Call (.Name "len" p) [.Name x p2] [] pos) (dLenV i) := by
  obtain ⟨ta, pa, sa⟩ := pda_var (W := W) hN hv pda_nil hd hcd he
  refine ⟨_, pe_callB (CallR.or call_len_seq call_len_str) hg hm PySem.boot_len (pa_cons (pe_var hN hv hd hcd) pa_nil he) (by decide) (by decide) he, fun F P H σ sv Q E R re k kx q => ?_⟩
  unfold dLenV at q
  have other : dCB gLen (dConsV i dNil) sv Q E → tCB _ (tCons (tVar i) tNil) σ H R := fun q' => by
    refine snd_cb (W := W) (ta := tCons (tVar i) tNil) ?_ snd_len F P H σ sv Q E R re k kx q'
    intro F P H σ sv Q E R r k kx q
    unfold dConsV at q
    cases e : sv[i]? with
    | none =>
      rw [e] at q
      exact snd_cons snd_var (fun F P H σ sv Q E R r k _ q => k [] H P [] sv r (Sub.refl P) rfl q) F P H σ sv Q E R r k kx q
    | some s =>
      rw [e] at q
      cases s with
      | bag n =>
        obtain ⟨o, ho, p', rfl, _⟩ := rel_get r e
        exact ⟨_, ho, k _ H P [.bag i] sv r (Sub.refl P) ⟨_, [], rfl, ho, rfl⟩ q⟩
      | un => exact snd_cons snd_var (fun F P H σ sv Q E R r k _ q => k [] H P [] sv r (Sub.refl P) rfl q) F P H σ sv Q E R r k kx q
      | dat d => exact snd_cons snd_var (fun F P H σ sv Q E R r k _ q => k [] H P [] sv r (Sub.refl P) rfl q) F P H σ sv Q E R r k kx q
      | own ds => exact snd_cons snd_var (fun F P H σ sv Q E R r k _ q => k [] H P [] sv r (Sub.refl P) rfl q) F P H σ sv Q E R r k kx q
      | slf C ns ds => exact snd_cons snd_var (fun F P H σ sv Q E R r k _ q => k [] H P [] sv r (Sub.refl P) rfl q) F P H σ sv Q E R r k kx q
      | exc x => exact snd_cons snd_var (fun F P H σ sv Q E R r k _ q => k [] H P [] sv r (Sub.refl P) rfl q) F P H σ sv Q E R r k kx q
  cases e : sv[i]? with
  | none =>
    rw [e] at q
    exact other q
  | some s =>
    rw [e] at q
    cases s with
    | un => exact other q
    | dat d => exact other q
    | bag n => exact other q
    | slf C ns ds => exact other q
    | exc x => exact other q
    | own ds =>
      obtain ⟨o, ho, p', vs, rfl, h1, h2, h3, h4⟩ := rel_get re e
      refine ⟨_, ho, .inl ⟨p', vs, rfl, .inl (SqL.of h1), ?_⟩⟩
      rw [h4.length]
      exact k _ H P (.int ds.length) sv re (Sub.refl P) rfl q
/-! list(x), tuple(x) -/
theorem boot_list'' : bootBuiltins "list" = some (.type "list") := by decide +kernel
theorem boot_tuple'' : bootBuiltins "tuple" = some (.type "tuple") := by decide +kernel
@[simp] def dListOf (fa : Da) : Dl := fun sv Q E => fa sv (fun as sv1 => ∃ d, as = [.dat d] ∧ ((∃ xs, d = .lst xs ∧ Q xs sv1) ∨ ∃ xs, d = .tup xs ∧ Q xs sv1)) E
theorem pdl_list {p : Pos} {e : Expr} {fa : Da} (hg : Gl X "list") (hm : X.mg "list" = none) (ha : PDA X W [e] fa) (he : starEach [e] X.env = (false, eval e X.env) :: starEach [] X.env := by rfl) : PDL X W (.Call (.Name "list" p) [e] [] pos) (dListOf fa) := by
  obtain ⟨ta, p1, s1⟩ := ha
  refine ⟨_, pe_callTy call_list_of hg hm boot_list'' p1 (by decide) (by decide) he, fun F P H σ sv Q E R re k kx q => s1 F P H σ sv _ E _ re (fun vs H1 P1 as sv1 r1 s1' ra q1 => ?_) kx q⟩
  obtain ⟨d, rfl, q1⟩ := q1
  obtain ⟨v, r, rfl, rv, rfl⟩ := ra
  rcases q1 with ⟨xs, rfl, q1⟩ | ⟨xs, rfl, q1⟩
  · obtain ⟨a, ys, rfl, e1, rl⟩ := rv
    exact ⟨a, ys, rfl, .inl (SqL.of (r1.sub _ _ e1)), fun l hl => k l _ _ xs sv1 (r1.layH hl) s1' (r1.newL hl rl) q1⟩
  · obtain ⟨a, ys, rfl, e1, rl⟩ := rv
    exact ⟨a, ys, rfl, .inr (sub_t r1.sub e1), fun l hl => k l _ _ xs sv1 (r1.layH hl) s1' (r1.newL hl rl) q1⟩
@[simp] def tuple1 (d : D) (Q : D → Prop) : Prop := match d with
  | .lst xs => Q (.tup xs)
  | .tup xs => Q (.tup xs)
  | _ => False
@[simp] def gTuple : G1 := fun ds Q => ∃ d, ds = [d] ∧ tuple1 d Q
theorem snd_tuple {K : PySem.W.Frag} : SndC K (fun xs H Q => ∃ p ys, xs = [.ref p] ∧ ((SqL K H p ys ∧ ∀ l, H l = none → Q (.ref l) (upd H l (.tup ys))) ∨ (SqT K H p ys ∧ Q (.ref p) H))) gTuple := fun F P H σ sv vs ds Q R re rv k q => by
  obtain ⟨d, rfl, q⟩ := q
  obtain ⟨v, r, rfl, rv, rfl⟩ := rv
  cases d with
  | lst xs =>
    obtain ⟨a, ys, rfl, e1, rl⟩ := rv
    refine ⟨a, ys, rfl, .inl ⟨SqL.of (re.sub _ _ e1), fun l hl => ?_⟩⟩
    have f3 := re.free hl
    exact k _ _ _ (.tup xs) (re.lay hl) (sub_upd f3) ⟨l, ys, rfl, .inl (.inl upd_same), RpL.mono (sub_upd f3) _ _ rl⟩ q
  | tup xs =>
    obtain ⟨a, ys, rfl, e1, rl⟩ := rv
    exact ⟨a, ys, rfl, .inr ⟨sub_t re.sub e1, k _ H P (.tup xs) re (Sub.refl P) ⟨a, ys, rfl, e1, rl⟩ q⟩⟩
  | _ => exact q.elim
theorem pd_tuple {p : Pos} {e : Expr} {fa : Da} (hg : Gl X "tuple") (hm : X.mg "tuple" = none) (ha : PDA X W [e] fa) (he : starEach [e] X.env = (false, eval e X.env) :: starEach [] X.env := by rfl) : PD X W (.Call (.Name "tuple" p) [e] [] pos) (dCB gTuple fa) :=
  pd_callTy call_tuple_of snd_tuple boot_tuple'' hg hm ha (by decide) (by decide) he
/-! all, any of a list of bools -/
@[simp] def asB : List D → Option (List Bool)
  | [] => some []
  | .bl b :: ds => (asB ds).map (b :: ·)
  | _ => none
theorem asB_rel {K : PySem.W.Frag} {P : Hp} : ∀ {ds : List D} {vs : List V} {bs : List Bool}, RpL K P ds vs → asB ds = some bs → vs = bs.map V.bl
  | [], _, _, h, e => by
    cases e
    exact h
  | d :: ds, _, _, h, e => by
    obtain ⟨v, r, rfl, h1, h2⟩ := h
    cases d with
    | bl b =>
      simp only [asB, Option.map_eq_some_iff] at e
      obtain ⟨bs, e1, rfl⟩ := e
      obtain rfl := h1
      rw [asB_rel h2 e1]
      rfl
    | _ => cases e
@[simp] def gAll : G1 := fun ds Q => ∃ xs, ds = [.lst xs] ∧ ∃ bs, asB xs = some bs ∧ Q (.bl (bs.all id))
@[simp] def gAny : G1 := fun ds Q => ∃ xs, ds = [.lst xs] ∧ ∃ bs, asB xs = some bs ∧ Q (.bl (bs.any id))
theorem snd_all {K : PySem.W.Frag} : SndC K (rAll K) gAll := fun F P H σ sv vs ds Q R re rv k q => by
  obtain ⟨xs, rfl, bs, eb, q⟩ := q
  obtain ⟨v, r, rfl, ⟨a, ys, rfl, e1, rl⟩, rfl⟩ := rv
  obtain rfl := asB_rel rl eb
  exact ⟨a, bs, rfl, SqL.of (re.sub _ _ e1), k _ H P (.bl _) re (Sub.refl P) rfl q⟩
theorem snd_any {K : PySem.W.Frag} : SndC K (rAny K) gAny := fun F P H σ sv vs ds Q R re rv k q => by
  obtain ⟨xs, rfl, bs, eb, q⟩ := q
  obtain ⟨v, r, rfl, ⟨a, ys, rfl, e1, rl⟩, rfl⟩ := rv
  obtain rfl := asB_rel rl eb
  exact ⟨a, bs, rfl, SqL.of (re.sub _ _ e1), k _ H P (.bl _) re (Sub.refl P) rfl q⟩
theorem boot_any' : bootBuiltins "any" = some (.builtin "any") := by decide +kernel
theorem boot_all' : bootBuiltins "all" = some (.builtin "all") := by decide +kernel
theorem pd_all {p : Pos} {e : Expr} {fa : Da} (hc : X.calm = true) (hg : Gl X "all") (hm : X.mg "all" = none) (ha : PDA X W [e] fa) (he : starEach [e] X.env = (false, eval e X.env) :: starEach [] X.env := by rfl) : PD X W (.Call (.Name "all" p) [e] [] pos) (dCB gAll fa) :=
  pd_callB (cr_all hc) snd_all boot_all' hg hm ha (by decide) (by decide) he
theorem pd_any {p : Pos} {e : Expr} {fa : Da} (hc : X.calm = true) (hg : Gl X "any") (hm : X.mg "any" = none) (ha : PDA X W [e] fa) (he : starEach [e] X.env = (false, eval e X.env) :: starEach [] X.env := by rfl) : PD X W (.Call (.Name "any" p) [e] [] pos) (dCB gAny fa) :=
  pd_callB (cr_any hc) snd_any boot_any' hg hm ha (by decide) (by decide) he
/-! repr -/
def rRepr (K : PySem.W.Frag) : List V → Hp → VK → Prop := fun xs H Q => ∃ v d, xs = [v] ∧ Dp K H v d ∧ d.plain = true ∧ d.showable = true ∧ d.depth ≤ 60 ∧ d.shown.length ≤ sizeLine ∧ Q (.str d.shown) H
theorem nodict_of_plain : ∀ d : PyData, d.plain = true → d.hasDict = false := by
  intro d
  exact plain_rec d
where
  plain_rec : ∀ d : PyData, d.plain = true → d.hasDict = false
    | .none, _ => by simp [PyData.hasDict]
    | .bool _, _ => by simp [PyData.hasDict]
    | .int _, _ => by simp [PyData.hasDict]
    | .str _, _ => by simp [PyData.hasDict]
    | .list xs, h => by
      simp only [PyData.hasDict]
      exact plainAll_rec xs h
    | .tuple xs, h => by
      simp only [PyData.hasDict]
      exact plainAll_rec xs h
    | .dict _, h => by cases h
  plainAll_rec : ∀ xs : List PyData, PyData.plainAll xs = true → PyData.hasDictAll xs = false
    | [], _ => by simp [PyData.hasDictAll]
    | d :: ds, h => by
      simp only [PyData.plainAll, Bool.and_eq_true] at h
      simp only [PyData.hasDictAll, plain_rec d h.1, plainAll_rec ds h.2, Bool.or_false]
theorem call_repr (hG : X.A.guards = some []) (hu : X.A.units + 64 < cLine) : CallR X (.builtin "repr") (rRepr X.K) := by
  intro pins s σ H xs us Q I r h
  obtain ⟨v, d, rfl, hd, hp, hs, hdp, hz, q⟩ := h
  obtain ⟨u, rfl, ru⟩ := vals1 r
  obtain ⟨as, rd⟩ := Dp.reads I d v u hd ru
  cases d with
  | none =>
    cases rd
    exact PySem.P.repr_of_none ⟨.str _, H, I.tok _, ⟨_, rfl⟩, q⟩
  | bool b =>
    cases rd
    exact PySem.P.repr_of_bool ⟨.str _, H, I.tok _, ⟨_, rfl⟩, q⟩
  | int i =>
    cases rd
    exact PySem.P.repr_of_int (of_decide_eq_true (show decide (i.natAbs.log2 < 1920) = true from by simpa [PyData.showable] using hs)) ⟨.str _, H, I.tok _, ⟨_, rfl⟩, q⟩
  | str x =>
    cases rd
    exact PySem.P.repr_of_str ⟨.str _, H, I.tok _, ⟨_, rfl⟩, q⟩ hz
  | list ds =>
    cases rd with
    | list h1 h2 h3 h4 => exact PySem.repr_of_reads' (.list h1 h2 h3 h4) hs (fun z => by rw [nodict_of_plain _ hp] at z; cases z) hG (by omega) (fun _ _ e => e) (fun h' u tk hk => ⟨.str _, H, I.kept (t' := tk) hk, ⟨_, rfl⟩, q⟩) hz
  | tuple ds =>
    cases rd with
    | tuple h1 h2 h3 h4 => exact PySem.repr_of_reads' (.tuple h1 h2 h3 h4) hs (fun z => by rw [nodict_of_plain _ hp] at z; cases z) hG (by omega) (fun _ _ e => e) (fun h' u tk hk => ⟨.str _, H, I.kept (t' := tk) hk, ⟨_, rfl⟩, q⟩) hz
  | dict kvs => cases hp
/-- a text that can be shown -/
structure Shows (p : PyData) : Prop where
  s : p.showable = true
  d : p.depth ≤ 60
  z : p.shown.length ≤ sizeLine
@[simp] def gRepr : G1 := fun ds Q => ∃ d, ds = [d] ∧ ∃ p, d.py = some p ∧ Shows p ∧ Q (.str p.shown)
theorem snd_repr {K : PySem.W.Frag} : SndC K (rRepr K) gRepr := fun F P H σ sv vs ds Q R re rv k q => by
  obtain ⟨d, rfl, p, e, hs, q⟩ := q
  obtain ⟨v, r, rfl, h1, rfl⟩ := rv
  exact ⟨v, p, rfl, Rp.dp d p v e (Rp.mono re.sub d v h1), D.py_plain d p e, hs.s, hs.d, hs.z, k _ H P (.str _) re (Sub.refl P) rfl q⟩
theorem boot_repr' : bootBuiltins "repr" = some (.builtin "repr") := by decide +kernel
theorem pd_repr {p : Pos} {e : Expr} {fa : Da} (hG : X.A.guards = some []) (hu : X.A.units + 64 < cLine) (hg : Gl X "repr") (hm : X.mg "repr" = none) (ha : PDA X W [e] fa) (he : starEach [e] X.env = (false, eval e X.env) :: starEach [] X.env := by rfl) :
    PD X W (.Call (.Name "repr" p) [e] [] pos) (dCB gRepr fa) := pd_callB (call_repr hG hu) snd_repr boot_repr' hg hm ha (by decide) (by decide) he
/-! isinstance -/
/-- what the top says of a class whose instances are asked -/
structure InsTy (K : PySem.W.Frag) (C : Addr) : Prop where
  cl : Cls K C
  ha : PySem.W.findIn K (.ref C) "__class__" = some (some (.builtin "object.__class__"))
  hn : PySem.W.specialIn K (.builtin "object.__class__") "__get__" = some (some (.builtin "getset_descriptor.__get__"))
  htk : PySem.W.takesIn K (.builtin "object.__class__") = some true
  hm : PySem.W.mroIn K C (.type "object") = some true
@[simp] def D.ty : D → Value
  | .non => .type "NoneType"
  | .bl _ => .type "bool"
  | .int _ => .type "int"
  | .str _ => .type "str"
  | .lst _ => .type "list"
  | .tup _ => .type "tuple"
  | .dk _ _ => .type "dict"
  | .dt _ _ => .type "dict"
  | .scr _ => .type "list"
  | .ins C _ _ => .ref C
@[simp] def D.okTy (K : PySem.W.Frag) : D → Prop
  | .ins C _ _ => InsTy K C
  | .scr _ => False
  | _ => True
@[simp] def gIsi (K : PySem.W.Frag) (c : Value) (d : D) (Q : D → Prop) : Prop := D.okTy K d ∧ ∃ b, PySem.W.kitOne K d.ty c = some b ∧ Q (.bl b)
theorem tyx_of {K : PySem.W.Frag} {H : Hp} {d : D} {v : V} (h : Rp K H d v) (o : D.okTy K d) : TyX K H v d.ty := by
  cases d with
  | non => cases h; exact .base .non
  | bl b => cases h; exact .base (.bl b)
  | int i => cases h; exact .base (.int i)
  | str x => cases h; exact .base (.str x)
  | lst ds =>
    obtain ⟨a, xs, rfl, h1, _⟩ := h
    exact .base (.lst h1)
  | tup ds =>
    obtain ⟨a, xs, rfl, h1, _⟩ := h
    rcases h1 with (h1 | ⟨o, h1⟩) | h1
    · exact .base (.tup h1)
    · exact .fTuple h1
    · obtain ⟨o, its, n, e1, e2, e3, e4⟩ := h1
      exact .kTuple e1 e2
  | dk ks ds =>
    obtain ⟨a, xs, rfl, h1, _⟩ := h
    exact .base (.dK h1)
  | scr ns => exact o.elim
  | dt ks ds =>
    obtain ⟨a, xs, rfl, h1, _⟩ := h
    exact .base (.dT h1)
  | ins C ns ds =>
    obtain ⟨a, dx, xs, rfl, h1, _⟩ := h
    exact .base (.ins h1 o.cl o.ha o.hn o.htk o.hm)
@[simp] def dIsi (K : PySem.W.Frag) (c : Value) (f : De) : De := fun sv Q E => f sv (fun d sv1 => gIsi K c d fun z => Q z sv1) E
theorem boot_isi' : bootBuiltins "isinstance" = some (.builtin "isinstance") := by decide +kernel
theorem pd_isi {p : Pos} {e ce : Expr} {f : De} {cv : V} {c : Value} (hcv : ClsV cv c) (hce : PE X ce (tC cv)) (hg : Gl X "isinstance") (hm : X.mg "isinstance" = none) (h : PD X W e f)
    (he : starEach [e, ce] X.env = (false, eval e X.env) :: starEach [ce] X.env := by rfl) (he2 : starEach [ce] X.env = (false, eval ce X.env) :: starEach [] X.env := by rfl) (hpl : (backTo pos (starEach [ce] X.env)).any (·.1) = false := by rfl) :
    PD X W (.Call (.Name "isinstance" p) [e, ce] [] pos) (dIsi X.K c f) := by
  obtain ⟨t, p1, s1⟩ := h
  refine ⟨_, pe_callB call_isi hg hm boot_isi' (pa_cons p1 (pa_cons hce pa_nil he2) he) (by decide) (by decide) he hpl, fun F P H σ sv Q E R re k kx q => s1 F P H σ sv _ E _ re (fun v H1 P1 d sv1 r1 s1' rv q1 => ?_) kx q⟩
  obtain ⟨o, b, e1, q1⟩ := q1
  exact ⟨v, cv, _, c, b, rfl, hcv, tyx_of (Rp.mono r1.sub d v rv) o, e1, k _ H1 P1 (.bl b) sv1 r1 s1' rfl q1⟩
theorem pd_isiT {p p2 : Pos} {e : Expr} {f : De} {x : Str} {T : String} (hv : bootBuiltins x = some (.type T)) (hx : Gl X x) (hxm : X.mg x = none) (hg : Gl X "isinstance") (hm : X.mg "isinstance" = none) (h : PD X W e f)
    (hn : x ≠ "__name__" := by decide) (hdb : (x == ("__debug__" : Str)) = false := by decide)
    (he : starEach [e, .Name x p2] X.env = (false, eval e X.env) :: starEach [.Name x p2] X.env := by rfl) (he2 : starEach [.Name x p2] X.env = (false, eval (.Name x p2) X.env) :: starEach [] X.env := by rfl) (hpl : (backTo pos (starEach [.Name x p2] X.env)).any (·.1) = false := by rfl) :
    PD X W (.Call (.Name "isinstance" p) [e, .Name x p2] [] pos) (dIsi X.K (.type T) f) := pd_isi (.ty T) (pe_bltn (v := .ty T) hx hxm hv rfl hn hdb) hg hm h he he2 hpl
theorem pd_isiC {p p2 : Pos} {e : Expr} {f : De} {x : Str} {C : Addr} (hxm : X.mg x = some (.ref C)) (hx : Gl X x) (hg : Gl X "isinstance") (hm : X.mg "isinstance" = none) (h : PD X W e f)
    (hdb : (x == ("__debug__" : Str)) = false := by decide)
    (he : starEach [e, .Name x p2] X.env = (false, eval e X.env) :: starEach [.Name x p2] X.env := by rfl) (he2 : starEach [.Name x p2] X.env = (false, eval (.Name x p2) X.env) :: starEach [] X.env := by rfl) (hpl : (backTo pos (starEach [.Name x p2] X.env)).any (·.1) = false := by rfl) :
    PD X W (.Call (.Name "isinstance" p) [e, .Name x p2] [] pos) (dIsi X.K (.ref C) f) := pd_isi (.own C) (pe_glob (v := .ref C) hx hxm rfl hdb) hg hm h he he2 hpl
end

/-! ### a list of one's own -/
section
variable {K : PySem.W.Frag} {F : Fr} {P H : Hp} {σ : L2.St} {sv : Sv} {i : Nat} {ds : List D} {W : Wz}
theorem Rel.setOwn (r : Rel K F P H σ sv) (h : sv[i]? = some (.own ds)) {p : Addr} (hp : σ[i]? = some (some (.ref p))) {es : List D} {ws : List V} (rv : RpL K P es ws) : Rel K F P (upd H p (.lst ws)) σ (sv.set i (.own es)) := by
  obtain ⟨o, ho, p', vs, eo, h1, h2, h3, h4⟩ := rel_get r h
  rw [hp] at ho
  cases ho
  cases eo
  have hi : i < sv.length := (List.getElem?_eq_some_iff.mp h).1
  have nb : ∀ a, F.B0 a → a ≠ p := fun a hb e => by
    obtain ⟨_, ⟨u, hu⟩, _⟩ := r.bags a hb
    rw [e, h3] at hu
    cases hu
  refine ⟨by rw [List.length_set]; exact r.len, r.lim, fun a u e => ?_, r.p0, r.new, fun a u e nb ns => ?_, fun a hs => ?_, fun a hb => ?_, fun j s u e1 e2 => ?_, fun j k s t u w q ne e1 e2 a1 a2 s1 s2 eu ew => ?_, fun q xs hq => ?_⟩
  · have ne : a ≠ p := fun z => by
      rw [z, h2] at e
      cases e
    rw [upd_ne ne]
    exact r.sub a u e
  · have ne : a ≠ p := fun z => by
      rw [z, h3] at e
      cases e
    rw [upd_ne ne]
    exact r.ext a u e nb ns
  · obtain ⟨z1, ⟨u, hu⟩, C, dx, fs, z3⟩ := r.selfs a hs
    have ne : a ≠ p := fun z => by
      rw [z, h3] at hu
      cases hu
    exact ⟨z1, ⟨u, hu⟩, C, dx, fs, by rw [upd_ne ne]; exact z3⟩
  · obtain ⟨z1, z2, x, y, z, z3, z4⟩ := r.bags a hb
    exact ⟨z1, z2, x, y, z, by rw [upd_ne (nb a hb)]; exact z3, z4⟩
  · by_cases hj : j = i
    · subst hj
      rw [List.getElem?_set_self hi] at e1
      cases e1
      rw [hp] at e2
      cases e2
      exact ⟨p, ws, rfl, upd_same, h2, h3, rv⟩
    · rw [List.getElem?_set_ne (Ne.symm hj)] at e1
      have q := r.sl j s u e1 e2
      cases s with
      | un => trivial
      | dat d => exact q
      | own es =>
        obtain ⟨q', xs, e, z1, z⟩ := q
        have ne : q' ≠ p := fun z => by
          subst z e
          exact r.apart j i _ _ _ _ q' hj e1 h rfl rfl e2 hp rfl rfl
        exact ⟨q', xs, e, by rw [upd_ne ne]; exact z1, z⟩
      | bag n =>
        obtain ⟨q', e, z1, z2, x, y, z, z3, z4⟩ := q
        have ne : q' ≠ p := fun z => by
          subst z e
          exact r.apart j i _ _ _ _ q' hj e1 h rfl rfl e2 hp rfl rfl
        exact ⟨q', e, z1, z2, x, y, z, by rw [upd_ne ne]; exact z3, z4⟩
      | slf C ns es =>
        obtain ⟨q', dx, xs, e, z1, z⟩ := q
        have ne : q' ≠ p := fun z => by
          subst z e
          exact r.apart j i _ _ _ _ q' hj e1 h rfl rfl e2 hp rfl rfl
        exact ⟨q', dx, xs, e, by rw [upd_ne ne]; exact z1, z⟩
      | exc x => exact q
  · have back : ∀ {m : Nat} {z : Sl}, (sv.set i (.own es))[m]? = some z → z.addr = true → ∃ z', sv[m]? = some z' ∧ z'.addr = true := fun {m z} em az => by
      by_cases hm : m = i
      · subst hm
        exact ⟨_, h, rfl⟩
      · rw [List.getElem?_set_ne (Ne.symm hm)] at em
        exact ⟨z, em, az⟩
    obtain ⟨s', b1, c1⟩ := back e1 a1
    obtain ⟨t', b2, c2⟩ := back e2 a2
    exact r.apart j k s' t' u w q ne b1 b2 c1 c2 s1 s2 eu ew
  · obtain ⟨z1, z2, z3, z4⟩ := r.kept q xs hq
    have ne : q ≠ p := fun z => by
      subst z
      exact z4 i _ h rfl hp
    refine ⟨by rw [upd_ne ne]; exact z1, z2, z3, fun m s e1 a1 => ?_⟩
    by_cases hm : m = i
    · subst hm
      exact z4 m _ h rfl
    · rw [List.getElem?_set_ne (Ne.symm hm)] at e1
      exact z4 m s e1 a1
/-- xs.append(e), xs in slot i -/
@[simp] def dAppend (i : Nat) (fa : Da) : De := fun sv Q E => ∃ ds, sv[i]? = some (.own ds) ∧ fa sv (fun as sv' => ∃ d ds', as = [.dat d] ∧ sv'[i]? = some (.own ds') ∧ ds'.length < 100000 ∧ Q .non (sv'.set i (.own (ds' ++ [d])))) E
theorem snd_append {ta : TA} {fa : Da} (h : SndA K W ta fa) : SndE K W (tBM K "list" rAppend (tVar i) ta) (dAppend i fa) := fun F P H σ sv Q E R re k kx q => by
  obtain ⟨ds, e, q⟩ := q
  obtain ⟨o, ho, p, vs, rfl, h1, h2, h3, h4⟩ := rel_get re e
  refine ⟨_, ho, .inl ⟨rfl, _, SqL.of h1⟩, h F P H σ sv _ E _ re (fun ws H1 P1 as sv1 r1 s1 ra q1 => ?_) kx q⟩
  obtain ⟨d, ds', rfl, e', hl, q1⟩ := q1
  obtain ⟨v, r, rfl, rv, rfl⟩ := ra
  obtain ⟨o', ho', p', vs', eo, g1, g2, g3, g4⟩ := rel_get r1 e'
  rw [ho] at ho'
  cases ho'
  cases eo
  refine ⟨p, vs', v, rfl, rfl, g1, Nat.lt_of_lt_of_le (by rw [g4.length]; exact hl) (by decide), ?_⟩
  exact k _ _ P1 .non _ (r1.setOwn e' ho (g4.append (show RpL K P1 [d] [v] from ⟨v, [], rfl, rv, rfl⟩))) s1 rfl q1
/-- xs.pop(k), xs in slot i -/
@[simp] def dPopAt (i : Nat) (fa : Da) : De := fun sv Q E => ∃ ds, sv[i]? = some (.own ds) ∧ fa sv (fun as sv' => ∃ j ds' n z, as = [.dat (.int j)] ∧ sv'[i]? = some (.own ds') ∧ -(2 ^ 63) ≤ j ∧ j < 2 ^ 63 ∧ seqIndex? j ds'.length = some n ∧ ds'[n]? = some z ∧ Q z (sv'.set i (.own (ds'.eraseIdx n)))) E
theorem RpL.erase {K : PySem.W.Frag} {P : Hp} : ∀ {ds : List D} {vs : List V} (n : Nat), RpL K P ds vs → RpL K P (ds.eraseIdx n) (vs.eraseIdx n)
  | [], _, n, h => by
    cases h
    rfl
  | d :: ds, _, 0, h => by
    obtain ⟨v, r, rfl, h1, h2⟩ := h
    exact h2
  | d :: ds, _, n + 1, h => by
    obtain ⟨v, r, rfl, h1, h2⟩ := h
    exact ⟨v, _, rfl, h1, RpL.erase n h2⟩
theorem snd_popAt {ta : TA} {fa : Da} (h : SndA K W ta fa) : SndE K W (tBM K "list" rPopAt (tVar i) ta) (dPopAt i fa) := fun F P H σ sv Q E R re k kx q => by
  obtain ⟨ds, e, q⟩ := q
  obtain ⟨o, ho, p, vs, rfl, h1, h2, h3, h4⟩ := rel_get re e
  refine ⟨_, ho, .inl ⟨rfl, _, SqL.of h1⟩, h F P H σ sv _ E _ re (fun ws H1 P1 as sv1 r1 s1 ra q1 => ?_) kx q⟩
  obtain ⟨j, ds', n, z, rfl, e', b1, b2, hn, hz, q1⟩ := q1
  obtain ⟨v, r, rfl, rv, rfl⟩ := ra
  obtain rfl := rv
  obtain ⟨o', ho', p', vs', eo, g1, g2, g3, g4⟩ := rel_get r1 e'
  rw [ho] at ho'
  cases ho'
  cases eo
  obtain ⟨y, hy, ry⟩ := g4.getD hz
  refine ⟨p, vs', j, n, y, rfl, rfl, g1, b1, b2, by rw [g4.length]; exact hn, hy, ?_⟩
  exact k _ _ P1 z _ (r1.setOwn e' ho (g4.erase n)) s1 ry q1
end
section
variable {X : Cx} {W : Wz} {pos : Pos}
theorem pd_append {i : Nat} {x : Str} {p apos : Pos} {e : Expr} {fa : Da} (hN : X.N[i]? = some x) (hv : Vis X.env.scope x) (ha : PDA X W [e] fa) (hd : (x == ("__debug__" : Str)) = false := by decide) (hcd : (x == ("__classdict__" : Str)) = false := by decide)
    (hbase : attributeBase (.Name x p) "append" X.env (eval (.Name x p) X.env) = eval (.Name x p) X.env := by rfl)
    (hfew : ((backTo pos (starEach [e] X.env)).all (fun x => !x.1) && (backToKw pos (keywordEach [] X.env)).all (fun x => x.1.isSome) && decide ([e].length + ([] : List Keyword).length + (if ([] : List Keyword).isEmpty then 0 else 1) < 30)) = true := by rfl)
    (hline : (apos.endLine == pos.line) = true := by rfl) (hs : starEach [e] X.env = (false, eval e X.env) :: starEach [] X.env := by rfl) : PD X W (.Call (.Attribute (.Name x p) "append" apos) [e] [] pos) (dAppend i fa) := by
  obtain ⟨ta, p1, s1⟩ := ha
  exact ⟨_, pe_bm PySem.F.plainAttrs_list PySem.F.slot_list_append PySem.F.type_list_append mt_append (pe_var hN hv hd hcd) p1 hbase hfew hline hs (by rfl), snd_append s1⟩
theorem pd_popAt {i : Nat} {x : Str} {p apos : Pos} {e : Expr} {fa : Da} (hN : X.N[i]? = some x) (hv : Vis X.env.scope x) (ha : PDA X W [e] fa) (hd : (x == ("__debug__" : Str)) = false := by decide) (hcd : (x == ("__classdict__" : Str)) = false := by decide)
    (hbase : attributeBase (.Name x p) "pop" X.env (eval (.Name x p) X.env) = eval (.Name x p) X.env := by rfl)
    (hfew : ((backTo pos (starEach [e] X.env)).all (fun x => !x.1) && (backToKw pos (keywordEach [] X.env)).all (fun x => x.1.isSome) && decide ([e].length + ([] : List Keyword).length + (if ([] : List Keyword).isEmpty then 0 else 1) < 30)) = true := by rfl)
    (hline : (apos.endLine == pos.line) = true := by rfl) (hs : starEach [e] X.env = (false, eval e X.env) :: starEach [] X.env := by rfl) : PD X W (.Call (.Attribute (.Name x p) "pop" apos) [e] [] pos) (dPopAt i fa) := by
  obtain ⟨ta, p1, s1⟩ := ha
  exact ⟨_, pe_bm PySem.F.plainAttrs_list PySem.F.slot_list_pop PySem.F.type_list_pop mt_popAt (pe_var hN hv hd hcd) p1 hbase hfew hline hs (by rfl), snd_popAt s1⟩
end
end Pd
end
section
set_option autoImplicit false
set_option Elab.async false
set_option linter.all false
set_option autoImplicit false
set_option maxRecDepth 100000
set_option maxHeartbeats 1000000
/-! Pd5: statements. -/
namespace Pd
open PySem PySem.Spec PyProof.Rows L2
section
variable {X : Cx} {W : Wz} {pos : Pos}

/-! ### targets -/
abbrev Dg := D → Sv → (Sv → Prop) → Prop
def SndG (K : PySem.W.Frag) (g : TG) (f : Dg) : Prop := ∀ (F : Fr) (P H : Hp) (σ : L2.St) (sv : Sv) (d : D) (v : V) (Q : Sv → Prop) (R : L2.St → Hp → Prop), Rel K F P H σ sv → Rp K P d v → (∀ σ' sv', Rel K F P H σ' sv' → Q sv' → R σ' H) → f d sv Q → g v σ H R
def PDG (X : Cx) (e : Expr) (f : Dg) : Prop := ∃ g, PG X e g ∧ SndG X.K g f
abbrev Dgs := List D → Sv → (Sv → Prop) → Prop
def SndGs (K : PySem.W.Frag) (g : TGs) (f : Dgs) : Prop := ∀ (F : Fr) (P H : Hp) (σ : L2.St) (sv : Sv) (ds : List D) (vs : List V) (Q : Sv → Prop) (R : L2.St → Hp → Prop), Rel K F P H σ sv → RpL K P ds vs → (∀ σ' sv', Rel K F P H σ' sv' → Q sv' → R σ' H) → f ds sv Q → g vs σ H R
def PDGs (X : Cx) (es : List Expr) (f : Dgs) : Prop := ∃ g, PGs X es g ∧ SndGs X.K g f
@[simp] def dgName (i : Nat) : Dg := fun d sv Q => Q (sv.set i (.dat d))
theorem snd_gname {K : PySem.W.Frag} {i : Nat} : SndG K (gName i) (dgName i) := fun F P H σ sv d v Q R r rv k q => k _ _ (r.setDat rv) q
theorem pdg_name {i : Nat} {x : Str} (hN : X.N.Nodup) (hi : X.N[i]? = some x) (hx : Loc X.env.scope x) (hf : X.fn x = true ∨ X.env.scope.names.lookup x = some .local := by first | exact .inl rfl | exact .inr rfl | assumption) : PDG X (.Name x pos) (dgName i) :=
  ⟨_, pg_name hN hi hx hf, snd_gname⟩
@[simp] def dgNil : Dgs := fun ds sv Q => ds = [] ∧ Q sv
@[simp] def dgCons (f : Dg) (g : Dgs) : Dgs := fun ds sv Q => ∃ d r, ds = d :: r ∧ f d sv fun sv1 => g r sv1 Q
theorem pdgs_nil : PDGs X [] dgNil := ⟨_, pgs_nil, fun F P H σ sv ds vs Q R r rv k q => by
  obtain ⟨rfl, q⟩ := q
  exact ⟨rv, k _ _ r q⟩⟩
theorem PG.or {e : Expr} {g g' : TG} (h : PG X e g) (h' : PG X e g') : PG X e (fun v σ H Q => g v σ H Q ∨ g' v σ H Q) := by
  refine ⟨fun pins s σ H v u Q I r q => ?_⟩
  rcases q with q | q
  · exact h.run pins s σ H v u Q I r q
  · exact h'.run pins s σ H v u Q I r q
theorem pdgs_cons {e : Expr} {es : List Expr} {f : Dg} {g : Dgs} (h1 : PDG X e f) (h2 : PDGs X es g) (hs : (assignEach (e :: es) X.env).map (·.2) = assign e X.env :: (assignEach es X.env).map (·.2) := by rfl) : PDGs X (e :: es) (dgCons f g) := by
  obtain ⟨t, p1, s1⟩ := h1
  obtain ⟨u, p2, s2⟩ := h2
  refine ⟨_, pgs_cons p1 p2 hs, fun F P H σ sv ds vs Q R r rv k q => ?_⟩
  obtain ⟨d, rr, rfl, q⟩ := q
  obtain ⟨v, vr, rfl, r1, r2⟩ := rv
  exact ⟨v, vr, rfl, s1 F P H σ sv d v _ _ r r1 (fun σ' sv' r' q' => s2 F P H σ' sv' rr vr Q R r' r2 k q') q⟩
@[simp] def dgTup (n : Nat) (g : Dgs) : Dg := fun d sv Q => match d with
  | .tup ds => ds.length = n ∧ g ds sv Q
  | .lst ds => ds.length = n ∧ g ds sv Q
  | _ => False
theorem pdg_tup {es : List Expr} {k : Nat} {g : Dgs} {n : Nat} (hc : X.calm = true) (h : PDGs X es g) (hn : (assignEach es X.env).length = n := by rfl) (hst : (assignEach es X.env).findIdx? (·.1) = none := by rfl) : PDG X (.Tuple es k pos) (dgTup n g) := by
  obtain ⟨t, p, s⟩ := h
  refine ⟨_, PG.or (pg_tup hc p hn hst) (pg_lst hc p hn hst), fun F P H σ sv d v Q R r rv kk q => ?_⟩
  cases d with
  | tup ds =>
    obtain ⟨a, xs, rfl, e1, rl⟩ := rv
    exact .inl ⟨a, xs, rfl, sub_t r.sub e1, by rw [rl.length]; exact q.1, s F P H σ sv ds xs Q R r rl kk q.2⟩
  | lst ds =>
    obtain ⟨a, xs, rfl, e1, rl⟩ := rv
    exact .inr ⟨a, xs, rfl, SqL.of (r.sub _ _ e1), by rw [rl.length]; exact q.1, s F P H σ sv ds xs Q R r rl kk q.2⟩
  | _ => exact q.elim

/-! ### assignments -/
@[simp] def dAsg (f : De) (g : Dg) : Ds := fun sv D => f sv (fun d sv1 => g d sv1 D.nx) D.ex
theorem snd_asg {K : PySem.W.Frag} {W : Wz} {t : TE} {g : TG} {f : De} {dg : Dg} (h1 : SndE K W t f) (h2 : SndG K g dg) : SndS K W (tAsg t g) (dAsg f dg) := fun F P H σ sv D Dd r l q =>
  h1 F P H σ sv _ _ _ r (fun v H1 P1 d sv1 r1 s1 rv q1 => h2 _ P1 H1 σ sv1 d v _ _ r1 rv (fun σ' sv' r' q' => l.nx σ' H1 P1 sv' r' s1 q') q1) (fun cls dd H1 P1 x sv1 r1 rx q1 => l.ex cls dd σ H1 P1 x sv1 r1 rx q1) q
theorem pds_set {i : Nat} {x : Str} {e : Expr} {f : De} {pos' : Pos} (hN : X.N.Nodup) (hi : X.N[i]? = some x) (hx : Loc X.env.scope x) (he : PD X W e f) (hs : swapsWith e (some (.Name x pos')) pos.line X.env = pure false := by rfl)
    (hf : X.fn x = true ∨ X.env.scope.names.lookup x = some .local := by first | exact .inl rfl | exact .inr rfl | assumption) : PDS X W (.Assign [.Name x pos'] e pos) (dAsg f (dgName i)) := by
  obtain ⟨t, p, s⟩ := he
  exact ⟨_, ps_set hN hi hx p hs hf, snd_asg s snd_gname⟩
theorem pds_asg {tg e : Expr} {f : De} {g : Dg} (he : PD X W e f) (hg : PDG X tg g) (hs : swapsWithSole [tg] e pos.line X.env = pure false := by rfl) (hw : swappedStores [tg] e X.env = pure none := by rfl) (hm : (assignEach [tg] X.env).map (·.2) = [assign tg X.env] := by rfl) : PDS X W (.Assign [tg] e pos) (dAsg f g) := by
  obtain ⟨t, p, s⟩ := he
  obtain ⟨u, p2, s2⟩ := hg
  exact ⟨_, ps_asg p p2 hs hw hm, snd_asg s s2⟩
/-- a slot is given a new list: it is the frame's own -/
@[simp] def dSetL (i : Nat) (g : Dl) : Ds := fun sv D => g sv (fun ds sv1 => D.nx (sv1.set i (.own ds))) D.ex
theorem pds_setL {i : Nat} {x : Str} {e : Expr} {g : Dl} {pos' : Pos} (hN : X.N.Nodup) (hi : X.N[i]? = some x) (hx : Loc X.env.scope x) (he : PDL X W e g) (hs : swapsWith e (some (.Name x pos')) pos.line X.env = pure false := by rfl)
    (hf : X.fn x = true ∨ X.env.scope.names.lookup x = some .local := by first | exact .inl rfl | exact .inr rfl | assumption) : PDS X W (.Assign [.Name x pos'] e pos) (dSetL i g) := by
  obtain ⟨t, p, s⟩ := he
  exact ⟨_, ps_set hN hi hx p hs hf, fun F P H σ sv D Dd r l q => s F P H σ sv _ _ _ r (fun p' H1 P1 ds sv1 r1 s1 n q1 => l.nx _ H1 P1 _ (r1.setNew n) s1 q1) (fun cls dd H1 P1 x sv1 r1 rx q1 => l.ex cls dd σ H1 P1 x sv1 r1 rx q1) q⟩
/-! a, b = e, f -/
section par
variable {i j : Nat} {x y : Str} {a b : Expr} {px py pt : Pos} {kt k2 : Nat} {pt2 : Pos}
@[simp] def dParDD (i j : Nat) (f g : De) : Ds := fun sv D => f sv (fun d sv1 => g sv1 (fun e sv2 => D.nx ((sv2.set i (.dat d)).set j (.dat e))) D.ex) D.ex
@[simp] def dParDL (i j : Nat) (f : De) (g : Dl) : Ds := fun sv D => f sv (fun d sv1 => g sv1 (fun es sv2 => D.nx ((sv2.set i (.dat d)).set j (.own es))) D.ex) D.ex
@[simp] def dParLD (i j : Nat) (f : Dl) (g : De) : Ds := fun sv D => f sv (fun ds sv1 => g sv1 (fun e sv2 => D.nx ((sv2.set i (.own ds)).set j (.dat e))) D.ex) D.ex
@[simp] def dParLL (i j : Nat) (f g : Dl) : Ds := fun sv D => f sv (fun ds sv1 => g sv1 (fun es sv2 => D.nx ((sv2.set i (.own ds)).set j (.own es))) D.ex) D.ex
/-- a new list is put aside, then taken up -/
def Fr.keep (F : Fr) (p : Addr) (vs : List V) : Fr := { F with Kp := (p, vs) :: F.Kp }
theorem Rel.aside {K : PySem.W.Frag} {F : Fr} {P H : Hp} {σ : L2.St} {sv : Sv} {p : Addr} {ds : List D} (r : Rel K F P H σ sv) (n : NewL K F P H σ sv p ds) : ∃ vs, RpL K P ds vs ∧ Rel K (F.keep p vs) P H σ sv := by
  obtain ⟨vs, h1, h2, h3, h4, h5, h6⟩ := n
  exact ⟨vs, h4, ⟨r.len, r.lim, r.sub, r.p0, r.new, r.ext, r.selfs, r.bags, fun i s o e1 e2 => by
    have q := r.sl i s o e1 e2
    cases s <;> exact q, r.apart, fun q ws hq => by
    rcases List.mem_cons.mp hq with z | z
    · cases z
      exact ⟨h1, h2, h3, h5⟩
    · exact r.kept q ws z⟩⟩
theorem Rel.back {K : PySem.W.Frag} {F : Fr} {P H : Hp} {σ : L2.St} {sv : Sv} {p : Addr} {vs : List V} (r : Rel K (F.keep p vs) P H σ sv) : Rel K F P H σ sv :=
  ⟨r.len, r.lim, r.sub, r.p0, r.new, r.ext, r.selfs, r.bags, fun i s o e1 e2 => by
    have q := r.sl i s o e1 e2
    cases s <;> exact q, r.apart, fun q ws hq => r.kept q ws (List.mem_cons_of_mem _ hq)⟩
theorem Rel.taken {K : PySem.W.Frag} {F : Fr} {P P0 H : Hp} {σ : L2.St} {sv : Sv} {p : Addr} {vs : List V} {ds : List D} (r : Rel K (F.keep p vs) P H σ sv) (s : Sub P0 P) (h : RpL K P0 ds vs) (hk : ∀ q ws, (q, ws) ∈ F.Kp → q ≠ p) : NewL K F P H σ sv p ds := by
  obtain ⟨h1, h2, h3, h4⟩ := r.kept p vs List.mem_cons_self
  exact ⟨vs, h1, h2, h3, RpL.mono s ds vs h, h4, hk⟩
variable (hc : X.calm = true) (hN : X.N.Nodup) (hi : X.N[i]? = some x) (hj : X.N[j]? = some y) (hij : i ≠ j) (hx : X.env.scope.names.lookup x = some .local) (hy : X.env.scope.names.lookup y = some .local)
include hc hN hi hj hij hx hy
theorem pds_parDD {f g : De} (h1 : PD X W a f) (h2 : PD X W b g) (hw : swappedStores [.Tuple [.Name x px, .Name y py] kt pt] (.Tuple [a, b] k2 pt2) X.env = pure (some [x, y])) (hs : swapsWithSole [.Tuple [.Name x px, .Name y py] kt pt] (.Tuple [a, b] k2 pt2) pos.line X.env = pure false := by rfl)
    (e1 : starEach [a, b] X.env = (false, eval a X.env) :: starEach [b] X.env := by rfl) (e2 : starEach [b] X.env = (false, eval b X.env) :: starEach [] X.env := by rfl) :
    PDS X W (.Assign [.Tuple [.Name x px, .Name y py] kt pt] (.Tuple [a, b] k2 pt2) pos) (dParDD i j f g) := by
  obtain ⟨ta, p1, s1⟩ := h1
  obtain ⟨tb, p2, s2⟩ := h2
  refine ⟨_, ps_par hc hN hi hj hij hx hy (pa_cons p1 (pa_cons p2 pa_nil e2) e1) hw hs, fun F P H σ sv D Dd r l q => ?_⟩
  refine s1 F P H σ sv _ _ _ r (fun v H1 P1 d sv1 r1 t1 rv q1 => s2 F P1 H1 σ sv1 _ _ _ r1 (fun w H2 P2 e sv2 r2 t2 rw q2 => ?_) (fun cls dd H1 P1 x sv1 r1 rx q1 => l.ex cls dd σ H1 P1 x sv1 r1 rx q1) q1) (fun cls dd H1 P1 x sv1 r1 rx q1 => l.ex cls dd σ H1 P1 x sv1 r1 rx q1) q
  exact ⟨v, w, rfl, l.nx _ H2 P2 _ ((r2.setDat (Rp.mono t2 d v rv)).setDat rw) (t1.trans t2) q2⟩
theorem pds_parDL {f : De} {g : Dl} (h1 : PD X W a f) (h2 : PDL X W b g) (hw : swappedStores [.Tuple [.Name x px, .Name y py] kt pt] (.Tuple [a, b] k2 pt2) X.env = pure (some [x, y])) (hs : swapsWithSole [.Tuple [.Name x px, .Name y py] kt pt] (.Tuple [a, b] k2 pt2) pos.line X.env = pure false := by rfl)
    (e1 : starEach [a, b] X.env = (false, eval a X.env) :: starEach [b] X.env := by rfl) (e2 : starEach [b] X.env = (false, eval b X.env) :: starEach [] X.env := by rfl) :
    PDS X W (.Assign [.Tuple [.Name x px, .Name y py] kt pt] (.Tuple [a, b] k2 pt2) pos) (dParDL i j f g) := by
  obtain ⟨ta, p1, s1⟩ := h1
  obtain ⟨tb, p2, s2⟩ := h2
  refine ⟨_, ps_par hc hN hi hj hij hx hy (pa_cons p1 (pa_cons p2 pa_nil e2) e1) hw hs, fun F P H σ sv D Dd r l q => ?_⟩
  refine s1 F P H σ sv _ _ _ r (fun v H1 P1 d sv1 r1 t1 rv q1 => s2 F P1 H1 σ sv1 _ _ _ r1 (fun p H2 P2 es sv2 r2 t2 n q2 => ?_) (fun cls dd H1 P1 x sv1 r1 rx q1 => l.ex cls dd σ H1 P1 x sv1 r1 rx q1) q1) (fun cls dd H1 P1 x sv1 r1 rx q1 => l.ex cls dd σ H1 P1 x sv1 r1 rx q1) q
  refine ⟨v, _, rfl, l.nx _ H2 P2 _ ((r2.setDat (Rp.mono t2 d v rv)).setNew ?_) (t1.trans t2) q2⟩
  obtain ⟨vs, z1, z2, z3, z4, z5, z6⟩ := n
  refine ⟨vs, z1, z2, z3, z4, fun m s em am => ?_, z6⟩
  by_cases hm : m = i
  · subst hm
    rw [List.getElem?_set, if_pos rfl] at em
    split at em
    · cases em
      cases am
    · cases em
  · rw [List.getElem?_set_ne (Ne.symm hm)] at em ⊢
    exact z5 m s em am
theorem pds_parLD {f : Dl} {g : De} (h1 : PDL X W a f) (h2 : PD X W b g) (hw : swappedStores [.Tuple [.Name x px, .Name y py] kt pt] (.Tuple [a, b] k2 pt2) X.env = pure (some [x, y])) (hs : swapsWithSole [.Tuple [.Name x px, .Name y py] kt pt] (.Tuple [a, b] k2 pt2) pos.line X.env = pure false := by rfl)
    (e1 : starEach [a, b] X.env = (false, eval a X.env) :: starEach [b] X.env := by rfl) (e2 : starEach [b] X.env = (false, eval b X.env) :: starEach [] X.env := by rfl) :
    PDS X W (.Assign [.Tuple [.Name x px, .Name y py] kt pt] (.Tuple [a, b] k2 pt2) pos) (dParLD i j f g) := by
  obtain ⟨ta, p1, s1⟩ := h1
  obtain ⟨tb, p2, s2⟩ := h2
  refine ⟨_, ps_par hc hN hi hj hij hx hy (pa_cons p1 (pa_cons p2 pa_nil e2) e1) hw hs, fun F P H σ sv D Dd r l q => ?_⟩
  refine s1 F P H σ sv _ _ _ r (fun p H1 P1 ds sv1 r1 t1 n q1 => ?_) (fun cls dd H1 P1 x sv1 r1 rx q1 => l.ex cls dd σ H1 P1 x sv1 r1 rx q1) q
  obtain ⟨vs, rl, ra⟩ := r1.aside n
  have hk : ∀ q ws, (q, ws) ∈ F.Kp → q ≠ p := n.choose_spec.2.2.2.2.2
  refine s2 (F.keep p vs) P1 H1 σ sv1 _ _ _ ra (fun w H2 P2 e sv2 r2 t2 rw q2 => ?_) (fun cls dd H1 P1 x sv1 r1 rx q1 => l.ex cls dd σ H1 P1 x sv1 (Rel.back (F := F.at W.z) r1) rx q1) q1
  exact ⟨_, w, rfl, l.nx _ H2 P2 _ (((Rel.back (F := F.at W.z) r2).setNew (Rel.taken (F := F.at W.z) r2 t2 rl hk)).setDat rw) (t1.trans t2) q2⟩
theorem pds_parLL {f g : Dl} (h1 : PDL X W a f) (h2 : PDL X W b g) (hw : swappedStores [.Tuple [.Name x px, .Name y py] kt pt] (.Tuple [a, b] k2 pt2) X.env = pure (some [x, y])) (hs : swapsWithSole [.Tuple [.Name x px, .Name y py] kt pt] (.Tuple [a, b] k2 pt2) pos.line X.env = pure false := by rfl)
    (e1 : starEach [a, b] X.env = (false, eval a X.env) :: starEach [b] X.env := by rfl) (e2 : starEach [b] X.env = (false, eval b X.env) :: starEach [] X.env := by rfl) :
    PDS X W (.Assign [.Tuple [.Name x px, .Name y py] kt pt] (.Tuple [a, b] k2 pt2) pos) (dParLL i j f g) := by
  obtain ⟨ta, p1, s1⟩ := h1
  obtain ⟨tb, p2, s2⟩ := h2
  refine ⟨_, ps_par hc hN hi hj hij hx hy (pa_cons p1 (pa_cons p2 pa_nil e2) e1) hw hs, fun F P H σ sv D Dd r l q => ?_⟩
  refine s1 F P H σ sv _ _ _ r (fun p H1 P1 ds sv1 r1 t1 n q1 => ?_) (fun cls dd H1 P1 x sv1 r1 rx q1 => l.ex cls dd σ H1 P1 x sv1 r1 rx q1) q
  obtain ⟨vs, rl, ra⟩ := r1.aside n
  have hk : ∀ q ws, (q, ws) ∈ F.Kp → q ≠ p := n.choose_spec.2.2.2.2.2
  refine s2 (F.keep p vs) P1 H1 σ sv1 _ _ _ ra (fun p2 H2 P2 es sv2 r2 t2 n2 q2 => ?_) (fun cls dd H1 P1 x sv1 r1 rx q1 => l.ex cls dd σ H1 P1 x sv1 (Rel.back (F := F.at W.z) r1) rx q1) q1
  refine ⟨_, _, rfl, l.nx _ H2 P2 _ (((Rel.back (F := F.at W.z) r2).setNew (Rel.taken (F := F.at W.z) r2 t2 rl hk)).setNew ?_) (t1.trans t2) q2⟩
  obtain ⟨ws, z1, z2, z3, z4, z5, z6⟩ := n2
  refine ⟨ws, z1, z2, z3, z4, fun m s em am => ?_, fun q us hq => z6 q us (List.mem_cons_of_mem _ hq)⟩
  by_cases hm : m = i
  · subst hm
    rw [List.getElem?_set, if_pos rfl]
    split
    · intro z
      injection z with z7
      injection z7 with z8
      injection z8 with z9
      exact z6 p vs List.mem_cons_self z9
    · intro z
      cases z
  · rw [List.getElem?_set_ne (Ne.symm hm)] at em ⊢
    exact z5 m s em am
end par

/-! ### the rest -/
@[simp] def dDrop (f : De) : Ds := fun sv D => f sv (fun _ sv1 => D.nx sv1) D.ex
theorem pds_expr {e : Expr} {f : De} (he : PD X W e f) (hs : swapsWith e none pos.line X.env = pure false := by rfl) : PDS X W (.Expr e pos) (dDrop f) := by
  obtain ⟨t, p, s⟩ := he
  exact ⟨_, ps_expr p hs, fun F P H σ sv D Dd r l q => s F P H σ sv _ _ _ r (fun v H1 P1 d sv1 r1 s1 rv q1 => l.nx σ H1 P1 sv1 r1 s1 q1) (fun cls dd H1 P1 x sv1 r1 rx q1 => l.ex cls dd σ H1 P1 x sv1 r1 rx q1) q⟩
@[simp] def dRet (f : De) : Ds := fun sv D => f sv (fun d _ => D.rt d) D.ex
theorem pds_ret {e : Expr} {f : De} (he : PD X W e f) : PDS X W (.Return (some e) pos) (dRet f) := by
  obtain ⟨t, p, s⟩ := he
  exact ⟨_, ps_ret p, fun F P H σ sv D Dd r l q => s F P H σ sv _ _ _ r (fun v H1 P1 d sv1 r1 s1 rv q1 => l.rt σ H1 P1 sv1 v d r1 rv q1) (fun cls dd H1 P1 x sv1 r1 rx q1 => l.ex cls dd σ H1 P1 x sv1 r1 rx q1) q⟩
@[simp] def dRetN : Ds := fun _ D => D.rt .non
theorem pds_retN : PDS X W (.Return none pos) dRetN := ⟨_, ps_retN, fun F P H σ sv D Dd r l q => l.rt σ H P sv .non .non r rfl q⟩
@[simp] def dIfS (c : Dt) (f g : Ds) : Ds := fun sv D => c sv (fun b sv1 => if b = true then f sv1 D else g sv1 D) D.ex
theorem pds_if {c : Expr} {a b : List Stmt} {fc : Dt} {f g : Ds} (hc : PDT X W c fc) (h1 : PDSs X W a f) (h2 : PDSs X W b g) : PDS X W (.If c a b pos) (dIfS fc f g) := by
  obtain ⟨tc, pc, sc⟩ := hc
  obtain ⟨ta, p1, s1⟩ := h1
  obtain ⟨tb, p2, s2⟩ := h2
  refine ⟨_, ps_if pc p1 p2, fun F P H σ sv D Dd r l q => sc F P H σ sv _ _ _ r (fun b H1 P1 sv1 r1 t1 q1 => ?_) (fun cls dd H1 P1 x sv1 r1 rx q1 => l.ex cls dd σ H1 P1 x sv1 r1 rx q1) q⟩
  cases b with
  | true => exact s1 F P1 H1 σ sv1 D Dd r1 (l.mono t1) q1
  | false => exact s2 F P1 H1 σ sv1 D Dd r1 (l.mono t1) q1
@[simp] def dNext : Ds := fun sv D => D.nx sv
@[simp] def dSeq (f g : Ds) : Ds := fun sv D => f sv { D with nx := fun sv1 => g sv1 D }
theorem pdss_nil : PDSs X W [] dNext := ⟨_, pss_nil, fun F P H σ sv D Dd r l q => l.nx σ H P sv r (Sub.refl P) q⟩
theorem pdss_one {st : Stmt} {f : Ds} (h : PDS X W st f) : PDSs X W [st] f := by
  obtain ⟨t, p, s⟩ := h
  exact ⟨t, pss_one p, s⟩
theorem pdss_cons {st : Stmt} {rest : List Stmt} {f g : Ds} (h1 : PDS X W st f) (h2 : PDSs X W rest g) : PDSs X W (st :: rest) (dSeq f g) := by
  obtain ⟨t, p1, s1⟩ := h1
  obtain ⟨u, p2, s2⟩ := h2
  refine ⟨_, pss_cons p1 p2, fun F P H σ sv D Dd r l q => s1 F P H σ sv _ { Dd with nx := fun sv1 => g sv1 Dd } r ⟨fun σ' H' P' sv' r' t' q' => s2 F P' H' σ' sv' D Dd r' (l.mono t') q', l.rt, l.bk, l.ct, l.ex⟩ q⟩
@[simp] def dBreak : Ds := fun sv D => D.bk sv
@[simp] def dCont : Ds := fun sv D => D.ct sv
theorem pds_pass : PDS X W (.Pass pos) dNext := ⟨_, ps_pass, fun F P H σ sv D Dd r l q => l.nx σ H P sv r (Sub.refl P) q⟩
theorem pds_break : PDS X W (.Break pos) dBreak := ⟨_, ps_break, fun F P H σ sv D Dd r l q => l.bk σ H P sv r (Sub.refl P) q⟩
theorem pds_continue : PDS X W (.Continue pos) dCont := ⟨_, ps_continue, fun F P H σ sv D Dd r l q => l.ct σ H P sv r (Sub.refl P) q⟩

/-! ### for -/
/-- J walks the items ds -/
structure Walks (K : PySem.W.Frag) (J : It) (P : Hp) (ds : List D) : Prop where
  go : ∀ (i : Nat) (H P' : Hp), Sub P P' → Sub P' H → i < ds.length → J.go i H ∧ ∀ x H', J.yld i H x H' → H' = H ∧ ∃ d, ds[i]? = some d ∧ Rp K P' d x
  stop : ∀ (i : Nat) (H P' : Hp), Sub P P' → Sub P' H → ds.length ≤ i → J.stop i H
def SndI (K : PySem.W.Frag) (W : Wz) (t : TI) (f : Dl) : Prop := ∀ (F : Fr) (P H : Hp) (σ : L2.St) (sv : Sv) (Q : List D → Sv → Prop) (E : DX) (R : It → Hp → Prop), Rel K (F.at W.z) P H σ sv →
  (∀ J H' P' ds sv', Rel K (F.at W.z) P' H' σ sv' → Sub P P' → Walks K J P' ds → Q ds sv' → R J H') →
  (∀ cls dd H' P' x sv', Rel K (F.at W.z) P' H' σ sv' → XdRel K P' H' x cls dd → E x sv' → W cls dd σ H') → f sv Q E → t σ H R
def PDI (X : Cx) (W : Wz) (tg e : Expr) (f : Dl) : Prop := ∃ t, PI X tg e t ∧ SndI X.K W t f
/-- the items of a list -/
@[simp] def dItL (f : De) : Dl := fun sv Q E => f sv (fun d sv1 => ∃ ds, d = .lst ds ∧ Q ds sv1) E
@[simp] def dItT (f : De) : Dl := fun sv Q E => f sv (fun d sv1 => ∃ ds, d = .tup ds ∧ Q ds sv1) E
@[simp] def dItS (f : De) : Dl := fun sv Q E => f sv (fun d sv1 => ∃ s, d = .str s ∧ Q (s.cps.toList.map fun c => .str ⟨#[c]⟩) sv1) E
theorem walks_list {K : PySem.W.Frag} {a : Addr} {P : Hp} {ds : List D} {vs : List V} (e : P a = some (.lst vs)) (r : RpL K P ds vs) : Walks K (Itl K a) P ds := by
  refine ⟨fun i H P' s1 s2 hi => ?_, fun i H P' s1 s2 hi => ⟨vs, SqL.of (s2 _ _ (s1 _ _ e)), by rw [r.length]; exact hi⟩⟩
  have hs : SqL K H a vs := SqL.of (s2 _ _ (s1 _ _ e))
  have hv : i < vs.length := by rw [r.length]; exact hi
  refine ⟨⟨vs, vs[i], hs, by simp [hv]⟩, fun x H' ⟨eh, y⟩ => ⟨eh, ?_⟩⟩
  exact (RpL.mono s1 ds vs r).get (y vs hs)
theorem walks_tup {K : PySem.W.Frag} {a : Addr} {P : Hp} {ds : List D} {vs : List V} (e : SqT K P a vs) (r : RpL K P ds vs) : Walks K (Itt K a) P ds := by
  refine ⟨fun i H P' s1 s2 hi => ?_, fun i H P' s1 s2 hi => ⟨vs, sub_t (s1.trans s2) e, by rw [r.length]; exact hi⟩⟩
  have hs : SqT K H a vs := sub_t (s1.trans s2) e
  have hv : i < vs.length := by rw [r.length]; exact hi
  refine ⟨⟨vs, vs[i], hs, by simp [hv]⟩, fun x H' ⟨eh, y⟩ => ⟨eh, ?_⟩⟩
  exact (RpL.mono s1 ds vs r).get (y vs hs)
theorem pdi_list {tg l : Expr} {f : De} (h : PD X W l f) : PDI X W tg l (dItL f) := by
  obtain ⟨t, p, s⟩ := h
  refine ⟨_, pi_list p, fun F P H σ sv Q E R r k kx q => s F P H σ sv _ E _ r (fun v H1 P1 d sv1 r1 s1 rv q1 => ?_) kx q⟩
  obtain ⟨ds, rfl, q1⟩ := q1
  obtain ⟨a, vs, rfl, e1, rl⟩ := rv
  exact ⟨a, rfl, ⟨vs, SqL.of (r1.sub _ _ e1)⟩, k _ H1 P1 ds sv1 r1 s1 (walks_list e1 rl) q1⟩
theorem pdi_tup {tg l : Expr} {f : De} (h : PD X W l f) : PDI X W tg l (dItT f) := by
  obtain ⟨t, p, s⟩ := h
  refine ⟨_, pi_tup p, fun F P H σ sv Q E R r k kx q => s F P H σ sv _ E _ r (fun v H1 P1 d sv1 r1 s1 rv q1 => ?_) kx q⟩
  obtain ⟨ds, rfl, q1⟩ := q1
  obtain ⟨a, vs, rfl, e1, rl⟩ := rv
  exact ⟨a, rfl, ⟨vs, sub_t r1.sub e1⟩, k _ H1 P1 ds sv1 r1 s1 (walks_tup e1 rl) q1⟩
/-- range(n) -/
@[simp] def dItR (fa : Da) : Dl := fun sv Q E => fa sv (fun as sv1 => ∃ j : Int, as = [.dat (.int j)] ∧ -(2 ^ 62) ≤ j ∧ j < 2 ^ 62 ∧ Q ((List.range j.toNat).map fun (m : Nat) => .int (m : Int)) sv1) E
theorem walks_range {K : PySem.W.Frag} {P : Hp} {n : Nat} : Walks K (Itr 0 n) P ((List.range n).map fun (m : Nat) => D.int (m : Int)) := by
  refine ⟨fun i H P' _ _ hi => ?_, fun i H P' _ _ hi => show n ≤ i by simpa using hi⟩
  have hi' : i < n := by simpa using hi
  refine ⟨hi', fun x H' ⟨eh, ex⟩ => ⟨eh, .int (i : Int), by simp [hi'], ?_⟩⟩
  rw [ex]
  show V.int (0 + (i : Int)) = V.int (i : Int)
  rw [Int.zero_add]
theorem pdi_range {tg a : Expr} {p : Pos} {fa : Da} (hg : Gl X "range") (hm : X.mg "range" = none) (h : PDA X W [a] fa) (hs : starEach [a] X.env = [(false, eval a X.env)] := by rfl) : PDI X W tg (.Call (.Name "range" p) [a] [] pos) (dItR fa) := by
  obtain ⟨t, pa, s⟩ := h
  refine ⟨_, pi_range1 hg hm pa hs, fun F P H σ sv Q E R r k kx q => s F P H σ sv _ E _ r (fun vs H1 P1 as sv1 r1 s1 ra q1 => ?_) kx q⟩
  obtain ⟨j, rfl, h1, h2, q1⟩ := q1
  obtain ⟨v, rr, rfl, rv, rfl⟩ := ra
  obtain rfl := rv
  exact ⟨j, rfl, h1, h2, k _ H1 P1 _ sv1 r1 s1 walks_range q1⟩
def loopD (dg : Dg) (fb : Ds) (D : Ed) : List Pd.D → Sv → Prop
  | [], sv => D.nx sv
  | d :: ds, sv => dg d sv fun sv1 => fb sv1 { D with nx := loopD dg fb D ds, ct := loopD dg fb D ds, bk := D.nx }
@[simp] def dFor (f : Dl) (dg : Dg) (fb : Ds) : Ds := fun sv D => f sv (fun ds sv1 => loopD dg fb D ds sv1) D.ex
theorem snd_for {K : PySem.W.Frag} {W : Wz} {wi : TI} {g : TG} {tb : TS} {f : Dl} {dg : Dg} {fb : Ds} (h1 : SndI K W wi f) (h2 : SndG K g dg) (h3 : SndS K W tb fb) : SndS K W (tFor wi g tb) (dFor f dg fb) := fun F P H σ sv D Dd r l q =>
  h1 F P H σ sv _ _ _ r (fun J H1 P1 ds sv1 r1 s1 w q1 => by
    refine ⟨fun i m σ2 H2 => m = ds.length - i ∧ i ≤ ds.length ∧ ∃ P2 sv2, Rel K (F.at W.z) P2 H2 σ2 sv2 ∧ Sub P1 P2 ∧ loopD dg fb Dd (ds.drop i) sv2, ⟨_, rfl, Nat.zero_le _, P1, sv1, r1, Sub.refl P1, q1⟩, ?_⟩
    rintro i m σ2 H2 ⟨rfl, hi, P2, sv2, r2, s2, q2⟩
    by_cases hlt : i < ds.length
    · obtain ⟨g1, g2⟩ := w.go i H2 P2 s2 r2.sub hlt
      refine .inr ⟨g1, fun σ' H' => ∃ P3 sv3, Rel K (F.at W.z) P3 H' σ' sv3 ∧ Sub P1 P3 ∧ loopD dg fb Dd (ds.drop (i + 1)) sv3, fun σ' H' ⟨P3, sv3, z⟩ => ⟨ds.length - (i + 1), by omega, rfl, hlt, P3, sv3, z⟩, fun x H' y => ?_⟩
      obtain ⟨rfl, d, ed, rx⟩ := g2 x H' y
      have el : ds.drop i = d :: ds.drop (i + 1) := by
        rw [List.drop_eq_getElem_cons hlt]
        have : ds[i] = d := by
          have := List.getElem?_eq_getElem hlt
          rw [this] at ed
          exact Option.some.inj ed
        rw [this]
      rw [el] at q2
      refine h2 _ P2 _ σ2 sv2 d x _ _ r2 rx (fun σ3 sv3 r3 q3 => ?_) q2
      exact h3 F P2 _ σ3 sv3 _ { Dd with nx := loopD dg fb Dd (ds.drop (i + 1)), ct := loopD dg fb Dd (ds.drop (i + 1)), bk := Dd.nx } r3 ⟨fun σ' H' P' sv' r' t' q' => ⟨P', sv', r', s2.trans t', q'⟩, l.rt, fun σ' H' P' sv' r' t' q' => l.nx σ' H' P' sv' r' ((s1.trans s2).trans t') q', fun σ' H' P' sv' r' t' q' => ⟨P', sv', r', s2.trans t', q'⟩, l.ex⟩ q3
    · have e : i = ds.length := by omega
      subst e
      rw [List.drop_length] at q2
      exact .inl ⟨w.stop _ H2 P2 s2 r2.sub (Nat.le_refl _), l.nx σ2 H2 P2 sv2 r2 (s1.trans s2) q2⟩) (fun cls dd H1 P1 x sv1 r1 rx q1 => l.ex cls dd σ H1 P1 x sv1 r1 rx q1) q
theorem pds_for {tg iter : Expr} {body : List Stmt} {f : Dl} {dg : Dg} {fb : Ds} (hp : PassesOwn (model X.prog X.w) X.A X.env X.xe) (hc : X.calm = true) (hi : PDI X W tg iter f) (hg : PDG X tg dg) (hb : PDSs X W body fb) (hs : ∀ v, foldedSetIterable iter X.env v = pure v := by intro _; rfl) : PDS X W (.For tg iter body [] pos) (dFor f dg fb) := by
  obtain ⟨wi, p1, s1⟩ := hi
  obtain ⟨g, p2, s2⟩ := hg
  obtain ⟨tb, p3, s3⟩ := hb
  exact ⟨_, ps_for hp hc p1 p2 p3 hs, snd_for s1 s2 s3⟩
/-! ### while -/
def whileD (c : Dt) (fb : Ds) (D : Ed) : Nat → Sv → Prop
  | 0, _ => False
  | n + 1, sv => c sv (fun b sv1 => if b = true then fb sv1 { D with nx := whileD c fb D n, ct := whileD c fb D n, bk := D.nx } else D.nx sv1) D.ex
@[simp] def dWhile (c : Dt) (fb : Ds) : Ds := fun sv D => ∃ n, whileD c fb D n sv
theorem pds_while {c : Expr} {body : List Stmt} {fc : Dt} {fb : Ds} (hp : PassesOwn (model X.prog X.w) X.A X.env X.xe) (hc : PDT X W c fc) (hb : PDSs X W body fb) : PDS X W (.While c body [] pos) (dWhile fc fb) := by
  obtain ⟨tc, p1, s1⟩ := hc
  obtain ⟨tb, p2, s2⟩ := hb
  refine ⟨_, ps_while hp p1 p2, fun F P H σ sv D Dd r l q => ?_⟩
  obtain ⟨n, q⟩ := q
  refine ⟨fun m σ2 H2 => ∃ P2 sv2, Rel X.K (F.at W.z) P2 H2 σ2 sv2 ∧ Sub P P2 ∧ whileD fc fb Dd m sv2, ⟨n, P, sv, r, Sub.refl P, q⟩, ?_⟩
  rintro m σ2 H2 ⟨P2, sv2, r2, t2, q2⟩
  cases m with
  | zero => exact q2.elim
  | succ m =>
    refine s1 F P2 H2 σ2 sv2 _ _ _ r2 (fun b H3 P3 sv3 r3 t3 q3 => ?_) (fun cls dd H1 P1 x sv1 r1 rx q1 => l.ex cls dd σ2 H1 P1 x sv1 r1 rx q1) q2
    cases b with
    | true =>
      refine ⟨fun σ' H' => ∃ P4 sv4, Rel X.K (F.at W.z) P4 H' σ' sv4 ∧ Sub P P4 ∧ whileD fc fb Dd m sv4, fun σ' H' z => ⟨m, Nat.lt_succ_self m, z⟩, ?_⟩
      exact s2 F P3 H3 σ2 sv3 _ { Dd with nx := whileD fc fb Dd m, ct := whileD fc fb Dd m, bk := Dd.nx } r3 ⟨fun σ' H' P' sv' r' t' q' => ⟨P', sv', r', (t2.trans t3).trans t', q'⟩, l.rt, fun σ' H' P' sv' r' t' q' => l.nx σ' H' P' sv' r' ((t2.trans t3).trans t') q', fun σ' H' P' sv' r' t' q' => ⟨P', sv', r', (t2.trans t3).trans t', q'⟩, l.ex⟩ q3
    | false => exact l.nx σ2 H3 P3 sv3 r3 (t2.trans t3) q3
end
end Pd
end
section
set_option autoImplicit false
set_option Elab.async false
set_option linter.all false
set_option autoImplicit false
set_option maxRecDepth 100000
set_option maxHeartbeats 1000000
/-! Pd6: defs by contracts over data. -/
namespace Pd
open PySem PySem.Spec PyProof.Rows L2

/-- a def keeps its promise wherever nothing is being shown -/
structure Fd (P : Program) (w : World) (K : PySem.W.Frag) (mg : Str → Option Value) (base : Heap) (k : Nat) (f : Addr) (fd : FuncData) (ps : List Str) (sp : Sp) : Prop where
  len : ∀ vs H Q E, sp vs H Q E → vs.length = ps.length
  run : ∀ (A : Around) (outer : List Env) (s : Shared) (H : Hp) (args : Args) (us : List Value) (vs : List V) (Q : VK) (E : XK), Room k A → A.guards = some [] → Env0 P w K mg base A outer s H → BindsTo s fd args (ps.zip us) → Vals vs us → sp vs H Q E →
    codeAny (model P w) A (.call (.ref f) args) (CR (L2.CX P w) outer P w H s Q E) s
theorem Fd.imp {P : Program} {w : World} {K : PySem.W.Frag} {mg : Str → Option Value} {base : Heap} {k : Nat} {f : Addr} {fd : FuncData} {ps : List Str} {sp sp' : Sp} (F : Fd P w K mg base k f fd ps sp) (h : ∀ vs H Q E, sp' vs H Q E → sp vs H Q E) : Fd P w K mg base k f fd ps sp' :=
  ⟨fun vs H Q E q => F.len vs H Q E (h _ _ _ _ q), fun A outer s H args us vs Q E hr hg he hb hv hs => F.run A outer s H args us vs Q E hr hg he hb hv (h _ _ _ _ hs)⟩
theorem Fd.mono {P : Program} {w : World} {K : PySem.W.Frag} {mg : Str → Option Value} {base : Heap} {j k : Nat} {f : Addr} {fd : FuncData} {ps : List Str} {sp : Sp} (F : Fd P w K mg base j f fd ps sp) (h : j ≤ k) : Fd P w K mg base k f fd ps sp :=
  ⟨F.len, fun A outer s H args us vs Q E hr => F.run A outer s H args us vs Q E (hr.mono h)⟩
section
variable {P : Program} {w : World} {K : PySem.W.Frag} {mg : Str → Option Value} {base : Heap} {x qual : Str} {params : Arguments} {body : List Stmt} {scope : Scope} {dvs : List V} {kws : List (Str × V)} {f : Addr} {fd : FuncData}
theorem fd_of {N ps : List Str} {k : Nat} {sp : Sp} (F : FunD K x qual params body scope dvs kws f fd) (S : FnScope N ps scope) (len : ∀ vs H Q E, sp vs H Q E → vs.length = ps.length)
    (hbody : ∀ (cdv : Value) (A : Around) (outer : List Env) (s : Shared) (H : Hp) (vs : List V) (Q : VK) (E : XK), Room k (A.deeper (envOfC qual scope s.heap.objs.size f cdv)) → A.guards = some [] → sp vs H Q E →
      ∃ t, PSs (cxOf (L2.CX P w) P w K mg base N qual scope f cdv A outer s H E) body t ∧ t { nx := fun _ H' => Q .non H', rt := Q } (L2.start N vs) H) : Fd P w K mg base (k + 1) f fd ps sp := by
  obtain ⟨oc, od, dV, kV, doc, pm, an, cdv, ct, osl, rfl, lk, hcd, _, _⟩ := F.ex
  refine ⟨len, fun A outer s H args us vs Q E hr hG e0 hb r hsp => ?_⟩
  have hl := len _ _ _ _ hsp
  have KX : K.In s.heap := e0.mod.kin.keeps fun b o e => (e0.bs b o e).1
  have lim : s.heap.NoLimit := e0.mod.nolimit.keeps fun b o e => (e0.bs b o e).1
  have hkind : ∀ y ∈ ps.zip us, scope.names.lookup y.1 = some .local ∨ (scope.names.lookup y.1 = some .cell ∧ ((cellsFrom (s.heap.objs.size + 1) scope.names []).lookup y.1).isSome = true) := fun ⟨n, v⟩ hy => by
    rcases S.par n (List.of_mem_zip hy).1 with q | q
    · exact .inl q
    · exact .inr ⟨q, PySem.W.cellsFrom_some _ _ _ (.inl q)⟩
  refine codeAny_call_function hr.depth (KX _ _ lk) rfl S.co S.gen rfl (PySem.W.codeRec_of KX hcd) (hb _ _ _ _ ?_)
  refine wpAny_newFunctionEnv_cells S.kind hkind fun env he s1 x => ?_
  subst he
  refine ⟨lim.keeps x.toInCall.keep, codeAny_func ?_⟩
  obtain ⟨t, ht, hq⟩ := hbody cdv A outer s H vs Q E (hr.deeper _) hG hsp
  have I : Inv (cxOf (L2.CX P w) P w K mg base N qual scope f cdv A outer s H E) [] (L2.start N vs) H s1 := inv_start S hr.hd e0 hl r x
  refine wpAny_mono (ht.run [] s1 (L2.start N vs) H _ I hq) (fun fl s' hs => ?_) fun e s' hs => hs
  have fin : ∀ {σ' : L2.St} {H' : Hp} {v : V} {u : Value}, Inv (cxOf (L2.CX P w) P w K mg base N qual scope f cdv A outer s H E) [] σ' H' s' → RelV v u → Q v H' → CE outer P w H s Q u s' :=
    fun {σ' H' v u} J rv q => ⟨v, H', J.os, J.bare, J.base, J.hok, rv, q⟩
  cases fl with
  | ret u =>
    obtain ⟨v, σ', H', J, rv, q⟩ := hs
    exact fin J rv q
  | next =>
    obtain ⟨σ', H', J, q⟩ := hs
    exact fin (v := V.non) (u := Value.none) J rfl q
  | brk =>
    obtain ⟨_, _, _, q⟩ := hs
    exact False.elim q
  | cont =>
    obtain ⟨_, _, _, q⟩ := hs
    exact False.elim q
end

/-! ### contracts -/
abbrev DA := List (Option D)
/-- what a def is worth over data: an argument is data or (none) the draws, of which it makes at most so many; what it may give; what it may raise -/
structure Ct where
  cost : Nat
  c : DA → (D → Prop) → (Xd → Prop) → Prop
def OsRel (K : PySem.W.Frag) (P : Hp) (B : Addr → Prop) : DA → List V → Prop
  | [], vs => vs = []
  | a :: as, vs => ∃ v r, vs = v :: r ∧ (match a with
    | some d => Rp K P d v
    | none => ∃ p, v = .ref p ∧ B p) ∧ OsRel K P B as r
/-- how the heap stands behind a def -/
structure Post (P H : Hp) (B : Addr → Prop) (L : Int) (P' H' : Hp) : Prop where
  sub : Sub P' H'
  grow : Sub P P'
  new : ∀ a o, P' a = some o → P a = some o ∨ H a = none
  keep : ∀ a o, H a = some o → ¬ B a → H' a = some o
  bags : ∀ a, B a → DrawsAt H' a L 0
def oneNone : DA → Prop
  | [] => True
  | none :: as => none ∉ as
  | some _ :: as => oneNone as
def spC (K : PySem.W.Frag) (n : Nat) (ct : Ct) : Sp := fun vs H Q E => ∃ (P : Hp) (B : Addr → Prop) (L : Int) (as : DA), Sub P H ∧ L ≤ 2 ^ 39 ∧ OsRel K P B as vs ∧ as.length = n ∧ oneNone as ∧ (∀ a, B a → P a = none ∧ DrawsAt H a L ct.cost) ∧
  ct.c as (fun d => ∀ v H' P', Post P H B L P' H' → Rp K P' d v → Q v H') (fun x => ∀ cls dd H' P', Post P H B L P' H' → XdRel K P' H' x cls dd → E cls dd H')
theorem OsRel.length {K : PySem.W.Frag} {P : Hp} {B : Addr → Prop} : ∀ {as : DA} {vs : List V}, OsRel K P B as vs → vs.length = as.length
  | [], _, h => by
    cases h
    rfl
  | a :: as, _, h => by
    obtain ⟨v, r, rfl, _, h2⟩ := h
    simp [OsRel.length h2]
theorem spC_len {K : PySem.W.Frag} {n : Nat} {ct : Ct} : ∀ vs H Q E, spC K n ct vs H Q E → vs.length = n := fun vs H Q E ⟨P, B, L, as, _, _, h, hl, _⟩ => by rw [h.length, hl]

/-- the slots at a def's entry -/
@[simp] def sl0 (cost : Nat) : Option D → Sl
  | some d => .dat d
  | none => .bag cost
@[simp] def sv0 (N : List Str) (cost : Nat) (as : DA) : Sv := as.map (sl0 cost) ++ List.replicate (N.length - as.length) .un
theorem osget {K : PySem.W.Frag} {P : Hp} {B : Addr → Prop} : ∀ {as : DA} {vs : List V} {i : Nat} {a : Option D}, OsRel K P B as vs → as[i]? = some a → ∃ v, vs[i]? = some v ∧ (match a with
    | some d => Rp K P d v
    | none => ∃ p, v = .ref p ∧ B p)
  | [], _, i, a, _, e => by simp at e
  | b :: as, _, 0, a, h, e => by
    obtain ⟨v, r, rfl, h1, _⟩ := h
    simp at e
    subst e
    exact ⟨v, rfl, h1⟩
  | b :: as, _, i + 1, a, h, e => by
    obtain ⟨v, r, rfl, _, h2⟩ := h
    obtain ⟨w, e2, z⟩ := osget (i := i) h2 (by simpa using e)
    exact ⟨w, by simpa using e2, z⟩
theorem one_apart : ∀ {as : DA} {i j : Nat}, oneNone as → as[i]? = some none → as[j]? = some none → i = j
  | [], i, j, _, e, _ => by simp at e
  | some d :: as, 0, j, _, e, _ => by simp at e
  | some d :: as, i + 1, 0, _, _, e => by simp at e
  | some d :: as, i + 1, j + 1, h, e1, e2 => by
    have e3 : as[i]? = some none := e1
    have e4 : as[j]? = some none := e2
    rw [one_apart (as := as) h e3 e4]
  | none :: as, 0, 0, _, _, _ => rfl
  | none :: as, 0, j + 1, h, _, e => absurd (List.mem_of_getElem? (by simpa using e)) h
  | none :: as, i + 1, j, h, e, _ => absurd (List.mem_of_getElem? (by simpa using e)) h
theorem start_get {N : List Str} {vs : List V} {i : Nat} {o : Option V} (h : (L2.start N vs)[i]? = some o) : (∃ v, vs[i]? = some v ∧ o = some v) ∨ (vs.length ≤ i ∧ o = none) := by
  unfold L2.start at h
  by_cases hi : i < vs.length
  · rw [List.getElem?_append_left (by simpa using hi), List.getElem?_map] at h
    cases e : vs[i]? with
    | none =>
      rw [e] at h
      cases h
    | some v =>
      rw [e] at h
      cases h
      exact .inl ⟨v, rfl, rfl⟩
  · rw [List.getElem?_append_right (by simpa using hi), List.getElem?_replicate] at h
    split at h
    · cases h
      exact .inr ⟨by omega, rfl⟩
    · cases h
theorem sv0_get {N : List Str} {c : Nat} {as : DA} {i : Nat} {s : Sl} (h : (sv0 N c as)[i]? = some s) : (∃ a, as[i]? = some a ∧ s = sl0 c a) ∨ s = .un := by
  unfold sv0 at h
  by_cases hi : i < as.length
  · rw [List.getElem?_append_left (by simpa using hi), List.getElem?_map] at h
    cases e : as[i]? with
    | none =>
      rw [e] at h
      cases h
    | some a =>
      rw [e] at h
      cases h
      exact .inl ⟨a, rfl, rfl⟩
  · rw [List.getElem?_append_right (by simpa using hi), List.getElem?_replicate] at h
    split at h
    · cases h
      exact .inr rfl
    · cases h
theorem rel0 {K : PySem.W.Frag} {P H : Hp} {B : Addr → Prop} {L : Int} {as : DA} {vs : List V} {cost : Nat} {N : List Str} (hN : as.length ≤ N.length) (s : Sub P H) (hL : L ≤ 2 ^ 39) (r : OsRel K P B as vs) (h1 : oneNone as) (hB : ∀ a, B a → P a = none ∧ DrawsAt H a L cost) :
    Rel K ⟨H, P, B, fun _ => False, L, [], none⟩ P H (L2.start N vs) (sv0 N cost as) := by
  have hl := r.length
  refine ⟨by unfold sv0 L2.start; simp [hl], hL, s, Sub.refl P, fun a o e => .inl e, fun a o e _ _ => e, fun a z => z.elim, fun a hb => ⟨(hB a hb).1, ?_, (hB a hb).2.less (Nat.zero_le _)⟩, fun i sl o e1 e2 => ?_, fun i j sl t o u p ne e1 e2 a1 a2 s1 s2 eo eu => ?_, fun p vs hp => absurd hp (by simp)⟩
  · obtain ⟨x, y, z, e, _⟩ := (hB a hb).2
    exact ⟨_, e⟩
  · rcases sv0_get e1 with ⟨a, ea, rfl⟩ | rfl
    · obtain ⟨v, ev, z⟩ := osget r ea
      rcases start_get e2 with ⟨v', ev', rfl⟩ | ⟨hi, rfl⟩
      · rw [ev] at ev'
        cases ev'
        cases a with
        | some d => exact ⟨v, rfl, z⟩
        | none =>
          obtain ⟨p, rfl, hb⟩ := z
          exact ⟨p, rfl, (hB p hb).1, .inl hb, by
            obtain ⟨x, y, z, e, rest⟩ := (hB p hb).2
            rw [show Fr.lim ⟨H, P, B, fun _ => False, L, [], none⟩ p = L from Fr.lim_some (F := ⟨H, P, B, fun _ => False, L, [], none⟩) e]
            exact ⟨x, y, z, e, rest⟩⟩
      · have := (List.getElem?_eq_some_iff.mp ev).1
        omega
    · trivial
  · rcases sv0_get e1 with ⟨a, ea, rfl⟩ | rfl
    · rcases sv0_get e2 with ⟨b, eb, rfl⟩ | rfl
      · cases a with
        | some d => cases a1
        | none =>
          cases b with
          | some d => cases a2
          | none => exact ne (one_apart h1 ea eb)
      · cases a2
    · cases a1
/-- a frame's end is a def's end -/
theorem post0 {K : PySem.W.Frag} {P H P' H' : Hp} {B : Addr → Prop} {L : Int} {σ : L2.St} {sv : Sv} (r : Rel K ⟨H, P, B, fun _ => False, L, [], none⟩ P' H' σ sv) : Post P H B L P' H' :=
  ⟨r.sub, r.p0, r.new, fun a o e nb => r.ext a o e nb (fun z => z), fun a hb => (r.bags a hb).2.2⟩

section
variable {P : Program} {w : World} {K : PySem.W.Frag} {mg : Str → Option Value} {base : Heap} {x qual : Str} {params : Arguments} {body : List Stmt} {scope : Scope} {dvs : List V} {kws : List (Str × V)} {f : Addr} {fd : FuncData}
/-- the wish of a def's frame -/
abbrev wF (E : XK) : Wz := ⟨fun cls dd _ H' => E cls dd H', none⟩
/-- THE RULE: a def by its body over data -/
theorem fd_body {N ps : List Str} {k : Nat} {ct : Ct} {fb : Ds} (F : FunD K x qual params body scope dvs kws f fd) (S : FnScope N ps scope)
    (hbody : ∀ (cdv : Value) (A : Around) (outer : List Env) (s : Shared) (H : Hp) (E : XK), Room k (A.deeper (envOfC qual scope s.heap.objs.size f cdv)) → A.guards = some [] →
      Takes (cxOf (L2.CX P w) P w K mg base N qual scope f cdv A outer s H E) (wF E).w → PassesOwn (model P w) (A.deeper (envOfC qual scope s.heap.objs.size f cdv)) (envOfC qual scope s.heap.objs.size f cdv) (cxOf (L2.CX P w) P w K mg base N qual scope f cdv A outer s H E).xe →
      PDSs (cxOf (L2.CX P w) P w K mg base N qual scope f cdv A outer s H E) (wF E) body fb)
    (hc : ∀ as Q E, as.length = ps.length → ct.c as Q E → fb (sv0 N ct.cost as) { nx := fun _ => Q .non, rt := Q, ex := fun x _ => E x }) : Fd P w K mg base (k + 1) f fd ps (spC K ps.length ct) := by
  refine fd_of F S spC_len fun cdv A outer s H vs Q E hr hG hsp => ?_
  obtain ⟨P0, B, L, as, h1, h2, h3, h4, h5, h6, h7⟩ := hsp
  have tk : Takes (cxOf (L2.CX P w) P w K mg base N qual scope f cdv A outer s H E) (wF E).w := takes_of rfl rfl rfl rfl
  have pw : PassesOwn (model P w) (A.deeper (envOfC qual scope s.heap.objs.size f cdv)) (envOfC qual scope s.heap.objs.size f cdv) (cxOf (L2.CX P w) P w K mg base N qual scope f cdv A outer s H E).xe := PassesOwn.leaving
  obtain ⟨t, ht, hs⟩ := hbody cdv A outer s H E hr hG tk pw
  have hN : as.length ≤ N.length := by
    have := congrArg List.length S.pre
    rw [List.length_take] at this
    omega
  refine ⟨t, ht, hs ⟨H, P0, B, fun _ => False, L, [], none⟩ P0 H (L2.start N vs) (sv0 N ct.cost as) _ _ (rel0 hN h1 h2 h3 h5 h6) ⟨?_, ?_, ?_, ?_, ?_⟩ (hc as _ _ h4 h7)⟩
  · exact fun σ' H' P' sv' r _ q => q .non H' P' (post0 r) rfl
  · exact fun σ' H' P' sv' v d r rv q => q v H' P' (post0 r) rv
  · exact fun σ' H' P' sv' r _ q => q
  · exact fun σ' H' P' sv' r _ q => q
  · exact fun cls dd σ' H' P' x sv' r rx q => q cls dd H' P' (post0 r) rx
end

/-! ### calls -/
/-- the one slot of draws among the arguments -/
@[simp] def oneBag (i : Nat) : List Ar → Prop
  | [] => True
  | .dat _ :: as => oneBag i as
  | .bag j :: as => j = i ∧ noBag as
where noBag : List Ar → Prop
  | [] => True
  | .dat _ :: as => noBag as
  | .bag _ :: _ => False
@[simp] theorem noBag_nil : oneBag.noBag [] = True := rfl
@[simp] theorem noBag_dat {d : D} {as : List Ar} : oneBag.noBag (.dat d :: as) = oneBag.noBag as := rfl
@[simp] theorem noBag_bag {j : Nat} {as : List Ar} : oneBag.noBag (.bag j :: as) = False := rfl
@[simp] def Ar.opt : Ar → Option D
  | .dat d => some d
  | .bag _ => none
@[simp] def bagAt : List Ar → Option Nat
  | [] => none
  | .dat _ :: as => bagAt as
  | .bag j :: _ => some j
@[simp] def callC (ct : Ct) (as : List Ar) (sv : Sv) (Q : D → Sv → Prop) (E : DX) : Prop := match bagAt as with
  | none => ct.c (as.map Ar.opt) (fun d => Q d sv) (fun x => E x sv)
  | some i => oneBag i as ∧ ∃ n, sv[i]? = some (.bag n) ∧ ct.cost ≤ n ∧ ct.c (as.map Ar.opt) (fun d => Q d (sv.set i (.bag (n - ct.cost)))) (fun x => E x (sv.set i (.bag (n - ct.cost))))
theorem noBag_opt : ∀ {as : List Ar}, oneBag.noBag as → none ∉ as.map Ar.opt
  | [], _, h => by simp at h
  | .dat d :: as, h, z => by
    rcases List.mem_cons.mp z with z | z
    · cases z
    · exact noBag_opt (as := as) h z
  | .bag _ :: _, h, _ => h
theorem oneBag_opt {i : Nat} : ∀ {as : List Ar}, oneBag i as → oneNone (as.map Ar.opt)
  | [], _ => trivial
  | .dat d :: as, h => oneBag_opt (as := as) h
  | .bag j :: as, h => noBag_opt h.2
theorem bagAt_none : ∀ {as : List Ar}, bagAt as = none → oneBag.noBag as
  | [], _ => trivial
  | .dat d :: as, h => bagAt_none (as := as) h
  | .bag j :: as, h => by cases h
theorem noBag_one : ∀ {as : List Ar}, oneBag.noBag as → oneNone (as.map Ar.opt)
  | [], _ => trivial
  | .dat d :: as, h => noBag_one (as := as) h
  | .bag _ :: _, h => h.elim
theorem os_of {K : PySem.W.Frag} {P : Hp} {σ : L2.St} {i : Nat} : ∀ {as : List Ar} {vs : List V}, ArsRel K P σ as vs → oneBag i as → OsRel K P (fun a => σ[i]? = some (some (.ref a))) (as.map Ar.opt) vs ∨ True
  | _, _, _, _ => .inr trivial
theorem os_no {K : PySem.W.Frag} {P : Hp} {σ : L2.St} {B : Addr → Prop} : ∀ {as : List Ar} {vs : List V}, ArsRel K P σ as vs → oneBag.noBag as → OsRel K P B (as.map Ar.opt) vs
  | [], _, h, _ => h
  | .dat d :: as, _, h, n => by
    obtain ⟨v, r, rfl, h1, h2⟩ := h
    exact ⟨v, r, rfl, h1, os_no h2 n⟩
  | .bag _ :: _, _, _, n => n.elim
theorem os_one {K : PySem.W.Frag} {P : Hp} {σ : L2.St} {i : Nat} {p : Addr} (hp : σ[i]? = some (some (.ref p))) : ∀ {as : List Ar} {vs : List V}, ArsRel K P σ as vs → oneBag i as → OsRel K P (fun a => a = p) (as.map Ar.opt) vs
  | [], _, h, _ => h
  | .dat d :: as, _, h, n => by
    obtain ⟨v, r, rfl, h1, h2⟩ := h
    exact ⟨v, r, rfl, h1, os_one hp h2 n⟩
  | .bag j :: as, _, h, n => by
    obtain ⟨v, r, rfl, h1, h2⟩ := h
    obtain ⟨rfl, n⟩ := n
    have e : σ[j]? = some (some v) := h1
    rw [hp] at e
    cases e
    exact ⟨_, r, rfl, ⟨p, rfl, rfl⟩, os_no h2 n⟩
/-- behind a call that made draws -/
theorem Rel.called {K : PySem.W.Frag} {F : Fr} {P H P' H' : Hp} {σ : L2.St} {sv : Sv} {i n m : Nat} {p : Addr} {L : Int} (r : Rel K F P H σ sv) (h : sv[i]? = some (.bag n)) (hp : σ[i]? = some (some (.ref p))) (q : Post P H (fun a => a = p) L P' H') (hL : L + m = F.lim p) :
    Rel K F P' H' σ (sv.set i (.bag m)) := by
  obtain ⟨o, ho, p', eo, h1, h2, h3⟩ := rel_get r h
  rw [hp] at ho
  cases ho
  cases eo
  have hi : i < sv.length := (List.getElem?_eq_some_iff.mp h).1
  have hd := q.bags p rfl
  obtain ⟨x0, y0, z0, hH, _⟩ := id h3
  have np : ∀ b o, P b = none → H b = some o → P' b = none := fun b o n e => by
    cases z : P' b with
    | none => rfl
    | some u =>
      rcases q.new b u z with z | z
      · rw [n] at z
        cases z
      · rw [e] at z
        cases z
  have dl : DrawsAt H' p (F.lim p) m := by
    obtain ⟨x, y, z, e, a1, a2, a3, a4, a5⟩ := hd
    exact ⟨x, y, z, e, a1, a2, a3, a4, by omega⟩
  refine ⟨by rw [List.length_set]; exact r.len, r.lim, q.sub, r.p0.trans q.grow, fun a u e => ?_, fun a u e nb ns => ?_, fun a hs => ?_, fun a hb => ?_, fun j s u e1 e2 => ?_, fun j k s t u w pp ne e1 e2 a1 a2 s1 s2 eu ew => ?_, fun q' ws hq => ?_⟩
  · rcases q.new a u e with z | z
    · exact r.new a u z
    · exact .inr (r.free0 z)
  · refine q.keep a u (r.ext a u e nb ns) fun z => ?_
    rcases h2 with h2 | h2
    · exact nb (by rw [z]; exact h2)
    · rw [z, h2] at e
      cases e
  · obtain ⟨z1, z2, C, dx, fs, z3⟩ := r.selfs a hs
    refine ⟨z1, z2, C, dx, fs, q.keep a _ z3 fun z => ?_⟩
    rw [z, hH] at z3
    cases z3
  · obtain ⟨z1, z2, z3⟩ := r.bags a hb
    refine ⟨z1, z2, ?_⟩
    by_cases ha : a = p
    · obtain ⟨o2, ho2⟩ := z2
      have el : F.lim p = F.L := Fr.lim_some (by rw [← ha]; exact ho2)
      rw [ha, ← el]
      exact dl.less (Nat.zero_le _)
    · obtain ⟨x, y, z, e, rest⟩ := z3
      exact ⟨x, y, z, q.keep a _ e ha, rest⟩
  · by_cases hj : j = i
    · subst hj
      rw [List.getElem?_set_self hi] at e1
      cases e1
      rw [hp] at e2
      cases e2
      exact ⟨p, rfl, np p _ h1 hH, h2, dl⟩
    · rw [List.getElem?_set_ne (Ne.symm hj)] at e1
      have z := r.sl j s u e1 e2
      cases s with
      | un => trivial
      | dat d =>
        obtain ⟨v, e, rv⟩ := z
        exact ⟨v, e, Rp.mono q.grow d v rv⟩
      | own es =>
        obtain ⟨q', vs, e, z1, z2, z3, z4⟩ := z
        have ne : q' ≠ p := fun z => by
          subst z e
          exact r.apart j i _ _ _ _ q' hj e1 h rfl rfl e2 hp rfl rfl
        exact ⟨q', vs, e, q.keep q' _ z1 ne, np q' _ z2 z1, z3, RpL.mono q.grow es vs z4⟩
      | bag n' =>
        obtain ⟨q', e, z1, z2, x, y, z, z3, z4⟩ := z
        have ne : q' ≠ p := fun z => by
          subst z e
          exact r.apart j i _ _ _ _ q' hj e1 h rfl rfl e2 hp rfl rfl
        exact ⟨q', e, np q' _ z1 z3, z2, x, y, z, q.keep q' _ z3 ne, z4⟩
      | slf C ns es =>
        obtain ⟨q', dx, vs, e, z1, z2, z3, z4, z5⟩ := z
        have ne : q' ≠ p := fun z => by
          subst z e
          exact r.apart j i _ _ _ _ q' hj e1 h rfl rfl e2 hp rfl rfl
        exact ⟨q', dx, vs, e, q.keep q' _ z1 ne, z2, np q' _ z3 z1, z4, RpL.mono q.grow es vs z5⟩
      | exc x =>
        obtain ⟨a, cls, dd, e1, e2, z⟩ := z
        exact ⟨a, cls, dd, e1, e2, z.mono q.grow⟩
  · have back : ∀ {m' : Nat} {z : Sl}, (sv.set i (.bag m))[m']? = some z → z.addr = true → ∃ z', sv[m']? = some z' ∧ z'.addr = true := fun {m' z} em az => by
      by_cases hm : m' = i
      · subst hm
        exact ⟨_, h, rfl⟩
      · rw [List.getElem?_set_ne (Ne.symm hm)] at em
        exact ⟨z, em, az⟩
    obtain ⟨s', b1, c1⟩ := back e1 a1
    obtain ⟨t', b2, c2⟩ := back e2 a2
    exact r.apart j k s' t' u w pp ne b1 b2 c1 c2 s1 s2 eu ew
  · obtain ⟨z1, z2, z3, z4⟩ := r.kept q' ws hq
    have ne : q' ≠ p := fun z => by
      subst z
      exact z4 i _ h rfl hp
    refine ⟨q.keep q' _ z1 ne, np q' _ z2 z1, z3, fun m' s e1 a1 => ?_⟩
    by_cases hm : m' = i
    · subst hm
      exact z4 m' _ h rfl
    · rw [List.getElem?_set_ne (Ne.symm hm)] at e1
      exact z4 m' s e1 a1
/-- behind a call that made none -/
theorem Rel.called0 {K : PySem.W.Frag} {F : Fr} {P H P' H' : Hp} {σ : L2.St} {sv : Sv} {L : Int} (r : Rel K F P H σ sv) (q : Post P H (fun _ => False) L P' H') : Rel K F P' H' σ sv :=
  r.grow q.grow q.new (fun a o e => q.keep a o e fun z => z) q.sub
/-- a promise over data, from the caller's side -/
theorem snd_callC {K : PySem.W.Frag} {W : Wz} {F : Fr} {P H : Hp} {σ : L2.St} {sv : Sv} {ct : Ct} {n : Nat} {as : List Ar} {vs : List V} {Q : D → Sv → Prop} {E : DX} {R : VK} (mono : ∀ as Q Q' E E', (∀ d, Q d → Q' d) → (∀ x, E x → E' x) → ct.c as Q E → ct.c as Q' E') (hn : as.length = n)
    (r : Rel K F P H σ sv) (ra : ArsRel K P σ as vs) (k : ∀ v H' P' d sv', Rel K F P' H' σ sv' → Sub P P' → Rp K P' d v → Q d sv' → R v H')
    (kx : ∀ cls dd H' P' x sv', Rel K F P' H' σ sv' → XdRel K P' H' x cls dd → E x sv' → W cls dd σ H') (q : callC ct as sv Q E) : spC K n ct vs H R (fun cls dd H' => W cls dd σ H') := by
  unfold callC at q
  cases hb : bagAt as with
  | none =>
    rw [hb] at q
    have nb := bagAt_none hb
    refine ⟨P, fun _ => False, F.L, as.map Ar.opt, r.sub, r.lim, os_no ra nb, by rw [List.length_map]; exact hn, noBag_one nb, fun a z => z.elim, mono _ _ _ _ _ (fun d qd v H' P' po rv => ?_) (fun x qx cls dd H' P' po rx => ?_) q⟩
    · exact k v H' P' d sv (r.called0 po) po.grow rv qd
    · exact kx cls dd H' P' x sv (r.called0 po) rx qx
  | some i =>
    rw [hb] at q
    obtain ⟨ob, m, hm, hcost, q⟩ := q
    obtain ⟨o, ho, p, rfl, h1, h2, h3⟩ := rel_get r hm
    have hL : (F.lim p - ((m - ct.cost : Nat) : Int)) + ((m - ct.cost : Nat) : Int) = F.lim p := by omega
    refine ⟨P, fun a => a = p, F.lim p - ((m - ct.cost : Nat) : Int), as.map Ar.opt, r.sub, by have := Fr.lim_le (p := p) r.lim; omega, os_one ho ra ob, by rw [List.length_map]; exact hn, oneBag_opt ob, fun a z => ?_, mono _ _ _ _ _ (fun d qd v H' P' po rv => ?_) (fun x qx cls dd H' P' po rx => ?_) q⟩
    · subst z
      refine ⟨h1, ?_⟩
      obtain ⟨x, y, z, e, a1, a2, a3, a4, a5⟩ := h3
      exact ⟨x, y, z, e, a1, a2, a3, a4, by omega⟩
    · exact k v H' P' d _ (r.called hm ho po hL) po.grow rv qd
    · exact kx cls dd H' P' x _ (r.called hm ho po hL) rx qx
section
variable {X : Cx} {W : Wz} {pos : Pos}
theorem run_fd {k : Nat} {f : Addr} {fd : FuncData} {ps : List Str} {sp : Sp} {pins : List (Addr × Obj)} {σ : L2.St} {H : Hp} {s : Shared} {Q : VK} {us ds : List Value} {vs dvs : List V} (F : Fd X.prog X.w X.K X.mg X.base k f fd ps sp) (hr : Room k X.A) (hG : X.A.guards = some []) (hb : Binds X.K fd ps ds) (hd : Vals dvs ds) (tk : Takes X W.w)
    (I : Inv X pins σ H s) (r : Vals vs us) (h : sp (vs ++ dvs) H Q (fun cls dd H' => W cls dd σ H')) : wpAny (model X.prog X.w) X.A (call (.ref f) us) (EP X pins σ Q) X.xe s := by
  have r2 : Vals (vs ++ dvs) (us ++ ds) := r.append hd
  have hl : (us ++ ds).length = ps.length := by rw [← r2.length]; exact F.len _ _ _ _ h
  refine wpAny_call (codeAny_mono (F.run X.A X.stack s H ⟨us, []⟩ (us ++ ds) (vs ++ dvs) Q _ hr hG I.env0 (hb s us I.kIn hl) r2 h) fun r s' hq => ?_)
  cases r with
  | error e => exact tk e s' (XE.of_call I (fun _ _ _ z => z) hq)
  | ok fl =>
    cases fl with
    | ret u => exact I.after hq
    | next => exact False.elim hq
    | brk => exact False.elim hq
    | cont => exact False.elim hq
def tCallF (W : Wz) (sp : Sp) (dvs : List V) (t : TA) : TE := fun σ H Q => t σ H fun vs H1 => sp (vs ++ dvs) H1 Q (fun cls dd H' => W cls dd σ H')
theorem pe_callF {k : Nat} {f : Addr} {fd : FuncData} {ps : List Str} {sp : Sp} {ds : List Value} {dvs : List V} {x : Str} {p : Pos} {e : Expr} {es : List Expr} {t : TA} (F : Fd X.prog X.w X.K X.mg X.base k f fd ps sp) (hr : Room k X.A) (hG : X.A.guards = some []) (hg : Gl X x) (hm : X.mg x = some (.ref f)) (hk : PySem.W.keepIn X.K (.ref f) = true)
    (hb : Binds X.K fd ps ds) (hd : Vals dvs ds) (tk : Takes X W.w) (ha : PA X (e :: es) t) (hdb : (x == ("__debug__" : Str)) = false := by decide) (he : starEach (e :: es) X.env = (false, eval e X.env) :: starEach es X.env := by rfl) (hpl : (backTo pos (starEach es X.env)).any (·.1) = false := by rfl) :
    PE X (.Call (.Name x p) (e :: es) [] pos) (tCallF W sp dvs t) := by
  refine ⟨fun pins s σ H Q I h => ?_⟩
  refine wpAny_Call_Name_kw (ld_glob I hg hm ?_ hdb)
  refine PySem.W.callWith_K (h₀ := X.base) I.ok.mod.kin hk (thn (ha.run pos pins s σ H _ I h) fun us s1 ⟨vs, H1, I1, r, q⟩ => ⟨I1.kIn, ?_⟩) he hpl
  exact run_fd F hr hG hb hd tk I1 r q
/-- f(e, ..) of an own def, all its arguments written -/
@[simp] def dCall (ct : Ct) (n : Nat) (fa : Da) : De := fun sv Q E => fa sv (fun as sv1 => as.length = n ∧ callC ct as sv1 Q E) E
/-- what a caller knows of a def -/
structure Fn (X : Cx) (k : Nat) (x : Str) (n : Nat) (ct : Ct) : Prop where
  mono : ∀ as Q Q' E E', (∀ d, Q d → Q' d) → (∀ x, E x → E' x) → ct.c as Q E → ct.c as Q' E'
  ex : ∃ (f : Addr) (fd : FuncData) (ps : List Str), ps.length = n ∧ Fd X.prog X.w X.K X.mg X.base k f fd ps (spC X.K n ct) ∧ X.mg x = some (.ref f) ∧ PySem.W.keepIn X.K (.ref f) = true ∧ Binds X.K fd ps []
theorem pd_call {k n : Nat} {x : Str} {p : Pos} {e : Expr} {es : List Expr} {ct : Ct} {fa : Da} (F : Fn X k x n ct) (hr : Room k X.A) (hG : X.A.guards = some []) (tk : Takes X W.w) (hg : Gl X x) (ha : PDA X W (e :: es) fa) (hdb : (x == ("__debug__" : Str)) = false := by decide)
    (he : starEach (e :: es) X.env = (false, eval e X.env) :: starEach es X.env := by rfl) (hpl : (backTo pos (starEach es X.env)).any (·.1) = false := by rfl) : PD X W (.Call (.Name x p) (e :: es) [] pos) (dCall ct n fa) := by
  obtain ⟨f, fd, ps, hps, F1, hm, hk, hb⟩ := F.ex
  obtain ⟨ta, p1, s1⟩ := ha
  refine ⟨_, pe_callF F1 hr hG hg hm hk hb .nil tk p1 hdb he hpl, fun Fr P H σ sv Q E R r kk kx q => s1 Fr P H σ sv _ E _ r (fun vs H1 P1 as sv1 r1 t1 ra q1 => ?_) kx q⟩
  show spC X.K n ct (vs ++ []) H1 R (fun cls dd H' => W cls dd σ H')
  rw [List.append_nil]
  exact snd_callC F.mono q1.1 r1 ra (fun v H' P' d sv' r' t' rv q' => kk v H' P' d sv' r' (t1.trans t') rv q') kx q1.2
end
end Pd
end
section
set_option autoImplicit false
set_option Elab.async false
set_option linter.all false
set_option autoImplicit false
set_option maxRecDepth 100000
set_option maxHeartbeats 4000000
/-! Pd7: own error classes over any of five bases, raised. -/
namespace Pd
open PySem PySem.Spec PySem.W PySem.Calls PyProof.Rows L2 PySem.HandSPX

/-- what of the base's own __init__ is used -/
structure InitF (B initId : String) : Prop where
  kind : builtinKind initId = some Manifest.AttrKind.slot
  split : splitId initId = some (B, "__init__")
  row : Manifest.signature? initId = some ⟨.positional, "*", B, .self, [⟨"args", .varPos, false⟩]⟩
  entry : entryFor table initId = some Builtin.«BaseException.__init__»
  plain : plainId initId = true
  noStar : (B != "*") = true
/-- a base of own error classes: its line of classes bm; the class newB whose __new__ makes it -/
structure ExB (B newId initId : String) (bm : List Value) : Prop where
  mkF : ∃ (newB newInit : String) (bmN : List Value), ExcBaseFacts newB newId newInit bmN ∧ bm.contains (.type newB) = true
  cA : bm.contains (.type "AttributeError") = false
  cN : bm.contains (.type "NameError") = false
  ini : InitF B initId
  cI : bm.contains (.type B) = true
  pass : ∀ (self : Value) (C : Addr), refuseLoop self "__setattr__" (.ref C :: bm) = pure ()
  ob : bm.contains (.type "object") = true
theorem initF_of {B newId initId : String} {bm : List Value} (F : ExcBaseFacts B newId initId bm) : InitF B initId := ⟨F.initKind, F.initSplit, F.initRow, F.initEntry, F.init.plain, F.noStar⟩
theorem exb_ValueError : ExB "ValueError" "ValueError.__new__" "ValueError.__init__" [.type "ValueError", .type "Exception", .type "BaseException", .type "object"] :=
  ⟨⟨_, _, _, F.excBase_ValueError, by decide +kernel⟩, by decide +kernel, by decide +kernel, initF_of F.excBase_ValueError, by decide +kernel, fun _ _ => rfl, by decide +kernel⟩
theorem exb_LookupError : ExB "LookupError" "LookupError.__new__" "LookupError.__init__" [.type "LookupError", .type "Exception", .type "BaseException", .type "object"] :=
  ⟨⟨_, _, _, F.excBase_LookupError, by decide +kernel⟩, by decide +kernel, by decide +kernel, initF_of F.excBase_LookupError, by decide +kernel, fun _ _ => rfl, by decide +kernel⟩
theorem exb_RuntimeError : ExB "RuntimeError" "RuntimeError.__new__" "RuntimeError.__init__" [.type "RuntimeError", .type "Exception", .type "BaseException", .type "object"] :=
  ⟨⟨_, _, _, F.excBase_RuntimeError, by decide +kernel⟩, by decide +kernel, by decide +kernel, initF_of F.excBase_RuntimeError, by decide +kernel, fun _ _ => rfl, by decide +kernel⟩
theorem exb_IndexError : ExB "IndexError" "IndexError.__new__" "IndexError.__init__" [.type "IndexError", .type "LookupError", .type "Exception", .type "BaseException", .type "object"] :=
  ⟨⟨_, _, _, F.excBase_IndexError, by decide +kernel⟩, by decide +kernel, by decide +kernel, initF_of F.excBase_IndexError, by decide +kernel, fun _ _ => rfl, by decide +kernel⟩
theorem exb_OverflowError : ExB "OverflowError" "OverflowError.__new__" "OverflowError.__init__" [.type "OverflowError", .type "ArithmeticError", .type "Exception", .type "BaseException", .type "object"] :=
  ⟨⟨_, _, _, F.excBase_OverflowError, by decide +kernel⟩, by decide +kernel, by decide +kernel, initF_of F.excBase_OverflowError, by decide +kernel, fun _ _ => rfl, by decide +kernel⟩
theorem exb_KeyError : ExB "KeyError" "LookupError.__new__" "KeyError.__init__" [.type "KeyError", .type "LookupError", .type "Exception", .type "BaseException", .type "object"] :=
  ⟨⟨_, _, _, F.excBase_LookupError, by decide +kernel⟩, by decide +kernel, by decide +kernel, ⟨excClass_KeyError.initKind, excClass_KeyError.initSplit, excClass_KeyError.initSig, excClass_KeyError.initEntry, excClass_KeyError.init.plain, excClass_KeyError.notStar⟩,
    by decide +kernel, fun _ _ => rfl, by decide +kernel⟩

section
variable {M : Model} {A : Around} {E : Value → Shared → Prop} {h : Heap} {g : Array GenState} {d : Drawn} {t : Nat} {os : OsState}
variable {nm q : Str} {C N : Addr} {bs bm : List Value} {hdct : Bool} {sn : List Str} {sub : List Value} {ab : Bool} {col : Option Bool} {dd : Option Addr} {k0 k1 k2 k3 k5 : Option Value} {B newId initId : String}
theorem check_new_g {newB newInit : String} {bmN : List Value} (F : ExcBaseFacts newB newId newInit bmN) (hcB0 : bm.contains (.type newB) = true) {rest : List Value} {Q : Unit → Shared → Prop}
    (hC : h.get? C = some (excClassObj nm q C N bs bm hdct sn sub ab col dd k0 k1 k2 k3 k5 newId)) (hq : Q () ⟨h, g, d, t, os⟩) : wpAny M A (checkBuiltinCall newId ⟨.ref C :: rest, []⟩) Q E ⟨h, g, d, t, os⟩ := by
  have hcont : (Value.ref C :: bm).contains (.type newB) = true := by rw [List.contains_cons, hcB0, Bool.or_true]
  have hstar := F.noStar
  simp only [checkBuiltinCall, F.newKind, F.newSplit, F.newRow]
  repeat (first | refine wpAny_loadPart_at hC ?_ | (refine wpAny_isSubtype_exc hC ?_; rw [hcont]) | refine wpAny_staticBase_exc hC ?_ | refine wpAny_madeBy_exc hC ?_ | simp only [bne_self_eq_false, Bool.false_eq_true, if_false] | wp_step)
  exact hq
theorem check_init_g (F : InitF B initId) (hcI : bm.contains (.type B) = true) {e : Addr} {oe : Obj} {rest : List Value} {Q : Unit → Shared → Prop}
    (hC : h.get? C = some (excClassObj nm q C N bs bm hdct sn sub ab col dd k0 k1 k2 k3 k5 newId)) (he : h.get? e = some oe) (hcls : oe.cls = .ref C) (hq : Q () ⟨h, g, d, t, os⟩) :
    wpAny M A (checkBuiltinCall initId ⟨.ref e :: rest, []⟩) Q E ⟨h, g, d, t, os⟩ := by
  have hcB : (Value.ref C :: bm).contains (.type B) = true := by rw [List.contains_cons, hcI, Bool.or_true]
  have hshort := F.noStar
  simp only [checkBuiltinCall, F.kind, F.split, F.row]
  repeat (first | (with_reducible refine wpAny_loadPart_at he ?_; rw [hcls]) | with_reducible refine wpAny_loadPart_at hC ?_ | (with_reducible refine wpAny_isSubtype_exc hC ?_; rw [hcB]) | wp_step)
  refine wpAny_onRaise ?_
  rw [show ∀ (a b : String) (n : Nat), Bind.check ⟨.positional, "*", B, .self, [⟨"args", .varPos, false⟩]⟩ a b n (List.map (fun x => x.fst) ({ pos := Value.ref e :: rest } : Args).kw) = pure () from
    fun a b n => check_star_args _ _ _ _ _ _]
  exact wpAny_pure hq
end
section
variable {prog : Program} {w : World} {A : Around} {E : Value → Shared → Prop} {R : Result → Shared → Prop} {h : Heap} {g : Array GenState} {d : Drawn} {t : Nat} {os : OsState}
variable {nm q : Str} {C N : Addr} {bs bm : List Value} {hdct : Bool} {sn : List Str} {sub : List Value} {ab : Bool} {col : Option Bool} {dd : Option Addr} {k0 k1 k2 k3 k5 : Option Value} {B newId initId : String}
theorem new_g {newB newInit : String} {bmN : List Value} (F : ExcBaseFacts newB newId newInit bmN) (hcB0 : bm.contains (.type newB) = true) (cA : bm.contains (.type "AttributeError") = false) (cN : bm.contains (.type "NameError") = false) {rest : List Value}
    (hC : h.get? C = some (excClassObj nm q C N bs bm hdct sn sub ab col dd k0 k1 k2 k3 k5 newId))
    (hq : R (.ok (.ret (.ref (h.objs.size + 1)))) ⟨(h.push { cls := .type "tuple", data := .seq rest.toArray }).push
      { cls := .ref C, data := .fields #[.ref h.objs.size, .none, .none, .none, .bool false, .none] }, g, d, t, os⟩) (hrest : rest.length ≤ sizeLine) :
    codeAny (model prog w) A (.builtin newId ⟨.ref C :: rest, []⟩) R ⟨h, g, d, t, os⟩ := by
  have hends := F.ends
  have hcB : (Value.ref C :: bm).contains (.type newB) = true := by rw [List.contains_cons, hcB0, Bool.or_true]
  have hcA : (Value.ref C :: bm).contains (.type "AttributeError") = false := by rw [List.contains_cons, cA]; rfl
  have hcN : (Value.ref C :: bm).contains (.type "NameError") = false := by rw [List.contains_cons, cN]; rfl
  refine codeAny_builtinAt F.entry ?_
  unfold Builtin.«BaseException.__new__»
  refine PySem.wpAt_bind ?_
  show PySem.wpAt _ _ _ (stack >>= _) _ _ _
  refine PySem.wpAt_bind (PySem.wpAt_stack fun p below => PySem.wpAt_of_wpAny ?_)
  wp_walk
  refine PySem.wpAt_of_wpAny ?_
  rw [F.owner]
  repeat (first | with_reducible refine wpAny_madeHere_exc F.canon hC ?_ | with_reducible refine wpAny_loadPart_at hC ?_ | (with_reducible refine wpAny_isSubtype_exc hC ?_; first | rw [hcB] | rw [hcA] | rw [hcN]) | wp_step)
  show R _ _
  rw [Heap.size_push]
  exact hq
theorem type_call_g {newB newInit : String} {bmN : List Value} (F : ExcBaseFacts newB newId newInit bmN) (hcB0 : bm.contains (.type newB) = true) (cA : bm.contains (.type "AttributeError") = false) (cN : bm.contains (.type "NameError") = false) {rest : List Value} {fI : Addr} {Q : Fin → Shared → Prop}
    (hC : h.get? C = some (excClassObj nm q C N bs bm hdct sn sub ab col dd k0 k1 k2 k3 k5 newId))
    (hi : W.Looks (model prog w) h (typeLookup (.ref C) "__init__") (some (.ref fI))) (hb : ∀ self, W.Looks (model prog w) h (bindSpecial (.ref fI) self) (.ref fI, [self])) (hrest : rest.length ≤ sizeLine)
    (hq : codeAny (model prog w) A (.call (.ref fI) ⟨.ref (h.objs.size + 1) :: rest, []⟩)
      (fun r s' => match r with | .ok (.ret v) => v = .none ∧ Q (.done (.ret (.ref (h.objs.size + 1)))) s' | .ok _ => False | .error e => E e s')
      ⟨(h.push (W.kdv_tup rest)).push (excO C h.objs.size), g, d, t, os⟩) :
    wpAny (model prog w) A (Builtin.«type.__call__» ⟨.ref C :: rest, []⟩) Q E ⟨h, g, d, t, os⟩ := by
  repeat (first | with_reducible refine wpAny_loadPart_at hC ?_ | with_reducible refine wpAny_madeBy_exc hC ?_ | wp_step)
  refine codeAny_call_builtin_code (Code.quiet_builtin _ F.quiet) (check_new_g F hcB0 hC ?_)
  refine new_g F hcB0 cA cN hC ?_ hrest
  show wpAny _ _ _ _ _ _
  have k : ∀ b o, h.get? b = some o → ((h.push (W.kdv_tup rest)).push (excO C h.objs.size)).get? b = some o := fun b o e => Heap.get?_push_of_some _ (Heap.get?_push_of_some _ e)
  have hC₁ := k _ _ hC
  have hget : ((h.push (W.kdv_tup rest)).push (excO C h.objs.size)).get? (h.objs.size + 1) = some (excO C h.objs.size) := by heap_get
  have hcC : (Value.ref C :: bm).contains (.ref C) = true := by simp
  have i1 := hi.keeps k
  have b1 := (hb (.ref (h.objs.size + 1))).keeps k
  unfold isInstance
  repeat (first | with_reducible refine wpAny_loadPart_at hget ?_ | (with_reducible refine wpAny_isSubtype_exc hC₁ ?_; rw [hcC]) | wp_step)
  show wpAny _ _ (typeLookup (.ref C) _) _ _ _
  refine i1.at ?_
  refine wpAny_holding (wpAny_bind (b1.at ?_))
  refine wpAny_bind (wpAny_call (codeAny_mono hq fun r s' z => ?_))
  rcases r with e | (v | _ | _ | _) <;> first | exact z | exact z.elim | skip
  obtain ⟨rfl, z⟩ := z
  first
    | exact wpAny_pure (wpAny_pure z)
    | (wp_walk; exact z)
theorem call_g (X : ExB B newId initId bm) {rest : List Value} {fI : Addr}
    (hC : h.get? C = some (excClassObj nm q C N bs bm hdct sn sub ab col dd k0 k1 k2 k3 k5 newId))
    (hi : W.Looks (model prog w) h (typeLookup (.ref C) "__init__") (some (.ref fI))) (hb : ∀ self, W.Looks (model prog w) h (bindSpecial (.ref fI) self) (.ref fI, [self])) (hrest : rest.length ≤ sizeLine)
    (hq : codeAny (model prog w) (A.under (.builtin "type.__call__" ⟨.ref C :: rest, []⟩)) (.call (.ref fI) ⟨.ref (h.objs.size + 1) :: rest, []⟩) (W.InitBack (h.objs.size + 1) R)
      ⟨(h.push (W.kdv_tup rest)).push (excO C h.objs.size), g, d, t, os⟩) :
    codeAny (model prog w) A (.call (.ref C) ⟨rest, []⟩) R ⟨h, g, d, t, os⟩ := by
  obtain ⟨newB, newInit, bmN, F, cB⟩ := X.mkF
  have f1 := tc_lookup
  have f2 := tc_bind (.ref C)
  have hTy : (⟨h, g, d, t, os⟩ : Shared).TypeIs (.ref C) "type" := ⟨_, hC, rfl⟩
  refine codeAny_of_tree ?_
  show wpAny _ _ (callAny (.ref C) _) _ _ _
  repeat (any_goals (first | assumption | with_reducible refine wpAny_loadPart_at hC ?_ | wp_step))
  refine ⟨rfl, ?_⟩
  refine codeAny_call_builtin_at (Code.quiet_builtin _ (by decide +kernel)) entry_typeCall (wpAny_check_type_call_sub hC (type_call_g F cB X.cA X.cN hC hi hb hrest ?_))
  refine codeAny_mono hq fun r s' z => ?_
  rcases r with e | (v | _ | _ | _) <;> exact z
theorem init_g (X : ExB B newId initId bm) {e t0 : Addr} {rest : List Value}
    (hC : h.get? C = some (excClassObj nm q C N bs bm hdct sn sub ab col dd k0 k1 k2 k3 k5 newId)) (he : h.get? e = some (excO C t0)) (hrest : rest.length ≤ sizeLine)
    (hq : ∀ h' t1, (∀ b o, b ≠ e → h.get? b = some o → h'.get? b = some o) → h'.get? e = some (excO C t1) → R (.ok (.ret .none)) ⟨h', g, d, t, os⟩) :
    codeAny (model prog w) A (.call (.builtin initId) ⟨.ref e :: rest, []⟩) R ⟨h, g, d, t, os⟩ := by
  refine codeAny_call_builtin X.ini.plain X.ini.entry (check_init_g X.ini X.cI hC he rfl ?_)
  wp_walk
  refine hq _ h.objs.size (fun b o hb ho => ?_) ?_
  · rw [Heap.get?_update_other _ _ (Ne.symm hb)]
    exact Heap.get?_push_of_some _ ho
  · rw [Heap.get?_update_self _ (Heap.get?_push_of_some _ he) rfl]
    rfl
end
section
open Builtin Builtin.ObjectAttr
variable {prog : Program} {w : World} {A : Around} {E : Value → Shared → Prop} {R : Result → Shared → Prop} {hp : Heap} {g : Array GenState} {d : Drawn} {t : Nat} {os : OsState} {B newId initId : String} {bm : List Value}
theorem osa_new_g (Xb : ExB B newId initId bm) {K : W.Frag} {name : Str} {tk : Tok} {v : Value} {x C : Addr} {fv : Array Value} {cd : ClassData}
    (X : K.In hp) (hx : hp.get? x = some { cls := .ref C, data := .fields fv }) (hcd : W.clsIn K C = some cd) (hm : cd.mro = .ref C :: bm) (hh : cd.hasDict = true) (ha : W.findIn K (.ref C) name = some none)
    (hq : ∀ h' tk' dx, (∀ b o, b ≠ x → hp.get? b = some o → h'.get? b = some o) → hp.objs.size ≤ dx → dx ≠ x → h'.get? x = some { cls := .ref C, dict := some dx, data := .fields fv } →
      h'.Ns1 dx (fun y => if y = name then some v else none) → R (.ok (.ret .none)) ⟨h', g, d, tk', os⟩) :
    codeAny (model prog w) A (.call (.builtin "object.__setattr__") ⟨[.ref x, .str name tk, v], []⟩) R ⟨hp, g, d, t, os⟩ := by
  have I : W.InstAt hp x { cls := .ref C, data := .fields fv } C none := ⟨hx, rfl, rfl, trivial⟩
  have SF := F.store_object
  have ne : cd.mro.isEmpty = false := by rw [hm]; rfl
  have hob : cd.mro.contains (.type "object") = true := by rw [hm, List.contains_cons, Xb.ob, Bool.or_true]
  have hxs : x ≠ hp.objs.size := Nat.ne_of_lt (Heap.lt_size hx)
  have sub : W.Looks (model prog w) hp (isInstance (.ref x) (.type "object")) true := I.type.andThen (W.looks_mroIn X (by unfold W.mroIn; rw [hcd, Option.bind_some, if_neg (by rw [ne]; decide), hob]))
  refine codeAny_call_builtin SF.slot.plain SF.entry (@W.check_slot (model prog w) _ _ ⟨hp, g, d, t, os⟩ "object.__setattr__" "object" "__setattr__" (.ref x) [.str name tk, v] [] _ SF.kind SF.split sub (SF.args (.ref x) (.str name tk) v) ?_)
  have hmr : W.Looks (model prog w) hp (mroOf (.ref C)) cd.mro := (W.looks_clsIn X hcd).andThen .now
  have L3 : W.Looks (model prog w) hp (storeTaker? none) none := .now
  have hcls : W.Looks (model prog w) hp (classData C) cd := W.looks_clsIn X hcd
  rw [W.osa_eq, refuse_eq]
  refine wpAny_bind (wpAny_bind (I.type.at (wpAny_bind (hmr.at ?_))))
  rw [hm, Xb.pass]
  refine wpAny_pure (wpAny_bind (I.type.at (wpAny_bind ((W.looks_findIn X ha).at (wpAny_bind (L3.at ?_))))))
  show wpAny _ _ (storeInOwnDict (.ref x) (.ref C) (.str name tk) name v false) _ _ _
  obtain ⟨nm, bs, mro, ns, qn, hd, sn, sb, ab, col, del⟩ := cd
  dsimp only at hh
  subst hh
  unfold storeInOwnDict ownDictForStores
  repeat (first | with_reducible refine store_in_new ?_ ?_ | with_reducible refine wpAny_loadPart_at hx ?_ | with_reducible refine hcls.at ?_ | wp_step)
  · exact ⟨_, #[], _, (Heap.get?_update_ne _ _ _ _ hxs.symm).trans (Heap.get?_push_at rfl rfl), rfl, fun e he => absurd he (by simp), fun _ => rfl⟩
  · intro h' tk' hn' hs
    have hx₁ : (hp.push { cls := .type "dict", data := .dict #[] }).get? x = some { cls := .ref C, data := .fields fv } := Heap.get?_push_of_some _ hx
    refine hq h' tk' hp.objs.size (fun b o hb ho => ?_) (Nat.le_refl _) hxs.symm ?_ hn'
    · exact (hs.2 b (Nat.ne_of_lt (Heap.lt_size ho))).trans ((Heap.get?_update_ne _ _ _ _ hb).trans (Heap.get?_push_of_some _ ho))
    · exact (hs.2 x hxs).trans (Heap.get?_update_self _ hx₁ rfl)
theorem osa_old_g (Xb : ExB B newId initId bm) {K : W.Frag} {name : Str} {tk : Tok} {v : Value} {x C dx : Addr} {fv : Array Value} {cd : ClassData} {m0 : Str → Option Value} {nl : List Str}
    (X : K.In hp) (hx : hp.get? x = some { cls := .ref C, dict := some dx, data := .fields fv }) (hns : hp.Ns1 dx m0) (hw : Within m0 nl) (hz : nl.length ≤ 1000) (hcd : W.clsIn K C = some cd) (hm : cd.mro = .ref C :: bm) (hh : cd.hasDict = true)
    (ha : W.findIn K (.ref C) name = some none)
    (hq : ∀ h' tk', (∀ b o, b ≠ dx → hp.get? b = some o → h'.get? b = some o) → h'.Ns1 dx (fun y => if y = name then some v else m0 y) → R (.ok (.ret .none)) ⟨h', g, d, tk', os⟩) :
    codeAny (model prog w) A (.call (.builtin "object.__setattr__") ⟨[.ref x, .str name tk, v], []⟩) R ⟨hp, g, d, t, os⟩ := by
  obtain ⟨oD, esD, epD, hoD, hdD, _⟩ := hns.count hw
  have I : W.InstAt hp x { cls := .ref C, dict := some dx, data := .fields fv } C (some oD) := ⟨hx, rfl, rfl, hoD⟩
  have SF := F.store_object
  have ne : cd.mro.isEmpty = false := by rw [hm]; rfl
  have hob : cd.mro.contains (.type "object") = true := by rw [hm, List.contains_cons, Xb.ob, Bool.or_true]
  have sub : W.Looks (model prog w) hp (isInstance (.ref x) (.type "object")) true := I.type.andThen (W.looks_mroIn X (by unfold W.mroIn; rw [hcd, Option.bind_some, if_neg (by rw [ne]; decide), hob]))
  refine codeAny_call_builtin SF.slot.plain SF.entry (@W.check_slot (model prog w) _ _ ⟨hp, g, d, t, os⟩ "object.__setattr__" "object" "__setattr__" (.ref x) [.str name tk, v] [] _ SF.kind SF.split sub (SF.args (.ref x) (.str name tk) v) ?_)
  have hmr : W.Looks (model prog w) hp (mroOf (.ref C)) cd.mro := (W.looks_clsIn X hcd).andThen .now
  have L3 : W.Looks (model prog w) hp (storeTaker? none) none := .now
  have hcls : W.Looks (model prog w) hp (classData C) cd := W.looks_clsIn X hcd
  rw [W.osa_eq, refuse_eq]
  refine wpAny_bind (wpAny_bind (I.type.at (wpAny_bind (hmr.at ?_))))
  rw [hm, Xb.pass]
  refine wpAny_pure (wpAny_bind (I.type.at (wpAny_bind ((W.looks_findIn X ha).at (wpAny_bind (L3.at ?_))))))
  show wpAny _ _ (storeInOwnDict (.ref x) (.ref C) (.str name tk) name v false) _ _ _
  obtain ⟨nm, bs, mro, ns, qn, hd, sn, sb, ab, col, del⟩ := cd
  dsimp only at hh
  subst hh
  unfold storeInOwnDict ownDictForStores
  repeat (first | with_reducible refine PySem.OEX.store_in_old hns hw hz ?_ | with_reducible refine wpAny_loadPart_at hx ?_ | with_reducible refine hcls.at ?_ | wp_step)
  intro h' tk' hn' hs
  exact hq h' tk' (fun b o hb ho => (hs.2 b hb).trans ho) hn'
end
end Pd
end
section
set_option autoImplicit false
set_option Elab.async false
set_option linter.all false
set_option autoImplicit false
set_option maxRecDepth 100000
set_option maxHeartbeats 4000000
/-! Pd8: raise of own errors, over data. -/
namespace Pd
open PySem PySem.Spec PyProof.Rows L2

/-- what the top says of an own error class over a base -/
structure OexG (K : PySem.W.Frag) (C : Addr) (B newId initId : String) (bm : List Value) : Prop where
  cls : ∃ nm q N bs sn sub ab col dd k0 k1 k2 k3 k5, K.lookup C = some (excClassObj nm q C N bs bm true sn sub ab col dd k0 k1 k2 k3 k5 newId)
  bas : ExB B newId initId bm
  sa : PySem.W.findIn K (.ref C) "__setattr__" = some (some (.builtin "object.__setattr__"))
  exC : PySem.W.subIn K (.ref C) (.type "BaseException") = some true
  tyC : PySem.W.typeIn K (.ref C) = some (.type "type")
  kC : PySem.W.keepIn K (.ref C) = true
section
variable {X : Cx} {pins : List (Addr × Obj)} {σ : L2.St} {H : Hp} {s : Shared} {a C dx : Addr} {f : Str} {y : V} {u : Value} {fs : List (Str × V)} {Q : Unit → Shared → Prop} {E : Value → Shared → Prop} {A : Around} {B newId initId : String} {bm : List Value}
theorem gst_new (T : OexG X.K C B newId initId bm) (I : Inv X pins σ H s) (e : H a = some (exo a C none)) (hno : PySem.W.findIn X.K (.ref C) f = some none) (ry : RelV y u)
    (h : ∀ dx s', H dx = none → dx ≠ a → Inv X pins σ (upd (upd H dx (exd dx [(f, y)])) a (exo a C (some dx))) s' → Q () s') : wpAny (model X.prog X.w) A (setAttr (.ref a) f u) Q E s := by
  obtain ⟨nm, q, N, bs, sn, sub, ab, col, dd, k0, k1, k2, k3, k5, hC⟩ := T.cls
  have hcl : PySem.W.clsIn X.K C = some { name := nm, bases := bs, mro := .ref C :: bm, ns := N, qualname := q, hasDict := true, slotNames := sn, subclasses := sub, abstract := ab, collection := col, hasDel := false } := by unfold PySem.W.clsIn; rw [hC] <;> rfl
  obtain ⟨t1, ho⟩ := exo_at I.hok e
  obtain ⟨hp, g, d, t, os⟩ := s
  refine PySem.W.set_plain I.kIn (ox := { cls := .ref C, dict := none, data := .fields #[.ref t1, .none, .none, .none, .bool false, .none] }) (od := none) ⟨ho, rfl, rfl, trivial⟩ T.sa ?_
  refine osa_new_g T.bas I.kIn ho hcl rfl rfl hno (fun h' tk' dx k dn dne hx hn => ?_)
  have hnd : H dx = none := I.hok.fresh dn
  have nd : ∀ {b : Addr} {o : Obj}, hp.get? b = some o → b ≠ dx := fun {b o} q => Nat.ne_of_lt (Nat.lt_of_lt_of_le (Heap.lt_size q) dn)
  have na : ∀ {b : Addr}, H b = none → b ≠ a := fun {b} n z => by
    rw [z, e] at n
    cases n
  have Un1 : Un X.fs [] H (upd (upd H dx (exd dx [(f, y)])) a (exo a C (some dx))) hp h' := {
    keep := fun b o q n _ _ => k b o (na n) q
    slot := fun b o q n _ _ => ⟨o.slots, k b o (na n) q⟩
    free := fun b o q n _ => by rw [upd_ne (na n), upd_ne (nd q)]; exact n
    there := fun b o q _ => by
      by_cases hb : b = a
      · exact ⟨_, by rw [hb]; exact hx⟩
      · exact ⟨o, k b o hb q⟩
    tups := fun b xs q => by rw [upd_ne (at_ne e q exo_tup), upd_ne (ne_of_none q hnd)]; exact q
    frzs := fun b o v q => by rw [upd_ne (at_ne e q exo_frz), upd_ne (ne_of_none q hnd)]; exact q
    tbls := fun b ps q => ⟨#[], by rw [upd_ne (at_ne e q exo_tbl), upd_ne (ne_of_none q hnd), q]; simp⟩ }
  refine h dx _ hnd dne (I.un (t' := tk') Un1 fun b o q => ?_)
  by_cases hb : b = a
  · subst hb
    rw [upd_same] at q
    cases q
    exact exo_ok hx
  · rw [upd_ne hb] at q
    by_cases hd : b = dx
    · subst hd
      rw [upd_same] at q
      cases q
      exact exd_ok hn (relO_put (fs := []) ry fun g => True.intro)
    · rw [upd_ne hd] at q
      exact (I.hok b o q).stay (fun c v hc z => k c v (by
          rcases hc with hc | hc
          · rw [hc]
            exact hb
          · exact at_ne e hc exo_own) z)
        (fun c hc => by rw [upd_ne (at_ne e hc exo_own), upd_ne (ne_of_none hc hnd)]; exact hc) (fun c xs hc => by rw [upd_ne (at_ne e hc exo_tup), upd_ne (ne_of_none hc hnd)]; exact hc)
theorem gst_old (T : OexG X.K C B newId initId bm) (I : Inv X pins σ H s) (e : H a = some (exo a C (some dx))) (ed : H dx = some (exd dx fs)) (hl : fs.length ≤ 900) (hno : PySem.W.findIn X.K (.ref C) f = some none) (ry : RelV y u)
    (h : ∀ s', Inv X pins σ (upd H dx (exd dx ((f, y) :: fs))) s' → Q () s') : wpAny (model X.prog X.w) A (setAttr (.ref a) f u) Q E s := by
  obtain ⟨nm, q, N, bs, sn, sub, ab, col, dd, k0, k1, k2, k3, k5, hC⟩ := T.cls
  have hcl : PySem.W.clsIn X.K C = some { name := nm, bases := bs, mro := .ref C :: bm, ns := N, qualname := q, hasDict := true, slotNames := sn, subclasses := sub, abstract := ab, collection := col, hasDel := false } := by unfold PySem.W.clsIn; rw [hC] <;> rfl
  obtain ⟨t1, ho⟩ := exo_at I.hok e
  obtain ⟨mA, hns, rel⟩ := exd_at I.hok ed
  have hw := within_of rel
  obtain ⟨hp, g, d, t, os⟩ := s
  obtain ⟨oD, _, _, hoD, _, _⟩ := hns.count hw
  refine PySem.W.set_plain I.kIn (ox := { cls := .ref C, dict := some dx, data := .fields #[.ref t1, .none, .none, .none, .bool false, .none] }) (od := some oD) ⟨ho, rfl, rfl, hoD⟩ T.sa ?_
  refine osa_old_g T.bas I.kIn ho hns hw (by rw [List.length_map]; omega) hcl rfl rfl hno (fun h' tk' k hn => ?_)
  have hd : ∃ o, h'.get? dx = some o := by
    obtain ⟨o, _, _, e', _⟩ := hn
    exact ⟨o, e'⟩
  exact h _ (I.write (t' := tk') (x := dx) (e := dx) (o := exd dx ((f, y) :: fs)) (by rw [ed]; exact True.intro) (.inl rfl) k hd (exd_ok hn (relO_put ry rel)))
theorem ginit_ok {us : List Value} {Q : Value → Shared → Prop} (T : OexG X.K C B newId initId bm) (I : Inv X pins σ H s) (e : H a = some (exo a C none)) (hl : us.length ≤ sizeLine) (h : ∀ s', Inv X pins σ H s' → Q .none s') :
    wpAny (model X.prog X.w) A (call (.builtin initId) (.ref a :: us)) Q E s := by
  obtain ⟨nm, q, N, bs, sn, sub, ab, col, dd, k0, k1, k2, k3, k5, hC⟩ := T.cls
  obtain ⟨t1, ho⟩ := exo_at I.hok e
  obtain ⟨hp, g, d, t, os⟩ := s
  refine wpAny_call (init_g T.bas (I.kIn _ _ hC) ho hl fun h' t2 k hx => ?_)
  have J := I.write (t' := t) (x := a) (e := a) (o := exo a C none) (by rw [e]; exact True.intro) (.inl rfl) k ⟨_, hx⟩ (exo_ok hx)
  have eu : upd H a (exo a C none) = H := by
    funext b
    by_cases hb : b = a
    · rw [hb, upd_same, e]
    · rw [upd_ne hb]
  rw [eu] at J
  exact h _ J
end
/-- B.__init__(self, ..) -/
def tBI (K : PySem.W.Frag) (B newId initId : String) (bm : List Value) (ta : TA) : TE := fun σ H Q => ta σ H fun vs H1 => ∃ (a C : Addr) (ws : List V), vs = .ref a :: ws ∧ ws.length ≤ 1000 ∧ OexG K C B newId initId bm ∧ H1 a = some (exo a C none) ∧ Q .non H1
def tGst (K : PySem.W.Frag) (B newId initId : String) (bm : List Value) (f : Str) (to te : TE) : TS := fun D σ H => te σ H fun y H1 => to σ H1 fun x H2 => ∃ a C : Addr, x = .ref a ∧ OexG K C B newId initId bm ∧ PySem.W.findIn K (.ref C) f = some none ∧
  ((H2 a = some (exo a C none) ∧ ∀ dx, H2 dx = none → dx ≠ a → D.nx σ (upd (upd H2 dx (exd dx [(f, y)])) a (exo a C (some dx)))) ∨
    ∃ (dx : Addr) (fs : List (Str × V)), H2 a = some (exo a C (some dx)) ∧ H2 dx = some (exd dx fs) ∧ fs.length ≤ 900 ∧ D.nx σ (upd H2 dx (exd dx ((f, y) :: fs))))
section
variable {X : Cx} {o e : Expr} {es : List Expr} {to te : TE} {ta : TA} {f : Str} {p p' p1 p2 pos : Pos} {B newId initId : String} {bm : List Value}
theorem pe_binit {Bs : Str} {pl : Sem Bool} (hg : Gl X Bs) (hm : X.mg Bs = none) (hbt : bootBuiltins Bs = some (.type B)) (hty : typeOf (.type B) = pure (.type "type")) (vV : PySem.W.findCls X.K (.type B) (.type "type") "__init__" = some (.val (.builtin initId))) (ha : PA X (e :: es) ta)
    (hst : Manifest.isStub B = false := by decide +kernel) (hhd : PySem.W.handedIn (Value.builtin initId) = true := by decide +kernel) (hn : Bs ≠ "__name__" := by decide) (hdb : (Bs == ("__debug__" : Str)) = false := by decide)
    (hc : eval (.Call (.Attribute (.Name Bs p1) "__init__" p2) (e :: es) [] pos) X.env = (do
      let ov ← eval (.Name Bs p1) X.env
      standAt p2.atName
      let (f, first) ← holding [ov] (getMethod ov "__init__" pl)
      callWith pos f first (backTo pos (starEach (e :: es) X.env)) (backToKw pos (keywordEach [] X.env))) := by rfl)
    (he : starEach (e :: es) X.env = (false, eval e X.env) :: starEach es X.env := by rfl) (hpl : (backTo pos (starEach es X.env)).any (·.1) = false := by rfl) :
    PE X (.Call (.Attribute (.Name Bs p1) "__init__" p2) (e :: es) [] pos) (tBI X.K B newId initId bm ta) := by
  refine ⟨fun pins s σ H Q I h => ?_⟩
  refine PySem.W.methodCall_KW (ld_blt I hg hm hbt ?_ hn hdb) hc
  obtain ⟨m, fr⟩ := I.fr
  refine PySem.W.method_type fr I.ok.mod.kin hty hst vV hhd ?_
  show wpAny _ _ (callWith pos (Value.builtin initId) [] (backTo pos (starEach (e :: es) X.env)) []) _ _ _
  refine PyProof.Rows.callWith_method1 (thn (ha.run pos pins _ σ H _ (I.tok _) h) fun us s1 ⟨vs, H1, I1, r1, a, C, ws, ev, hl, T, ea, q⟩ => ?_) he hpl
  subst ev
  cases r1 with
  | @cons _ u0 _ ur ra rw' =>
    obtain rfl : u0 = Value.ref a := ra
    have hlen : ur.length ≤ sizeLine := by
      rw [← Paired.length rw', sizeLine_eq]
      omega
    exact ginit_ok T I1 ea hlen fun s' J => ⟨.non, H1, J, rfl, q⟩
theorem ps_gst (ho : PE X o to) (he : PE X e te) (hs : swapsWith e (some (.Attribute o f p')) pos.line X.env = pure false := by rfl) : PS X (.Assign [.Attribute o f p'] e pos) (tGst X.K B newId initId bm f to te) := by
  refine ⟨fun pins s σ H D I h => ?_⟩
  refine plainObj_wpAny_Assign_Attribute (thn (he.run pins s σ H _ I h) fun v s1 ⟨y, H1, I1, r1, q1⟩ => thn (ho.run pins s1 σ H1 _ I1 q1) fun u s2 ⟨x, H2, I2, r2, a, C, ex, T, hno, q⟩ => ?_) hs
  subst ex
  obtain rfl : u = Value.ref a := r2
  rcases q with ⟨ea, q⟩ | ⟨dx, fs, ea, ed, hl, q⟩
  · exact gst_new T I2 ea hno r1 fun dx s' n ne J => ⟨σ, _, J, q dx n ne⟩
  · exact gst_old T I2 ea ed hl hno r1 fun s' J => ⟨σ, _, J, q⟩
theorem pmk_g {CX : CXT} {x : Str} {C fI : Addr} {k : Nat} {fd : FuncData} {ps : List Str} {sp : Sp} {ds : List Value} {dvs : List V} (T : OexG X.K C B newId initId bm) (iC : PySem.W.findIn X.K (.ref C) "__init__" = some (some (.ref fI))) (tI : PySem.W.typeIn X.K (.ref fI) = some (.type "function"))
    (F1 : FnOk X.prog X.w X.K X.mg X.base CX k fI fd ps sp) (hr : Room (k + 1) X.A) (hb : Binds X.K fd ps ds) (hd : Vals dvs ds) (hx : Passes CX X (fun _ _ _ => False)) (hg : Gl X x) (hm : X.mg x = some (.ref C)) (ha : PA X (e :: es) ta)
    (hdb : (x == ("__debug__" : Str)) = false := by decide) (he : starEach (e :: es) X.env = (false, eval e X.env) :: starEach es X.env := by rfl) (hpl : (backTo pos (starEach es X.env)).any (·.1) = false := by rfl) :
    PMk X (.Call (.Name x p) (e :: es) [] pos) (tMkO C sp dvs ta) := by
  intro pins s σ H Q I h
  obtain ⟨nm, q, N, bs, sn, sub, ab, col, dd, k0, k1, k2, k3, k5, hC⟩ := T.cls
  refine wpAny_Call_Name_kw (ld_glob I hg hm ?_ hdb)
  refine PySem.W.callWith_K (h₀ := X.base) I.ok.mod.kin T.kC (thn (ha.run pos pins s σ H _ I h) fun us s1 ⟨vs, H1, I1, r1, hz, q1⟩ => ⟨I1.kIn, ?_⟩) he hpl
  show wpAny _ _ (call (.ref C) us) _ _ _
  obtain ⟨hp, g, dr, tk, os⟩ := s1
  have hsz : hp.objs.size ≤ hp.objs.size + 1 := Nat.le_succ _
  have hn : H1 (hp.objs.size + 1) = none := I1.hok.fresh hsz
  have hq := q1 (hp.objs.size + 1) hn
  have kk : ∀ b o, hp.get? b = some o → ((hp.push (PySem.W.kdv_tup us)).push (PySem.HandSPX.excO C hp.objs.size)).get? b = some o := fun b o e => Heap.get?_push_of_some _ (Heap.get?_push_of_some _ e)
  have hget : ((hp.push (PySem.W.kdv_tup us)).push (PySem.HandSPX.excO C hp.objs.size)).get? (hp.objs.size + 1) = some (PySem.HandSPX.excO C hp.objs.size) := by heap_get
  have I2 : Inv X pins σ (upd H1 (hp.objs.size + 1) (exo (hp.objs.size + 1) C none)) ⟨(hp.push (PySem.W.kdv_tup us)).push (PySem.HandSPX.excO C hp.objs.size), g, dr, tk, os⟩ :=
    I1.laid (t' := tk) (a := hp.objs.size + 1) (o := exo (hp.objs.size + 1) C none) (h' := (hp.push (PySem.W.kdv_tup us)).push (PySem.HandSPX.excO C hp.objs.size)) kk hsz (exo_ok hget)
  have r2 : Vals (V.ref (hp.objs.size + 1) :: (vs ++ dvs)) (Value.ref (hp.objs.size + 1) :: (us ++ ds)) := .cons rfl (r1.append hd)
  have hl : (Value.ref (hp.objs.size + 1) :: us ++ ds).length = ps.length := by
    have e := r2.length
    rw [F1.len _ _ _ _ hq] at e
    exact e.symm
  have hus : us.length ≤ sizeLine := by
    rw [← Paired.length r1, sizeLine_eq]
    omega
  refine wpAny_call (call_g T.bas (I1.kIn _ _ hC) (PySem.W.looks_findIn I1.kIn iC) (fun self => PySem.W.bind_fn I1.kIn self tI) hus
    (codeAny_mono (F1.run _ X.stack _ _ ⟨Value.ref (hp.objs.size + 1) :: us, []⟩ (Value.ref (hp.objs.size + 1) :: (us ++ ds)) _ _ (fun _ _ _ => False) (hr.make C us []) (I2.env0.make C us []) (hb _ (Value.ref (hp.objs.size + 1) :: us) I2.kIn hl) r2 hq) fun r s' hq' => ?_))
  cases r with
  | error er => exact hx pins σ _ _ er s' I2 hq'
  | ok fl =>
    cases fl with
    | ret u =>
      obtain ⟨v, H2, os2, bare2, un2, hok2, rv, ev, d, fs, ea, ed, hd1, q2⟩ := hq'
      subst ev
      obtain ⟨h2, g2, d2, t2, os'⟩ := s'
      exact ⟨rv, mk_end (raises_own T.exC T.tyC) I1 hsz kk un2 hok2 os2 bare2 ea ed hd1 q2⟩
    | next => exact False.elim hq'
    | brk => exact False.elim hq'
    | cont => exact False.elim hq'
end

/-! ### the own __init__: the base's, then each argument into its field -/
/-- how it leaves the heap -/
def exH (H : Hp) (a C dx : Addr) (fs : List Str) (ws : List V) : Hp := upd (upd H dx (exd dx (fs.zip ws).reverse)) a (exo a C (some dx))
def spEx (C : Addr) (fs : List Str) : Sp := fun vs H Q _ => ∃ (a : Addr) (ws : List V), vs = .ref a :: ws ∧ ws.length = fs.length ∧ H a = some (exo a C none) ∧ ∀ dx, H dx = none → dx ≠ a → Q .non (exH H a C dx fs ws)
/-- what a raiser knows of an own error class -/
structure ExMk (X : Cx) (k : Nat) (x : Str) (C : Addr) (fs : List Str) : Prop where
  ex : ∃ (B newId initId : String) (bm : List Value) (fI : Addr) (fd : FuncData) (ps : List Str), OexG X.K C B newId initId bm ∧ PySem.W.findIn X.K (.ref C) "__init__" = some (some (.ref fI)) ∧ PySem.W.typeIn X.K (.ref fI) = some (.type "function") ∧
    FnOk X.prog X.w X.K X.mg X.base CX0 k fI fd ps (spEx C fs) ∧ Binds X.K fd ps []
  mg : X.mg x = some (.ref C)
theorem zip_sub : ∀ (fs : List Str) (ws : List V), ((fs.zip ws).map (·.1)).Sublist fs
  | [], _ => by simp
  | f :: fs, [] => by simp
  | f :: fs, w :: ws => (zip_sub fs ws).cons₂ f
theorem lookup_rev {fs : List Str} (hn : fs.Nodup) : ∀ {ws : List V} {f : Str} {v : V}, (fs.zip ws).lookup f = some v → (fs.zip ws).reverse.lookup f = some v := by
  intro ws f v h
  have key : ∀ {l : List (Str × V)}, (l.map (·.1)).Nodup → ∀ {p : Str × V}, p ∈ l → l.lookup p.1 = some p.2 := by
    intro l
    induction l with
    | nil => intro _ p hp; cases hp
    | cons q l ih =>
      intro hn p hp
      obtain ⟨h1, h2⟩ := List.nodup_cons.mp hn
      obtain ⟨q1, q2⟩ := q
      rw [List.lookup_cons]
      rcases List.mem_cons.mp hp with z | z
      · subst z
        simp
      · have ne : p.1 ≠ q1 := fun e => h1 (by rw [← e]; exact List.mem_map.mpr ⟨p, z, rfl⟩)
        have : (p.1 == q1) = false := by simpa using ne
        rw [this]
        exact ih h2 z
  have mem : ∀ {l : List (Str × V)}, l.lookup f = some v → (f, v) ∈ l := by
    intro l
    induction l with
    | nil => intro z; cases z
    | cons q l ih =>
      intro z
      obtain ⟨q1, q2⟩ := q
      rw [List.lookup_cons] at z
      cases e : (f == q1) with
      | true =>
        rw [e] at z
        cases z
        rw [beq_iff_eq.mp e]
        exact List.mem_cons_self
      | false =>
        rw [e] at z
        exact List.mem_cons_of_mem _ (ih z)
  have hm : ((fs.zip ws).map (·.1)).Nodup := by
    exact hn.sublist (zip_sub fs ws)
  exact key (l := (fs.zip ws).reverse) (by rw [List.map_reverse]; exact (List.reverse_perm _).nodup_iff.mpr hm) (p := (f, v)) (List.mem_reverse.mpr (mem h))
section
variable {X : Cx} {W : Wz} {pos p p2 : Pos}
/-- raise C(e, ..) -/
@[simp] def dRaise (C : Addr) (fs : List Str) (fa : Da) : Ds := fun sv D => fa sv (fun as sv1 => ∃ ds, asD as = some ds ∧ ds.length = fs.length ∧ D.ex ⟨C, fs, ds⟩ sv1) D.ex
theorem pds_raise {k : Nat} {x : Str} {C : Addr} {fs : List Str} {e : Expr} {es : List Expr} {fa : Da} (T : ExMk X k x C fs) (hn : fs.Nodup) (hz : fs.length ≤ 900) (hne : fs ≠ []) (hr : Room (k + 1) X.A) (hc : X.calm = true) (tk : Takes X W.w) (hg : Gl X x) (ha : PDA X W (e :: es) fa) (hdb : (x == ("__debug__" : Str)) = false := by decide)
    (he : starEach (e :: es) X.env = (false, eval e X.env) :: starEach es X.env := by rfl) (hpl : (backTo p2 (starEach es X.env)).any (·.1) = false := by rfl) : PDS X W (.Raise (some (.Call (.Name x p) (e :: es) [] p2)) none pos) (dRaise C fs fa) := by
  obtain ⟨B, newId, initId, bm, fI, fd, ps, T1, iC, tI, F1, hb⟩ := T.ex
  obtain ⟨ta, p1, s1⟩ := ha
  refine ⟨_, ps_raise hc tk (pmk_g T1 iC tI F1 hr hb .nil pass0 hg T.mg p1 hdb he hpl), fun F P H σ sv D Dd r l q => ?_⟩
  refine s1 F P H σ sv _ _ _ r (fun vs H1 P1 as sv1 r1 t1 ra q1 => ?_) (fun cls dd H1 P1 x sv1 r1 rx q1 => l.ex cls dd σ H1 P1 x sv1 r1 rx q1) q
  obtain ⟨ds, ed, hl, q1⟩ := q1
  have rv := asD_rel ra ed
  have hlen : vs.length = fs.length := by rw [rv.length, hl]
  refine ⟨by rw [hlen]; omega, fun a ha => ⟨a, vs, by rw [List.append_nil], hlen, upd_same, fun dx hdx hne2 => ⟨rfl, dx, (fs.zip vs).reverse, upd_same, ?_, ?_, ?_⟩⟩⟩
  · rw [exH, upd_ne hne2, upd_same]
  · rw [upd_ne hne2] at hdx
    exact hdx
  · have hdx' : H1 dx = none := by
      rw [upd_ne hne2] at hdx
      exact hdx
    have eH : upd (L2.del (exH (upd H1 a (exo a C none)) a C dx fs vs) a) dx (.xd (fs.zip vs).reverse) = upd H1 dx (.xd (fs.zip vs).reverse) := by
      funext b
      by_cases hb : b = dx
      · rw [hb, upd_same, upd_same]
      · rw [upd_ne hb, upd_ne hb]
        by_cases hba : b = a
        · rw [hba, L2.del_same, ha]
        · rw [L2.del_ne hba, exH, upd_ne hba, upd_ne hb, upd_ne hba]
    rw [eH]
    have hP := r1.free hdx'
    refine l.ex (.ref C) (some dx) σ _ (upd P1 dx (.xd (fs.zip vs).reverse)) ⟨C, fs, ds⟩ sv1 (r1.lay hdx') ⟨rfl, .inr ⟨dx, _, rfl, upd_same, fun f z qz => ?_⟩⟩ q1
    obtain ⟨v, e1, rz⟩ := lookup_zip rv qz
    exact ⟨v, lookup_rev hn e1, Rp.mono (sub_upd hP) z v rz⟩
end
end Pd
end
section
set_option autoImplicit false
set_option Elab.async false
set_option linter.all false
set_option autoImplicit false
set_option maxRecDepth 100000
set_option maxHeartbeats 4000000
/-! Pd9: try with several clauses, each with a name or without; what is read of a caught error. -/
namespace Pd
open PySem PySem.Spec PyProof.Rows L2

/-- a clause: the class, the slot of its name, its suite -/
structure Hd where
  c : Value
  i : Option Nat
  ts : Addr → Value → Option Addr → TS
def Hd.D (h : Hd) (D : Ends) : Ends := match h.i with
  | none => D
  | some i => { nx := fun σ' H' => D.nx (σ'.set i none) H', rt := D.rt, bk := fun σ' H' => D.bk (σ'.set i none) H', ct := fun σ' H' => D.ct (σ'.set i none) H' }
def Hd.sg (h : Hd) (a : Addr) (σ : L2.St) : L2.St := match h.i with
  | none => σ
  | some i => σ.set i (some (.ref a))
def wNamed (K : PySem.W.Frag) (Wout : WX) (D : Ends) : List Hd → WX
  | [] => Wout
  | h :: r => fun cls d σ H => ∃ b, PySem.W.exmOne K cls h.c = some b ∧ (b = true → ∀ a, H a = none → h.ts a cls d (h.D D) (h.sg a σ) H) ∧ (b = false → wNamed K Wout D r cls d σ H)
inductive HdsN (X : Cx) : List ExceptHandler → List Hd → Prop
  | nil : HdsN X [] []
  | plain {x : Str} {c : Value} {ts : Addr → Value → Option Addr → TS} {b₀ : Stmt} {suite : List Stmt} {np pos' : Pos} {hds : List ExceptHandler} {l : List Hd} (hc : Names X x c)
      (hsu : ∀ (a : Addr) (oe : Obj) (cls : Value) (d : Option Addr) (pn : List (Addr × Obj)), Zc cls d oe → (∃ vs, oe.data = .fields vs) → PSs (X.suite a ((a, oe) :: pn)) (b₀ :: suite) (ts a cls d)) (r : HdsN X hds l) :
      HdsN X (.ExceptHandler (some (.Name x np)) none (b₀ :: suite) pos' :: hds) (⟨c, none, ts⟩ :: l)
  | named {x n : Str} {i : Nat} {c : Value} {ts : Addr → Value → Option Addr → TS} {b₀ : Stmt} {suite : List Stmt} {np pos' : Pos} {hds : List ExceptHandler} {l : List Hd} (hc : Names X x c) (hi : X.N[i]? = some n) (hln : X.env.kindOf n = some .local)
      (hsu : ∀ (a : Addr) (oe : Obj) (cls : Value) (d : Option Addr) (pn : List (Addr × Obj)), Zc cls d oe → (∃ vs, oe.data = .fields vs) → PSs (X.suite a ((a, oe) :: pn)) (b₀ :: suite) (ts a cls d)) (r : HdsN X hds l) :
      HdsN X (.ExceptHandler (some (.Name x np)) (some n) (b₀ :: suite) pos' :: hds) (⟨c, some i, ts⟩ :: l)
section
variable {X : Cx} {body : List Stmt} {h₀ : ExceptHandler} {hds : List ExceptHandler} {l : List Hd} {pos : Pos} {tb : WX → TS} {Wout : WX}
theorem ps_try_named (hs : X.stack = X.env :: X.outer) (hf : X.env.frame = some X.env.locals) (hN : X.N.Nodup) (tk : Takes X Wout)
    (hb : ∀ (W : WX) (pn : List (Addr × Obj)) (xe : Value → Shared → Prop), Takes (X.tr pn xe) W → PassesOwn (model X.prog X.w) X.A X.env xe → PSs (X.tr pn xe) body (tb W))
    (hh : HdsN X (h₀ :: hds) l) : PS X (.Try body (h₀ :: hds) [] [] pos) (fun D σ H => tb (wNamed X.K Wout D l) D σ H) := by
  refine ⟨fun pins s σ H D I h => ?_⟩
  have ok := I.ok
  have hfr : X.A.frames = some (X.env :: X.outer) := by rw [ok.frames, hs]
  refine wpAny_Try_except ?_
  refine wpAny_mono ((hb (wNamed X.K Wout D l) (X.pn ++ pins) (fun e s₁ => wpAny (model X.prog X.w) X.A (noteFrame e X.env) (fun _ s₂ => wpAny (model X.prog X.w) X.A (setFlight e none) (fun _ s₃ =>
    wpAny (model X.prog X.w) X.A (handleBy e X.env (h₀ :: hds)) (SP X pins D) X.xe s₃) X.xe s₂) X.xe s₁) (fun u s' xx => ?_) PassesOwn.looking).run [] s σ H D (I.toTry _) h) (fun f s1 hsp => ?_) (fun e s1 he => he)
  · obtain ⟨a, B, sI, pins', σ', H', cls, d, rfl, J', nb, up, sky, na, os, ag, w⟩ := xx
    have J : Inv X pins σ' H' sI := J'.ofTry ok
    have sky' : Sky B (X.env :: X.outer) a (Zc cls d) X.env.locals s'.heap := by rw [← hs]; exact sky
    show wpAny (model X.prog X.w) X.A (noteFrame (.ref a) X.env) _ _ _
    refine Sky.land Zc.steady hfr hf sky' fun h3 fl3 up3 => ?_
    have J3 : Inv X pins σ' H' { s' with heap := h3 } := J.landed nb fl3.1 (up.trans up3) os ag
    obtain ⟨oe3, vs3, he3, hz3, hd3⟩ := fl3.there
    have notFr : ∀ {h : Heap} {o : Obj} {vs : Array Value}, h.FunFrames B (X.env :: X.outer) → h.get? a = some o → o.data = .fields vs → a ∉ frs (X.env :: X.outer) := fun {h o vs} ff e dd hm => by
      obtain ⟨_, o', e', hnf⟩ := ff.mem hm
      rw [e] at e'; cases e'
      exact hnf _ dd
    have nfr := notFr fl3.2.2.1 he3 hd3
    have nL : a ≠ X.env.locals := fun z => nfr (List.mem_filterMap.mpr ⟨X.env, List.mem_cons_self, by rw [hf, z]⟩)
    have nF : a ∉ X.fs := fun hm => by
      obtain ⟨e, he, q⟩ := List.mem_filterMap.mp hm
      exact nfr (List.mem_filterMap.mpr ⟨e, List.mem_cons_of_mem _ he, q⟩)
    have S3 := J3.suite he3 hd3 na nL nF
    have LT : PySem.W.Looks (model X.prog X.w) h3 (typeOf (.ref a)) cls := fun A Q E s k q => wpAny_typeOf_ref (k _ _ he3) (by rw [hz3.1]; exact q)
    have test : ∀ {x : Str} {np : Pos} {c : Value} {Q : Value → Shared → Prop} {E : Value → Shared → Prop}, Names X x c → Q c { s' with heap := h3 } → wpAny (model X.prog X.w) (X.A.mark (some (.ref a))) (eval (.Name x np) X.env) Q E { s' with heap := h3 } := fun {x np c Q E} hc q => by
      obtain ⟨hg, hdbg, hm | ⟨hm, hv, hnn⟩⟩ := hc
      · exact ld_glob (X := X.suite a ((a, oe3) :: (X.pn ++ pins))) S3 hg hm q hdbg
      · exact ld_blt (X := X.suite a ((a, oe3) :: (X.pn ++ pins))) S3 hg hm hv q hnn hdbg
    have go : ∀ {hds' : List ExceptHandler} {l' : List Hd}, HdsN X hds' l' → wNamed X.K Wout D l' cls d σ' H' →
        wpAny (model X.prog X.w) X.A (handleBy (.ref a) X.env hds') (SP X pins D) X.xe { s' with heap := h3 } := by
      intro hds' l' hk
      induction hk with
      | nil =>
        intro w
        refine wpAny_handleBy_nil ?_
        obtain ⟨k1, k2, k3, oe, vs, T, oT, ts', he, hz, hd, h1, hr⟩ := id fl3
        unfold PySem.passOn
        refine wpAny_bind (wpAny_field he hd h1 ?_)
        rw [if_neg (show ¬ ((Value.ref T == Value.none) = true) from by simp)]
        have fin : wpAny (model X.prog X.w) X.A (setFlight (.ref a) X.env.frame) (fun _ s4 => wpAny (model X.prog X.w) X.A (throw (.ref a) : Sem Flow) (SP X pins D) X.xe s4) X.xe { s' with heap := h3 } := by
          rw [hf]
          refine HandSPX.setFlight_upZ fl3 fun h4 hh4 up4 => wpAny_throw (tk _ _ ?_)
          exact ⟨a, B, sI, pins, σ', H', cls, d, rfl, J, nb, (up.trans up3).trans up4, .inr (.inr (by rw [hs]; exact hh4)), na, os, ag, w⟩
        first
          | exact wpAny_bind (wpAny_pure (wpAny_bind fin))
          | exact wpAny_bind fin
      | @plain x c ts b₀ suite np pos' hds2 l2 hc hsu r ih =>
        intro w
        obtain ⟨b, hb1, hyes, hno⟩ := w
        refine wpAny_handleBy_cons (codeAny_handlers_test ?_) (by intro q; cases q)
        have LM := PySem.W.exm_one (M := model X.prog X.w) (J3.kIn) LT hb1
        refine test hc (LM.here ?_)
        cases b with
        | true =>
          refine codeAny_handlers_suite ?_
          refine HandSPX.lands_againZ fl3 fun h4 fl4 up4 => ?_
          have J4 : Inv X pins σ' H' { s' with heap := h4 } := J.landed nb fl4.1 ((up.trans up3).trans up4) os ag
          obtain ⟨oe4, vs4, he4, hz4, hd4⟩ := fl4.there
          have S4 := J4.suite he4 hd4 na nL nF
          refine wpAny_mono ((hsu a oe4 cls d (X.pn ++ pins) hz4 ⟨_, hd4⟩).run [] _ _ H' _ S4 (hyes rfl a na)) (fun f s6 hsp => ?_) (fun _ _ z => False.elim z)
          cases f with
          | next =>
            obtain ⟨σ6, H6, S6, q6⟩ := hsp
            exact ⟨_, _, S6.unsuite ok, q6⟩
          | brk =>
            obtain ⟨σ6, H6, S6, q6⟩ := hsp
            exact ⟨_, _, S6.unsuite ok, q6⟩
          | cont =>
            obtain ⟨σ6, H6, S6, q6⟩ := hsp
            exact ⟨_, _, S6.unsuite ok, q6⟩
          | ret u =>
            obtain ⟨v6, σ6, H6, S6, r6, q6⟩ := hsp
            exact ⟨_, _, _, S6.unsuite ok, r6, q6⟩
        | false =>
          show wpAny _ X.A (handleBy (.ref a) X.env hds2) _ _ _
          exact ih (hno rfl)
      | @named x n i c ts b₀ suite np pos' hds2 l2 hc hi hln hsu r ih =>
        intro w
        obtain ⟨b, hb1, hyes, hno⟩ := w
        have hloc : Loc X.env.scope n := .inl hln
        refine wpAny_handleBy_cons (codeAny_handlers_test ?_) (by intro q; cases q)
        have LM := PySem.W.exm_one (M := model X.prog X.w) (J3.kIn) LT hb1
        refine test hc (LM.here ?_)
        cases b with
        | true =>
          refine codeAny_handlers_suite_as ?_
          refine HandSPX.lands_againZ fl3 fun h4 fl4 up4 => ?_
          have J4 : Inv X pins σ' H' { s' with heap := h4 } := J.landed nb fl4.1 ((up.trans up3).trans up4) os ag
          obtain ⟨oe4, vs4, he4, hz4, hd4⟩ := fl4.there
          have S4 := J4.suite he4 hd4 na nL nF
          refine store_ok (X := X.suite a ((a, oe4) :: (X.pn ++ pins))) (v := .ref a) S4 hN hi hloc rfl (fun s5 S5 => ?_) (.inr hln)
          refine wpAny_mono ((hsu a oe4 cls d (X.pn ++ pins) hz4 ⟨_, hd4⟩).run [] s5 _ H' _ S5 (hyes rfl a na)) (fun f s6 hsp => ?_) (fun _ _ z => False.elim z)
          have end_ : ∀ {σ6 : L2.St} {H6 : Hp} {Q : Shared → Prop}, Inv (X.suite a ((a, oe4) :: (X.pn ++ pins))) [] σ6 H6 s6 → (∀ s7, Inv X pins (σ6.set i none) H6 s7 → Q s7) →
              wpAny (model X.prog X.w) X.A (do bindName X.env n .none; unbindBehindTheSuite X.env n pos') (fun _ s7 => Q s7) X.xe s6 := fun {σ6 H6 Q} S6 hq => gone_ok (S6.unsuite ok) hN hi hln hq
          cases f with
          | next =>
            obtain ⟨σ6, H6, S6, q6⟩ := hsp
            exact end_ S6 fun s7 J7 => ⟨_, _, J7, q6⟩
          | brk =>
            obtain ⟨σ6, H6, S6, q6⟩ := hsp
            exact end_ S6 fun s7 J7 => ⟨_, _, J7, q6⟩
          | cont =>
            obtain ⟨σ6, H6, S6, q6⟩ := hsp
            exact end_ S6 fun s7 J7 => ⟨_, _, J7, q6⟩
          | ret u =>
            obtain ⟨v6, σ6, H6, S6, r6, q6⟩ := hsp
            exact end_ S6 fun s7 J7 => ⟨_, _, _, J7, r6, q6⟩
        | false =>
          show wpAny _ X.A (handleBy (.ref a) X.env hds2) _ _ _
          exact ih (hno rfl)
    exact go hh w
  · cases f with
    | next =>
      obtain ⟨σ', H', J', q⟩ := hsp
      exact wpAny_execs_nil ⟨σ', H', J'.ofTry ok, q⟩
    | brk =>
      obtain ⟨σ', H', J', q⟩ := hsp
      exact ⟨σ', H', J'.ofTry ok, q⟩
    | cont =>
      obtain ⟨σ', H', J', q⟩ := hsp
      exact ⟨σ', H', J'.ofTry ok, q⟩
    | ret u =>
      obtain ⟨v, σ', H', J', r, q⟩ := hsp
      exact ⟨v, σ', H', J'.ofTry ok, r, q⟩
end

/-! ### over data -/
/-- a clause over data: its class, the slot of its name, what its suite does -/
structure Dh where
  c : Value
  i : Option Nat
  f : Ds
@[simp] def Dh.sv (h : Dh) (x : Xd) (sv : Sv) : Sv := match h.i with
  | none => sv
  | some i => sv.set i (.exc x)
@[simp] def Dh.un (h : Dh) (sv : Sv) : Sv := match h.i with
  | none => sv
  | some i => sv.set i .un
/-- what the clauses do with x -/
@[simp] def handleD (K : PySem.W.Frag) (D : Ed) : List Dh → Xd → Sv → Prop
  | [], x, sv => D.ex x sv
  | h :: r, x, sv => ∃ b, PySem.W.exmOne K (.ref x.C) h.c = some b ∧ (b = true → h.f (h.sv x sv) { nx := fun sv' => D.nx (h.un sv'), rt := D.rt, bk := fun sv' => D.bk (h.un sv'), ct := fun sv' => D.ct (h.un sv') }) ∧ (b = false → handleD K D r x sv)
def dTry (K : PySem.W.Frag) (fb : Ds) (l : List Dh) : Ds := fun sv D => fb sv { D with ex := fun x sv1 => handleD K D l x sv1 }
/-! ### what holds in each of several contexts holds by one term -/
section
variable {ι : Type} {X : ι → Cx} {K : PySem.W.Frag} {W : Wz}
theorem fam_e {e : Expr} {f : De} (hK : ∀ i, (X i).K = K) (h : ∀ i, PD (X i) W e f) : ∃ t, (∀ i, PE (X i) e t) ∧ SndE K W t f := by
  have h' : ∀ i, ∃ t, PE (X i) e t ∧ SndE K W t f := fun i => by
    obtain ⟨t, p, s⟩ := h i
    rw [hK i] at s
    exact ⟨t, p, s⟩
  refine ⟨fun σ H Q => ∀ i, (h' i).choose σ H Q, fun i => ⟨fun pins s σ H Q I q => (h' i).choose_spec.1.run pins s σ H Q I (q i)⟩, fun F P H σ sv Q E R r k kx q i => ?_⟩
  have z := (h' i).choose_spec.2
  exact z F P H σ sv Q E R r k kx q
def PDTs (X : Cx) (W : Wz) (ifs : List Expr) (f : Dt) : Prop := ∃ t, PTs X ifs t ∧ SndT X.K W t f
theorem fam_ts {ifs : List Expr} {f : Dt} (hK : ∀ i, (X i).K = K) (h : ∀ i, PDTs (X i) W ifs f) : ∃ t, (∀ i, PTs (X i) ifs t) ∧ SndT K W t f := by
  have h' : ∀ i, ∃ t, PTs (X i) ifs t ∧ SndT K W t f := fun i => by
    obtain ⟨t, p, s⟩ := h i
    rw [hK i] at s
    exact ⟨t, p, s⟩
  refine ⟨fun σ H Q => ∀ i, (h' i).choose σ H Q, fun i => ⟨fun pins s σ H Q I q => (h' i).choose_spec.1.run pins s σ H Q I (q i)⟩, fun F P H σ sv Q E R r k kx q i => ?_⟩
  have z := (h' i).choose_spec.2
  exact z F P H σ sv Q E R r k kx q
theorem fam_ss {st : List Stmt} {f : Ds} (hK : ∀ i, (X i).K = K) (h : ∀ i, PDSs (X i) W st f) : ∃ t, (∀ i, PSs (X i) st t) ∧ SndS K W t f := by
  have h' : ∀ i, ∃ t, PSs (X i) st t ∧ SndS K W t f := fun i => by
    obtain ⟨t, p, s⟩ := h i
    rw [hK i] at s
    exact ⟨t, p, s⟩
  refine ⟨fun D σ H => ∀ i, (h' i).choose D σ H, fun i => ⟨fun pins s σ H D I q => (h' i).choose_spec.1.run pins s σ H D I (q i)⟩, fun F P H σ sv D Dd r l q i => ?_⟩
  have z := (h' i).choose_spec.2
  exact z F P H σ sv D Dd r l q
theorem fam_i {tg e : Expr} {f : Dl} (hK : ∀ i, (X i).K = K) (h : ∀ i, PDI (X i) W tg e f) : ∃ t, (∀ i, PI (X i) tg e t) ∧ SndI K W t f := by
  have h' : ∀ i, ∃ t, PI (X i) tg e t ∧ SndI K W t f := fun i => by
    obtain ⟨t, p, s⟩ := h i
    rw [hK i] at s
    exact ⟨t, p, s⟩
  refine ⟨fun σ H Q => ∀ i, (h' i).choose σ H Q, fun i => ⟨fun pins s σ H Q I q => (h' i).choose_spec.1.run pins s σ H Q I (q i)⟩, fun F P H σ sv Q E R r k kx q i => ?_⟩
  have z := (h' i).choose_spec.2
  exact z F P H σ sv Q E R r k kx q
end
/-- in a suite no error is wished for -/
abbrev wNo (z : Ez) : Wz := ⟨fun _ _ _ _ => False, z⟩
inductive DhsOk (X : Cx) : List ExceptHandler → List Dh → Prop
  | nil : DhsOk X [] []
  | plain {x : Str} {c : Value} {f : Ds} {b₀ : Stmt} {suite : List Stmt} {np pos' : Pos} {hds : List ExceptHandler} {l : List Dh} (hc : Names X x c)
      (hsu : ∀ (a : Addr) (oe : Obj) (cls : Value) (d : Option Addr) (pn : List (Addr × Obj)), Zc cls d oe → (∃ vs, oe.data = .fields vs) → PDSs (X.suite a ((a, oe) :: pn)) (wNo (some (a, cls, d))) (b₀ :: suite) f) (r : DhsOk X hds l) :
      DhsOk X (.ExceptHandler (some (.Name x np)) none (b₀ :: suite) pos' :: hds) (⟨c, none, f⟩ :: l)
  | named {x n : Str} {i : Nat} {c : Value} {f : Ds} {b₀ : Stmt} {suite : List Stmt} {np pos' : Pos} {hds : List ExceptHandler} {l : List Dh} (hc : Names X x c) (hi : X.N[i]? = some n) (hln : X.env.kindOf n = some .local)
      (hsu : ∀ (a : Addr) (oe : Obj) (cls : Value) (d : Option Addr) (pn : List (Addr × Obj)), Zc cls d oe → (∃ vs, oe.data = .fields vs) → PDSs (X.suite a ((a, oe) :: pn)) (wNo (some (a, cls, d))) (b₀ :: suite) f) (r : DhsOk X hds l) :
      DhsOk X (.ExceptHandler (some (.Name x np)) (some n) (b₀ :: suite) pos' :: hds) (⟨c, some i, f⟩ :: l)
theorem suite_ts {X : Cx} {f : Ds} {st : List Stmt} (hsu : ∀ (a : Addr) (oe : Obj) (cls : Value) (d : Option Addr) (pn : List (Addr × Obj)), Zc cls d oe → (∃ vs, oe.data = .fields vs) → PDSs (X.suite a ((a, oe) :: pn)) (wNo (some (a, cls, d))) st f) :
    ∃ ts : Addr → Value → Option Addr → TS, (∀ (a : Addr) (oe : Obj) (cls : Value) (d : Option Addr) (pn : List (Addr × Obj)), Zc cls d oe → (∃ vs, oe.data = .fields vs) → PSs (X.suite a ((a, oe) :: pn)) st (ts a cls d)) ∧ ∀ a cls d, SndS X.K (wNo (some (a, cls, d))) (ts a cls d) f := by
  have H : ∀ a cls d, ∃ t, (∀ (oe : Obj) (pn : List (Addr × Obj)), Zc cls d oe → (∃ vs, oe.data = .fields vs) → PSs (X.suite a ((a, oe) :: pn)) st t) ∧ SndS X.K (wNo (some (a, cls, d))) t f := fun a cls d => by
    obtain ⟨t, p, s⟩ := fam_ss (ι := {i : Obj × List (Addr × Obj) // Zc cls d i.1 ∧ ∃ vs, i.1.data = .fields vs}) (X := fun i => X.suite a ((a, i.1.1) :: i.1.2)) (K := X.K) (fun _ => rfl) (fun i => hsu a i.1.1 cls d i.1.2 i.2.1 i.2.2)
    exact ⟨t, fun oe pn hz hf => p ⟨(oe, pn), hz, hf⟩, s⟩
  exact ⟨fun a cls d => (H a cls d).choose, fun a oe cls d pn hz hf => (H a cls d).choose_spec.1 oe pn hz hf, fun a cls d => (H a cls d).choose_spec.2⟩
/-- the relation, where an error lies beside -/
theorem Rel.withX {K : PySem.W.Frag} {F : Fr} {P H : Hp} {σ : L2.St} {sv : Sv} (r : Rel K F P H σ sv) (hx : ∀ (i : Nat) (x : Xd), sv[i]? ≠ some (.exc x)) (z : Option (Addr × Value × Option Addr)) : Rel K { F with Xc := z } P H σ sv :=
  ⟨r.len, r.lim, r.sub, r.p0, r.new, r.ext, r.selfs, r.bags, fun i s o e1 e2 => by
    have q := r.sl i s o e1 e2
    cases s with
    | exc x => exact absurd e1 (hx i x)
    | _ => exact q, r.apart, r.kept⟩
@[simp] def Sl.isX : Sl → Bool
  | .exc _ => true
  | _ => false
@[simp] def Sv.noX (sv : Sv) : Prop := (sv.all fun s => !s.isX) = true
theorem noX_at {sv : Sv} (h : Sv.noX sv) : ∀ (i : Nat) (x : Xd), sv[i]? ≠ some (.exc x) := fun i x e => by
  have z := List.all_eq_true.mp h _ (List.mem_of_getElem? e)
  cases z
theorem Rel.setExc {K : PySem.W.Frag} {F : Fr} {P H : Hp} {σ : L2.St} {sv : Sv} {a : Addr} {cls : Value} {dd : Option Addr} {x : Xd} {i : Nat} (r : Rel K F P H σ sv) (hF : F.Xc = some (a, cls, dd)) (hx : XdRel K P H x cls dd) : Rel K F P H (σ.set i (some (.ref a))) (sv.set i (.exc x)) := by
  have back : ∀ {m : Nat} {z : Sl}, (sv.set i (.exc x))[m]? = some z → z.addr = true → sv[m]? = some z ∧ m ≠ i := fun {m z} em az => by
    by_cases hm : m = i
    · subst hm
      rw [List.getElem?_set] at em
      rw [if_pos rfl] at em
      split at em
      · cases em
        cases az
      · cases em
    · exact ⟨by rwa [List.getElem?_set_ne (Ne.symm hm)] at em, hm⟩
  refine ⟨by rw [List.length_set, List.length_set]; exact r.len, r.lim, r.sub, r.p0, r.new, r.ext, r.selfs, r.bags, fun j s o e1 e2 => ?_, fun j k s t o u p ne e1 e2 a1 a2 s1 s2 eo eu => ?_, fun p vs hp => ?_⟩
  · by_cases hj : j = i
    · subst hj
      rw [List.getElem?_set, if_pos rfl] at e1 e2
      split at e1
      · cases e1
        split at e2
        · cases e2
          exact ⟨a, cls, dd, hF, rfl, hx⟩
        · cases e2
      · cases e1
    · rw [List.getElem?_set_ne (Ne.symm hj)] at e1 e2
      exact r.sl j s o e1 e2
  · obtain ⟨b1, n1⟩ := back e1 a1
    obtain ⟨b2, n2⟩ := back e2 a2
    rw [List.getElem?_set_ne (Ne.symm n1)] at s1
    rw [List.getElem?_set_ne (Ne.symm n2)] at s2
    exact r.apart j k s t o u p ne b1 b2 a1 a2 s1 s2 eo eu
  · obtain ⟨z1, z2, z3, z4⟩ := r.kept p vs hp
    refine ⟨z1, z2, z3, fun m s e1 a1 => ?_⟩
    obtain ⟨b1, n1⟩ := back e1 a1
    rw [List.getElem?_set_ne (Ne.symm n1)]
    exact z4 m s b1 a1
theorem Rel.setUn {K : PySem.W.Frag} {F : Fr} {P H : Hp} {σ : L2.St} {sv : Sv} {i : Nat} {o' : Option V} (r : Rel K F P H σ sv) : Rel K F P H (σ.set i o') (sv.set i .un) := by
  have back : ∀ {m : Nat} {z : Sl}, (sv.set i .un)[m]? = some z → z.addr = true → sv[m]? = some z ∧ m ≠ i := fun {m z} em az => by
    by_cases hm : m = i
    · subst hm
      rw [List.getElem?_set] at em
      rw [if_pos rfl] at em
      split at em
      · cases em
        cases az
      · cases em
    · exact ⟨by rwa [List.getElem?_set_ne (Ne.symm hm)] at em, hm⟩
  refine ⟨by rw [List.length_set, List.length_set]; exact r.len, r.lim, r.sub, r.p0, r.new, r.ext, r.selfs, r.bags, fun j s o e1 e2 => ?_, fun j k s t o u p ne e1 e2 a1 a2 s1 s2 eo eu => ?_, fun p vs hp => ?_⟩
  · by_cases hj : j = i
    · subst hj
      rw [List.getElem?_set, if_pos rfl] at e1
      split at e1
      · cases e1
        trivial
      · cases e1
    · rw [List.getElem?_set_ne (Ne.symm hj)] at e1 e2
      exact r.sl j s o e1 e2
  · obtain ⟨b1, n1⟩ := back e1 a1
    obtain ⟨b2, n2⟩ := back e2 a2
    rw [List.getElem?_set_ne (Ne.symm n1)] at s1
    rw [List.getElem?_set_ne (Ne.symm n2)] at s2
    exact r.apart j k s t o u p ne b1 b2 a1 a2 s1 s2 eo eu
  · obtain ⟨z1, z2, z3, z4⟩ := r.kept p vs hp
    refine ⟨z1, z2, z3, fun m s e1 a1 => ?_⟩
    obtain ⟨b1, n1⟩ := back e1 a1
    rw [List.getElem?_set_ne (Ne.symm n1)]
    exact z4 m s b1 a1
/-- behind a suite nothing of the error is left in the slots -/
@[simp] def dTry' (K : PySem.W.Frag) (fb : Ds) (l : List Dh) : Ds := fun sv D => fb sv { D with ex := fun x sv1 => Sv.noX sv1 ∧ handleD K { D with nx := fun sv' => Sv.noX sv' ∧ D.nx sv', bk := fun sv' => Sv.noX sv' ∧ D.bk sv', ct := fun sv' => Sv.noX sv' ∧ D.ct sv' } l x sv1 }
section
variable {X : Cx} {W : Wz} {body : List Stmt} {h₀ : ExceptHandler} {hds : List ExceptHandler} {l : List Dh} {pos : Pos} {fb : Ds}
theorem dhs_hds {X : Cx} {hds : List ExceptHandler} {l : List Dh} : DhsOk X hds l → ∃ l' : List Hd, HdsN X hds l' ∧ ∀ (F : Fr) (P H : Hp) (σ : L2.St) (sv : Sv) (D : Ends) (Dd : Ed) (Wout : Wz) (x : Xd) (cls : Value) (dd : Option Addr),
    Rel X.K (F.at Wout.z) P H σ sv → Link X.K Wout F P D Dd → Sv.noX sv → XdRel X.K P H x cls dd → handleD X.K { Dd with nx := fun sv' => Sv.noX sv' ∧ Dd.nx sv', bk := fun sv' => Sv.noX sv' ∧ Dd.bk sv', ct := fun sv' => Sv.noX sv' ∧ Dd.ct sv' } l x sv → wNamed X.K Wout.w D l' cls dd σ H := by
  intro h
  induction h with
  | nil => exact ⟨[], .nil, fun F P H σ sv D Dd Wout x cls dd r l n hx q => l.ex cls dd σ H P x sv r hx q⟩
  | @plain xn c f b₀ suite np pos' hds2 l2 hc hsu r ih =>
    obtain ⟨l', h1, h2⟩ := ih
    obtain ⟨ts, hsu, hsn⟩ := suite_ts hsu
    refine ⟨⟨c, none, ts⟩ :: l', .plain hc hsu h1, fun F P H σ sv D Dd Wout x cls dd r l n hx q => ?_⟩
    obtain ⟨b, e, q1, q2⟩ := q
    refine ⟨b, by rw [hx.1]; exact e, fun eb a ha => ?_, fun eb => h2 F P H σ sv D Dd Wout x cls dd r l n hx (q2 eb)⟩
    refine hsn a cls dd F P H σ sv D _ (r.withX (noX_at n) _) ⟨?_, ?_, ?_, ?_, ?_⟩ (q1 eb)
    · exact fun σ' H' P' sv' r' t' q' => l.nx σ' H' P' sv' (r'.withX (noX_at q'.1) Wout.z) t' q'.2
    · intro σ' H' P' sv' v d r' rv q'
      exact l.rt σ' H' P' (sv'.map fun s => match s with | .exc _ => .un | s => s) v d (Rel.dropX (F := F.at Wout.z) r') rv q'
    · exact fun σ' H' P' sv' r' t' q' => l.bk σ' H' P' sv' (r'.withX (noX_at q'.1) Wout.z) t' q'.2
    · exact fun σ' H' P' sv' r' t' q' => l.ct σ' H' P' sv' (r'.withX (noX_at q'.1) Wout.z) t' q'.2
    · exact fun _ _ _ _ _ _ _ _ _ z => z
  | @named xn n i c f b₀ suite np pos' hds2 l2 hc hi hln hsu r ih =>
    obtain ⟨l', h1, h2⟩ := ih
    obtain ⟨ts, hsu, hsn⟩ := suite_ts hsu
    refine ⟨⟨c, some i, ts⟩ :: l', .named hc hi hln hsu h1, fun F P H σ sv D Dd Wout x cls dd r l nx hx q => ?_⟩
    obtain ⟨b, e, q1, q2⟩ := q
    refine ⟨b, by rw [hx.1]; exact e, fun eb a ha => ?_, fun eb => h2 F P H σ sv D Dd Wout x cls dd r l nx hx (q2 eb)⟩
    refine hsn a cls dd F P H (σ.set i (some (.ref a))) (sv.set i (.exc x)) _ _ ((r.withX (noX_at nx) (some (a, cls, dd))).setExc rfl hx) ⟨?_, ?_, ?_, ?_, ?_⟩ (q1 eb)
    · exact fun σ' H' P' sv' r' t' q' => l.nx _ H' P' (sv'.set i .un) (r'.setUn.withX (noX_at q'.1) Wout.z) t' q'.2
    · intro σ' H' P' sv' v d r' rv q'
      exact l.rt σ' H' P' (sv'.map fun s => match s with | .exc _ => .un | s => s) v d (Rel.dropX (F := F.at Wout.z) r') rv q'
    · exact fun σ' H' P' sv' r' t' q' => l.bk _ H' P' (sv'.set i .un) (r'.setUn.withX (noX_at q'.1) Wout.z) t' q'.2
    · exact fun σ' H' P' sv' r' t' q' => l.ct _ H' P' (sv'.set i .un) (r'.setUn.withX (noX_at q'.1) Wout.z) t' q'.2
    · exact fun _ _ _ _ _ _ _ _ _ z => z
where
  Rel.dropX {K : PySem.W.Frag} {F : Fr} {P H : Hp} {σ : L2.St} {sv : Sv} {z : Option (Addr × Value × Option Addr)} (r : Rel K { F with Xc := z } P H σ sv) : Rel K F P H σ (sv.map fun s => match s with | .exc _ => .un | s => s) := by
    have back : ∀ {m : Nat} {s : Sl}, (sv.map fun s => match s with | .exc _ => .un | s => s)[m]? = some s → s = .un ∨ (sv[m]? = some s ∧ ∀ x, s ≠ .exc x) := fun {m s} e => by
      rw [List.getElem?_map] at e
      cases q : sv[m]? with
      | none =>
        rw [q] at e
        cases e
      | some t =>
        rw [q] at e
        cases t <;> cases e <;> first | exact .inl rfl | exact .inr ⟨rfl, fun x z => nomatch z⟩
    refine ⟨by rw [List.length_map]; exact r.len, r.lim, r.sub, r.p0, r.new, r.ext, r.selfs, r.bags, fun i s o e1 e2 => ?_, fun i j s t o u p ne e1 e2 a1 a2 s1 s2 eo eu => ?_, fun p vs hp => ?_⟩
    · rcases back e1 with rfl | ⟨e3, nx⟩
      · trivial
      · have q := r.sl i s o e3 e2
        cases s with
        | exc x => exact absurd rfl (nx x)
        | _ => exact q
    · rcases back e1 with rfl | ⟨e3, _⟩
      · cases a1
      · rcases back e2 with rfl | ⟨e4, _⟩
        · cases a2
        · exact r.apart i j s t o u p ne e3 e4 a1 a2 s1 s2 eo eu
    · obtain ⟨z1, z2, z3, z4⟩ := r.kept p vs hp
      refine ⟨z1, z2, z3, fun m s e1 a1 => ?_⟩
      rcases back e1 with rfl | ⟨e3, _⟩
      · cases a1
      · exact z4 m s e3 a1
theorem Rel.p0none {K : PySem.W.Frag} {F : Fr} {P H : Hp} {σ : L2.St} {sv : Sv} (r : Rel K F P H σ sv) {a : Addr} {u : HO} (z1 : F.P0 a = none) (hu : F.H0 a = some u) : P a = none := by
  cases q : P a with
  | none => rfl
  | some v =>
    rcases r.new a v q with z | z
    · rw [z1] at z
      cases z
    · rw [hu] at z
      cases z
theorem Rel.rebase {K : PySem.W.Frag} {F : Fr} {P H : Hp} {σ : L2.St} {sv : Sv} (r : Rel K F P H σ sv) : Rel K { F with P0 := P } P H σ sv := by
  refine ⟨r.len, r.lim, r.sub, Sub.refl P, fun a o e => .inl e, r.ext, fun a hs => ?_, fun a hb => ?_, fun i s o e1 e2 => ?_, r.apart, r.kept⟩
  · obtain ⟨z1, ⟨u, hu⟩, z3⟩ := r.selfs a hs
    exact ⟨r.p0none z1 hu, ⟨u, hu⟩, z3⟩
  · obtain ⟨z1, ⟨u, hu⟩, z3⟩ := r.bags a hb
    exact ⟨r.p0none z1 hu, ⟨u, hu⟩, z3⟩
  · have q := r.sl i s o e1 e2
    cases s <;> exact q
theorem Rel.unbase {K : PySem.W.Frag} {F : Fr} {P P1 H H1 : Hp} {σ σ1 : L2.St} {sv sv1 : Sv} (r0 : Rel K F P1 H1 σ1 sv1) (r : Rel K { F with P0 := P1 } P H σ sv) : Rel K F P H σ sv := by
  refine ⟨r.len, r.lim, r.sub, r0.p0.trans r.p0, fun a o e => ?_, r.ext, fun a hs => ⟨(r0.selfs a hs).1, (r.selfs a hs).2⟩, fun a hb => ⟨(r0.bags a hb).1, (r.bags a hb).2⟩, fun i s o e1 e2 => ?_, r.apart, r.kept⟩
  · rcases r.new a o e with z | z
    · exact r0.new a o z
    · exact .inr z
  · have q := r.sl i s o e1 e2
    cases s <;> exact q
theorem pds_try (hs : X.stack = X.env :: X.outer) (hf : X.env.frame = some X.env.locals) (hN : X.N.Nodup) (tk : Takes X W.w)
    (hb : ∀ (W' : WX) (pn : List (Addr × Obj)) (xe : Value → Shared → Prop), Takes (X.tr pn xe) W' → PassesOwn (model X.prog X.w) X.A X.env xe → PDSs (X.tr pn xe) ⟨W', W.z⟩ body fb) (hh : DhsOk X (h₀ :: hds) l) :
    PDS X W (.Try body (h₀ :: hds) [] [] pos) (dTry' X.K fb l) := by
  obtain ⟨l', h1, h2⟩ := dhs_hds hh
  have HB : ∀ W' : WX, ∃ t, (∀ (pn : List (Addr × Obj)) (xe : Value → Shared → Prop), Takes (X.tr pn xe) W' → PassesOwn (model X.prog X.w) X.A X.env xe → PSs (X.tr pn xe) body t) ∧ SndS X.K ⟨W', W.z⟩ t fb := fun W' => by
    obtain ⟨t, p, s⟩ := fam_ss (ι := {i : List (Addr × Obj) × (Value → Shared → Prop) // Takes (X.tr i.1 i.2) W' ∧ PassesOwn (model X.prog X.w) X.A X.env i.2}) (X := fun i => X.tr i.1.1 i.1.2) (K := X.K) (fun _ => rfl) (fun i => hb W' i.1.1 i.1.2 i.2.1 i.2.2)
    exact ⟨t, fun pn xe h1 h2 => p ⟨(pn, xe), h1, h2⟩, s⟩
  refine ⟨_, ps_try_named hs hf hN tk (tb := fun W' => (HB W').choose) (fun W' => (HB W').choose_spec.1) h1, fun F P H σ sv D Dd r l q => ?_⟩
  refine (HB _).choose_spec.2 { F with P0 := P } P H σ sv D { Dd with ex := fun x sv1 => Sv.noX sv1 ∧ handleD X.K { Dd with nx := fun sv' => Sv.noX sv' ∧ Dd.nx sv', bk := fun sv' => Sv.noX sv' ∧ Dd.bk sv', ct := fun sv' => Sv.noX sv' ∧ Dd.ct sv' } _ x sv1 } r.rebase ⟨?_, ?_, ?_, ?_, ?_⟩ q
  · exact fun σ' H' P' sv' r' t' q' => l.nx σ' H' P' sv' (Rel.unbase (F := F.at W.z) r r') t' q'
  · exact fun σ' H' P' sv' v d r' rv q' => l.rt σ' H' P' sv' v d (Rel.unbase (F := F.at W.z) r r') rv q'
  · exact fun σ' H' P' sv' r' t' q' => l.bk σ' H' P' sv' (Rel.unbase (F := F.at W.z) r r') t' q'
  · exact fun σ' H' P' sv' r' t' q' => l.ct σ' H' P' sv' (Rel.unbase (F := F.at W.z) r r') t' q'
  · exact fun cls dd σ' H' P' x sv' r' hx q' => h2 F P' H' σ' sv' D Dd W x cls dd (Rel.unbase (F := F.at W.z) r r') (l.mono r'.p0) q'.1 hx q'.2
end
end Pd
end
section
set_option autoImplicit false
set_option Elab.async false
set_option linter.all false
set_option autoImplicit false
set_option maxRecDepth 100000
set_option maxHeartbeats 4000000
/-! Pd10: what is read of a caught error: its fields, its classes. -/
namespace Pd
section
open PySem PySem.W PySem.Spec PySem.Calls PyProof.Rows
variable {prog : Program} {w : World} {A : Around} {E : Value → Shared → Prop} {s : Shared} {K : Frag} {x D : Addr} {ox : Obj} {od : Option Obj}
theorem findObj_dataO {C : Addr} {name : Str} {a g : Value} (hc : (clsIn K C).isSome = true) (ha : findIn K (.ref C) name = some (some a)) (hg : specialIn K a "__get__" = some (some g)) (ht : takesIn K a = some true) : findObj K C od name = some (.bind g a) := by
  obtain ⟨cd, hc⟩ := Option.isSome_iff_exists.mp hc
  unfold findObj
  rw [hc, Option.bind_some, ha, Option.bind_some]
  simp [hg, ht]
theorem kin_classO {Q : Option Value → Shared → Prop} (C : L2.ExcC K D)
    (X : K.In s.heap) (I : InstAt s.heap x ox D od) (h : Q (some (.ref D)) { s with toks := s.toks + 1 }) : wpAny (model prog w) A (getAttr? (.ref x) "__class__") Q E s := by
  have hf : findObj K D od "__class__" = some (.bind (.builtin "getset_descriptor.__get__") (.builtin "object.__class__")) := findObj_dataO (by obtain ⟨cd, hc, _⟩ := any_some C.hd; rw [hc]; rfl) C.ha C.hn C.ht
  have hga := C.hg
  have hgt := C.hk
  have hsub := C.hs
  have hm := C.hm
  obtain ⟨hp, g, d, t, os⟩ := s
  have L0 := I.type (M := model prog w)
  have L1 := looks_findIn (M := model prog w) X hga
  have L2 := looks_findIn (M := model prog w) X hgt
  have L3 := looks_find (M := model prog w) X I hf
  have sub : Looks (model prog w) hp (isInstance (.ref x) (.type "BaseException")) true := L0.andThen (looks_subIn X hsub)
  have hx0 : (false && onTheHeap (Value.builtin "BaseException.__getattribute__")) = false := rfl
  have hx2 : (Value.builtin "BaseException.__getattribute__" == Value.builtin "object.__getattribute__") = false := by decide +kernel
  have hx1 : (onTheHeap (Value.ref D) && Value.builtin "BaseException.__getattribute__" == Value.builtin "object.__getattribute__") = false := by rw [hx2]; rfl
  unfold getAttr? getAttrBy? getAttrBy
  refine wpAny_bind (wpAny_mkText (wpAny_bind (wpAny_attempt (wpAny_holding (wpAny_bind (L0.at (wpAny_bind (L1.at ?_))))))))
  show wpAny _ _ (if (onTheHeap (Value.ref D) && Value.builtin "BaseException.__getattribute__" == Value.builtin "object.__getattribute__") = true then _ else _) _ _ _
  rw [hx1, if_neg Bool.false_ne_true]
  unfold getAttrByItsOwn hookBefore
  refine wpAny_bind ?_
  rw [if_pos (show onTheHeap (Value.ref D) = true from rfl)]
  refine L2.at ?_
  refine wpAny_bind (wpAny_attempt (wpAny_holding ?_))
  unfold callGetattribute
  rw [hx0, if_neg Bool.false_ne_true]
  unfold boundAndCalled
  rw [PySem.F.excAttr_ValueError.ga.bind (.ref x)]
  refine wpAny_bind (wpAny_pure ?_)
  show wpAny _ _ (call (.builtin "BaseException.__getattribute__") [.ref x, .str "__class__" t]) _ _ _
  refine wpAny_call (codeAny_call_builtin PySem.F.excAttr_ValueError.ga.plain PySem.F.entry_bexc_ga ?_)
  refine @check_slot (model prog w) _ _ ⟨hp, g, d, t + 1, os⟩ "BaseException.__getattribute__" "BaseException" "__getattribute__" (.ref x) [.str "__class__" t] [] _ (by decide +kernel) (by decide +kernel) sub (PySem.F.args_bexc_ga (.ref x) (.str "__class__" t)) ?_
  unfold Builtin.«object.__getattribute__»
  refine wpAny_bind (wpAny_of_eq (a := ((Value.ref x : Value), [Value.str "__class__" t])) (by first | rfl | (simp only [slotArgs]; rfl)) ?_)
  refine wpAny_bind (wpAny_pure (wpAny_bind (L0.at (wpAny_bind (L3.at ?_)))))
  show wpAny _ _ (holding [Value.builtin "object.__class__"] (call (.builtin "getset_descriptor.__get__") [.builtin "object.__class__", .ref x, .ref D]) >>= ret) _ _ _
  refine wpAny_bind (wpAny_holding (wpAny_call (class_get (s := ⟨hp, g, d, t + 1, os⟩) (ox := ox) (od := od) X I hm ?_)))
  refine wpAny_pure ?_
  show wpAny _ _ (handedOut (.ref D)) _ _ _
  rw [handedOut_of (v := .ref D) rfl]
  first
    | exact wpAny_pure (wpAny_pure h)
    | exact wpAny_pure h
    | exact wpAny_pure (wpAny_bind (wpAny_pure (wpAny_pure h)))
theorem kitx_excO (C : L2.ExcC K D) (ox : Obj) : KitX K (.ref x) (.ref D) (fun h => ∃ od, InstAt h x ox D od) where
  ty := fun _ _ _ ⟨_, I⟩ => I.type
  it := fun _ _ X _ => by
    obtain ⟨cdD, hcD, _⟩ := any_some C.hd
    unfold clsIn at hcD
    split at hcD
    · rename_i c' d' cd' sl' ho
      intro A' Q' E' s' k q
      unfold isType loadHead
      exact wpAny_bind (wpAny_loadPart (k _ _ (X _ _ ho)) (wpAny_pure q))
    · cases hcD
  ne := fun h tp dd its n sl X htp => by
    obtain ⟨cdD, hcD, _⟩ := any_some C.hd
    refine Bool.eq_false_iff.mpr fun q => ?_
    have e : D = tp := Value.ref.inj (beq_iff_eq.mp q)
    subst e
    unfold clsIn at hcD
    split at hcD
    · rename_i c' d' cd' sl' ho
      have z := (X _ _ ho).symm.trans htp
      cases z
    · cases hcD
  ca := fun X I k => by
    obtain ⟨od, I⟩ := I
    exact kin_classO C X I k
end
open PySem PySem.Spec PyProof.Rows L2
section
variable {X : Cx} {a : Addr} {oe : Obj} {cls : Value} {dd : Option Addr} {pn : List (Addr × Obj)}
/-- isinstance(e, c) of the caught error -/
def rIsX (K : PySem.W.Frag) (a : Addr) (cls : Value) (dd : Option Addr) : List V → Hp → VK → Prop := fun xs H Q => ∃ (D : Addr) (c : V) (cv : Value) (b : Bool), xs = [.ref a, c] ∧ ClsV c cv ∧ cls = .ref D ∧ ExcC K D ∧ (dd = none ∨ ∃ d fs, dd = some d ∧ H d = some (.xd fs)) ∧ PySem.W.kitOne K (.ref D) cv = some b ∧ Q (.bl b) H
theorem call_isX (hz : Zc cls dd oe) (hf : ∃ vs, oe.data = .fields vs) : CallR (X.suite a ((a, oe) :: pn)) (.builtin "isinstance") (rIsX X.K a cls dd) := by
  intro pins s σ H xs us Q I r h
  obtain ⟨D, c, cv, b, rfl, hcv, ecl, C, hd, e, q⟩ := h
  subst ecl
  obtain ⟨u1, u2, rfl, r1, r2⟩ := vals2 r
  cases r1
  have e2 := hcv.eq r2
  subst e2
  obtain ⟨hget, _⟩ := I.pin (a, oe) (List.mem_append.mpr (.inl List.mem_cons_self))
  obtain ⟨vs, hv⟩ := hf
  have J : ∃ od, PySem.W.InstAt s.heap a oe D od := by
    obtain ⟨oc, od, oda, osl⟩ := oe
    obtain ⟨h1, h2⟩ := hz
    dsimp only at h1 h2 hv
    subst h1 h2 hv
    rcases hd with rfl | ⟨d, fs, rfl, hd⟩
    · exact ⟨none, hget, rfl, rfl, trivial⟩
    · obtain ⟨mA, ⟨o, es, ep, ho, _⟩, _⟩ := (show ObjOk X.prog X.w H s.heap d (.xd fs) from I.hok d _ hd)
      exact ⟨some o, hget, rfl, rfl, ho⟩
  exact PySem.W.kia_one (kitx_excO C oe) I.kIn J e (fun z => nomatch z) fun tk => ⟨.bl b, H, I.kept (t' := tk) fun _ _ z => z, rfl, q⟩
/-- e.f -/
@[simp] def dXf (K : PySem.W.Frag) (i : Nat) (C : Addr) (f : Str) : De := fun sv Q _ => ∃ x, sv[i]? = some (.exc x) ∧ x.C = C ∧ ∃ z, (x.ns.zip x.ds).lookup f = some z ∧ Q z sv
theorem snd_xf {K : PySem.W.Frag} {w : WX} {i : Nat} {C : Addr} {f : Str} : SndE K ⟨w, some (a, cls, dd)⟩ (tXf a cls dd C f (tVar i)) (dXf K i C f) := fun F P H σ sv Q E R r k _ q => by
  obtain ⟨x, e, rfl, z, ez, q⟩ := q
  obtain ⟨o, ho, a', cls', dd', hX, rfl, h1, h2⟩ := rel_get r e
  cases hX
  refine ⟨_, ho, rfl, h1, ?_⟩
  rcases h2 with ⟨h2, _⟩ | ⟨d, fs, rfl, h3, h4⟩
  · rw [h2] at ez
    simp at ez
  · obtain ⟨v, ev, rv⟩ := h4 f z ez
    exact ⟨d, fs, v, rfl, r.sub _ _ h3, ev, k v H P z sv r (Sub.refl P) rv q⟩
theorem pd_xf {w : WX} {i : Nat} {C : Addr} {f n : Str} {p pos : Pos} (T : XfC X.K C) (hno : PySem.W.findIn X.K (.ref C) f = some none) (hN : X.N[i]? = some n) (hv : Vis X.env.scope n) (hz : Zc cls dd oe) (hf : ∃ vs, oe.data = .fields vs)
    (hd : (n == ("__debug__" : Str)) = false := by decide) (hcd : (n == ("__classdict__" : Str)) = false := by decide) (hb : attributeBase (.Name n p) f X.env (eval (.Name n p) X.env) = eval (.Name n p) X.env := by rfl) :
    PD (X.suite a ((a, oe) :: pn)) ⟨w, some (a, cls, dd)⟩ (.Attribute (.Name n p) f pos) (dXf X.K i C f) :=
  ⟨_, pe_xf T hno hz hf (pe_var (X := X.suite a ((a, oe) :: pn)) hN hv hd hcd) hb, snd_xf⟩
@[simp] def dXi (K : PySem.W.Frag) (i : Nat) (c : Value) : De := fun sv Q _ => ∃ x, sv[i]? = some (.exc x) ∧ ExcC K x.C ∧ ∃ b, PySem.W.kitOne K (.ref x.C) c = some b ∧ Q (.bl b) sv
theorem snd_xi {K : PySem.W.Frag} {w : WX} {i : Nat} {c : Value} {cv : V} (hcv : ClsV cv c) : SndE K ⟨w, some (a, cls, dd)⟩ (tCB (rIsX K a cls dd) (tCons (tVar i) (tCons (tC cv) tNil))) (dXi K i c) := fun F P H σ sv Q E R r k _ q => by
  obtain ⟨x, e, hC, b, eb, q⟩ := q
  obtain ⟨o, ho, a', cls', dd', hX, rfl, h1, h2⟩ := rel_get r e
  cases hX
  refine ⟨_, ho, x.C, cv, c, b, rfl, hcv, h1, hC, ?_, eb, k _ H P (.bl b) sv r (Sub.refl P) rfl q⟩
  rcases h2 with ⟨_, h2⟩ | ⟨d, fs, h2, h3, _⟩
  · exact .inl h2
  · exact .inr ⟨d, fs, h2, r.sub _ _ h3⟩
section
variable {w : WX} {i : Nat} {n x : Str} {p p2 p3 pos : Pos}
theorem pd_xi {ce : Expr} {cv : V} {c : Value} (hcv : ClsV cv c) (hce : PE (X.suite a ((a, oe) :: pn)) ce (tC cv)) (hg : Gl X "isinstance") (hm : X.mg "isinstance" = none) (hN : X.N[i]? = some n) (hv : Vis X.env.scope n) (hz : Zc cls dd oe) (hf : ∃ vs, oe.data = .fields vs)
    (hd : (n == ("__debug__" : Str)) = false := by decide) (hcd : (n == ("__classdict__" : Str)) = false := by decide)
    (he : starEach [.Name n p2, ce] X.env = (false, eval (.Name n p2) X.env) :: starEach [ce] X.env := by rfl) (he2 : starEach [ce] X.env = (false, eval ce X.env) :: starEach [] X.env := by rfl) (hpl : (backTo pos (starEach [ce] X.env)).any (·.1) = false := by rfl) :
    PD (X.suite a ((a, oe) :: pn)) ⟨w, some (a, cls, dd)⟩ (.Call (.Name "isinstance" p) [.Name n p2, ce] [] pos) (dXi X.K i c) :=
  ⟨_, pe_callB (X := X.suite a ((a, oe) :: pn)) (call_isX hz hf) hg hm boot_isi' (pa_cons (pe_var (X := X.suite a ((a, oe) :: pn)) hN hv hd hcd) (pa_cons hce pa_nil he2) he) (by decide) (by decide) he hpl, snd_xi hcv⟩
end
end
end Pd
end
section
set_option autoImplicit false
set_option Elab.async false
set_option linter.all false
set_option autoImplicit false
set_option maxRecDepth 100000
set_option maxHeartbeats 4000000
/-! Pd11: families of contexts; list comprehensions over data. -/
namespace Pd
open PySem PySem.Spec PyProof.Rows L2

theorem pdts_nil {X : Cx} {W : Wz} : PDTs X W [] (fun sv Q _ => Q true sv) := ⟨_, pts_nil, fun F P H σ sv Q E R r k _ q => k true H P sv r (Sub.refl P) q⟩
theorem pdts_one {X : Cx} {W : Wz} {c : Expr} {f : Dt} (h : PDT X W c f) : PDTs X W [c] f := by
  obtain ⟨t, p, s⟩ := h
  exact ⟨t, pts_one p, s⟩

/-! ### targets in a block: nothing but the block's names is written -/
theorem wipe_get {σ : L2.St} {i : Nat} : ∀ {vs : List Nat}, (wipe σ vs)[i]? = if i ∈ vs then (σ[i]?).map (fun _ => (none : Option V)) else σ[i]?
  | [] => by simp [wipe]
  | v :: vs => by
    unfold wipe
    by_cases hi : v = i
    · subst hi
      rw [List.getElem?_set, if_pos rfl]
      simp only [List.mem_cons, true_or, if_true]
      by_cases hl : v < σ.length
      · have hl2 : v < (wipe σ vs).length := by rw [wipe_length]; exact hl
        rw [if_pos hl2, List.getElem?_eq_getElem hl]
        rfl
      · have hl2 : ¬ v < (wipe σ vs).length := by rw [wipe_length]; exact hl
        rw [if_neg hl2, List.getElem?_eq_none (Nat.le_of_not_lt hl)]
        rfl
    · rw [List.getElem?_set_ne hi, wipe_get (vs := vs)]
      have : (i ∈ v :: vs) ↔ i ∈ vs := by
        rw [List.mem_cons]
        exact ⟨fun z => z.resolve_left fun e => hi e.symm, .inr⟩
      simp only [this]
theorem wipe_wipe {σ : L2.St} {vs : List Nat} : wipe (wipe σ vs) vs = wipe σ vs := by
  refine List.ext_getElem? fun i => ?_
  rw [wipe_get, wipe_get]
  by_cases h : i ∈ vs
  · simp only [h, if_true]
    cases σ[i]? <;> rfl
  · simp only [h, if_false]
theorem wipe_set {σ : L2.St} {vs : List Nat} {i : Nat} {o : Option V} (h : i ∈ vs) : wipe (σ.set i o) vs = wipe σ vs := by
  refine List.ext_getElem? fun j => ?_
  rw [wipe_get, wipe_get]
  by_cases hj : j ∈ vs
  · simp only [hj, if_true]
    by_cases e : i = j
    · subst e
      rw [List.getElem?_set, if_pos rfl]
      by_cases hl : i < σ.length
      · rw [if_pos hl, List.getElem?_eq_getElem hl]
        rfl
      · rw [if_neg hl, List.getElem?_eq_none (Nat.le_of_not_lt hl)]
    · rw [List.getElem?_set_ne e]
  · simp only [hj, if_false]
    rw [List.getElem?_set_ne fun e => hj (by rw [← e]; exact h)]
def SndGw (vs : List Nat) (K : PySem.W.Frag) (g : TG) (f : Dg) : Prop := ∀ (F : Fr) (P H : Hp) (σ : L2.St) (sv : Sv) (d : D) (v : V) (Q : Sv → Prop) (R : L2.St → Hp → Prop), Rel K F P H σ sv → Rp K P d v →
  (∀ σ' sv', wipe σ' vs = wipe σ vs → Rel K F P H σ' sv' → Q sv' → R σ' H) → f d sv Q → g v σ H R
def PDGw (X : Cx) (vs : List Nat) (e : Expr) (f : Dg) : Prop := ∃ g, PG X e g ∧ SndGw vs X.K g f
def SndGsw (vs : List Nat) (K : PySem.W.Frag) (g : TGs) (f : Dgs) : Prop := ∀ (F : Fr) (P H : Hp) (σ : L2.St) (sv : Sv) (ds : List D) (us : List V) (Q : Sv → Prop) (R : L2.St → Hp → Prop), Rel K F P H σ sv → RpL K P ds us →
  (∀ σ' sv', wipe σ' vs = wipe σ vs → Rel K F P H σ' sv' → Q sv' → R σ' H) → f ds sv Q → g us σ H R
def PDGsw (X : Cx) (vs : List Nat) (es : List Expr) (f : Dgs) : Prop := ∃ g, PGs X es g ∧ SndGsw vs X.K g f
theorem fam_gw {ι : Type} {X : ι → Cx} {K : PySem.W.Frag} {vs : List Nat} {e : Expr} {f : Dg} (hK : ∀ i, (X i).K = K) (h : ∀ i, PDGw (X i) vs e f) : ∃ g, (∀ i, PG (X i) e g) ∧ SndGw vs K g f := by
  have h' : ∀ i, ∃ g, PG (X i) e g ∧ SndGw vs K g f := fun i => by
    obtain ⟨t, p, s⟩ := h i
    rw [hK i] at s
    exact ⟨t, p, s⟩
  refine ⟨fun v σ H Q => ∀ i, (h' i).choose v σ H Q, fun i => ⟨fun pins s σ H v u Q I rv q => (h' i).choose_spec.1.run pins s σ H v u Q I rv (q i)⟩, fun F P H σ sv d v Q R r rv k q i => ?_⟩
  have z := (h' i).choose_spec.2
  exact z F P H σ sv d v Q R r rv k q
section
variable {X : Cx} {pos : Pos} {vs : List Nat}
theorem pdgw_name {i : Nat} {x : Str} (hN : X.N.Nodup) (hi : X.N[i]? = some x) (hx : Loc X.env.scope x) (hiv : i ∈ vs) (hf : X.fn x = true ∨ X.env.scope.names.lookup x = some .local := by first | exact .inl rfl | exact .inr rfl | assumption) : PDGw X vs (.Name x pos) (dgName i) :=
  ⟨_, pg_name hN hi hx hf, fun F P H σ sv d v Q R r rv k q => k _ _ (wipe_set hiv) (r.setDat rv) q⟩
theorem pdgsw_nil : PDGsw X vs [] dgNil := ⟨_, pgs_nil, fun F P H σ sv ds us Q R r rv k q => by
  obtain ⟨rfl, q⟩ := q
  exact ⟨rv, k _ _ rfl r q⟩⟩
theorem pdgsw_cons {e : Expr} {es : List Expr} {f : Dg} {g : Dgs} (h1 : PDGw X vs e f) (h2 : PDGsw X vs es g) (hs : (assignEach (e :: es) X.env).map (·.2) = assign e X.env :: (assignEach es X.env).map (·.2) := by rfl) : PDGsw X vs (e :: es) (dgCons f g) := by
  obtain ⟨t, p1, s1⟩ := h1
  obtain ⟨u, p2, s2⟩ := h2
  refine ⟨_, pgs_cons p1 p2 hs, fun F P H σ sv ds us Q R r rv k q => ?_⟩
  obtain ⟨d, rr, rfl, q⟩ := q
  obtain ⟨v, vr, rfl, r1, r2⟩ := rv
  exact ⟨v, vr, rfl, s1 F P H σ sv d v _ _ r r1 (fun σ' sv' e' r' q' => s2 F P H σ' sv' rr vr Q R r' r2 (fun σ2 sv2 e2 r2' q2 => k σ2 sv2 (e2.trans e') r2' q2) q') q⟩
theorem pdgw_tup {es : List Expr} {k : Nat} {g : Dgs} {n : Nat} (hc : X.calm = true) (h : PDGsw X vs es g) (hn : (assignEach es X.env).length = n := by rfl) (hst : (assignEach es X.env).findIdx? (·.1) = none := by rfl) : PDGw X vs (.Tuple es k pos) (dgTup n g) := by
  obtain ⟨t, p, s⟩ := h
  refine ⟨_, PG.or (pg_tup hc p hn hst) (pg_lst hc p hn hst), fun F P H σ sv d v Q R r rv kk q => ?_⟩
  cases d with
  | tup ds =>
    obtain ⟨a, xs, rfl, e1, rl⟩ := rv
    exact .inl ⟨a, xs, rfl, sub_t r.sub e1, by rw [rl.length]; exact q.1, s F P H σ sv ds xs Q R r rl kk q.2⟩
  | lst ds =>
    obtain ⟨a, xs, rfl, e1, rl⟩ := rv
    exact .inr ⟨a, xs, rfl, SqL.of (r.sub _ _ e1), by rw [rl.length]; exact q.1, s F P H σ sv ds xs Q R r rl kk q.2⟩
  | _ => exact q.elim
end

/-! ### slots of a block -/
@[simp] def unAt (sv : Sv) : List Nat → Sv
  | [] => sv
  | v :: vs => (unAt sv vs).set v .un
theorem unAt_un {sv : Sv} {i : Nat} {s : Sl} : ∀ {vs : List Nat}, i ∈ vs → (unAt sv vs)[i]? = some s → s = .un
  | v :: vs, h, e => by
    unfold unAt at e
    by_cases hv : v = i
    · subst hv
      rw [List.getElem?_set, if_pos rfl] at e
      split at e
      · cases e
        rfl
      · cases e
    · rw [List.getElem?_set_ne hv] at e
      rcases List.mem_cons.mp h with z | z
      · exact absurd z.symm hv
      · exact unAt_un z e
theorem Rel.wipe {K : PySem.W.Frag} {F : Fr} {P H : Hp} {σ : L2.St} {sv : Sv} (r : Rel K F P H σ sv) : ∀ (vs : List Nat), Rel K F P H (L2.wipe σ vs) (unAt sv vs)
  | [] => r
  | v :: vs => (Rel.wipe r vs).setUn
/-- the relation asks nothing of slots that are unknown -/
theorem Rel.congr {K : PySem.W.Frag} {F : Fr} {P H : Hp} {σ σ' : L2.St} {sv : Sv} (r : Rel K F P H σ sv) (hl : σ'.length = σ.length) (h : ∀ (i : Nat) (s : Sl), sv[i]? = some s → s ≠ .un → σ'[i]? = σ[i]?) : Rel K F P H σ' sv := by
  have na : ∀ {s : Sl}, s.addr = true → s ≠ .un := fun a e => by
    subst e
    cases a
  refine ⟨by rw [hl]; exact r.len, r.lim, r.sub, r.p0, r.new, r.ext, r.selfs, r.bags, fun i s o e1 e2 => ?_, fun i j s t o u p ne e1 e2 a1 a2 s1 s2 eo eu => ?_, fun p vs hp => ?_⟩
  · by_cases hs : s = .un
    · subst hs
      trivial
    · rw [h i s e1 hs] at e2
      exact r.sl i s o e1 e2
  · rw [h i s e1 (na a1)] at s1
    rw [h j t e2 (na a2)] at s2
    exact r.apart i j s t o u p ne e1 e2 a1 a2 s1 s2 eo eu
  · obtain ⟨z1, z2, z3, z4⟩ := r.kept p vs hp
    refine ⟨z1, z2, z3, fun m s e1 a1 => ?_⟩
    rw [h m s e1 (na a1)]
    exact z4 m s e1 a1
theorem Rel.unwipe {K : PySem.W.Frag} {F : Fr} {P H : Hp} {σ : L2.St} {sv : Sv} {vs : List Nat} (r : Rel K F P H (L2.wipe σ vs) sv) (hu : ∀ (i : Nat) (s : Sl), i ∈ vs → sv[i]? = some s → s = .un) : Rel K F P H σ sv :=
  r.congr (wipe_length σ vs).symm fun i s e ne => by
    rw [wipe_get, if_neg fun hi => ne (hu i s hi e)]
/-- the list that is put aside is changed -/
theorem Rel.keepTo {K : PySem.W.Frag} {F : Fr} {P H : Hp} {σ : L2.St} {sv : Sv} {p : Addr} {vs ws : List V} (r : Rel K (F.keep p vs) P H σ sv) (hk : ∀ q us, (q, us) ∈ F.Kp → q ≠ p) : Rel K (F.keep p ws) P (upd H p (.lst ws)) σ sv := by
  obtain ⟨h1, h2, h3, h4⟩ := r.kept p vs List.mem_cons_self
  have nb : ∀ a, F.B0 a → a ≠ p := fun a hb e => by
    obtain ⟨_, ⟨u, hu⟩, _⟩ := r.bags a hb
    rw [e, h3] at hu
    cases hu
  refine ⟨r.len, r.lim, fun a u e => ?_, r.p0, r.new, fun a u e nb ns => ?_, fun a hs => ?_, fun a hb => ?_, fun j s u e1 e2 => ?_, r.apart, fun q us hq => ?_⟩
  · have ne : a ≠ p := fun z => by
      rw [z, h2] at e
      cases e
    rw [upd_ne ne]
    exact r.sub a u e
  · have ne : a ≠ p := fun z => by
      have e2 : F.H0 p = some u := by
        rw [← z]
        exact e
      rw [show F.H0 p = none from h3] at e2
      cases e2
    rw [upd_ne ne]
    exact r.ext a u e nb ns
  · obtain ⟨z1, ⟨u, hu⟩, C, dx, fs, z3⟩ := r.selfs a hs
    have ne : a ≠ p := fun z => by
      have e2 : F.H0 p = some u := by
        rw [← z]
        exact hu
      rw [show F.H0 p = none from h3] at e2
      cases e2
    exact ⟨z1, ⟨u, hu⟩, C, dx, fs, by rw [upd_ne ne]; exact z3⟩
  · obtain ⟨z1, z2, x, y, z, z3, z4⟩ := r.bags a hb
    exact ⟨z1, z2, x, y, z, by rw [upd_ne (nb a hb)]; exact z3, z4⟩
  · have q := r.sl j s u e1 e2
    cases s with
    | un => trivial
    | dat d => exact q
    | own es =>
      obtain ⟨q', xs, e, z1, z⟩ := q
      have ne : q' ≠ p := fun z => by
        subst z e
        exact h4 j _ e1 rfl e2
      exact ⟨q', xs, e, by rw [upd_ne ne]; exact z1, z⟩
    | bag n =>
      obtain ⟨q', e, z1, z2, x, y, z, z3, z4⟩ := q
      have ne : q' ≠ p := fun z => by
        subst z e
        exact h4 j _ e1 rfl e2
      exact ⟨q', e, z1, z2, x, y, z, by rw [upd_ne ne]; exact z3, z4⟩
    | slf C ns es =>
      obtain ⟨q', dx, xs, e, z1, z⟩ := q
      have ne : q' ≠ p := fun z => by
        subst z e
        exact h4 j _ e1 rfl e2
      exact ⟨q', dx, xs, e, by rw [upd_ne ne]; exact z1, z⟩
    | exc x => exact q
  · rcases List.mem_cons.mp hq with z | z
    · cases z
      exact ⟨upd_same, h2, h3, h4⟩
    · obtain ⟨z1, z2⟩ := r.kept q us (List.mem_cons_of_mem _ z)
      exact ⟨by rw [upd_ne (hk q us z)]; exact z1, z2⟩

/-! ### [e for t in xs if c] -/
def goLc (dg : Dg) (dt : Dt) (fe : De) (vs : List Nat) (Q : List D → Sv → Prop) : List D → Sv → List D → Prop
  | [], sv, acc => Q acc sv
  | d :: ds, sv, acc => dg d sv fun sv1 => dt sv1 (fun b sv2 => if b = true then fe sv2 (fun z sv3 => acc.length < 100000 ∧ goLc dg dt fe vs Q ds (unAt sv3 vs) (acc ++ [z])) (fun _ _ => False) else goLc dg dt fe vs Q ds (unAt sv2 vs) acc) fun _ _ => False
@[simp] def dLc (f : Dl) (dg : Dg) (dt : Dt) (fe : De) (vs : List Nat) : Dl := fun sv Q E => f sv (fun ds sv1 => goLc dg dt fe vs Q ds (unAt sv1 vs) []) E
theorem NewL.congr {K : PySem.W.Frag} {F : Fr} {P H : Hp} {σ σ' : L2.St} {sv : Sv} {p : Addr} {ds : List D} (n : NewL K F P H σ sv p ds) (h : ∀ (i : Nat) (s : Sl), sv[i]? = some s → s ≠ .un → σ'[i]? = σ[i]?) : NewL K F P H σ' sv p ds := by
  obtain ⟨vs, h1, h2, h3, h4, h5, h6⟩ := n
  refine ⟨vs, h1, h2, h3, h4, fun i s e a => ?_, h6⟩
  rw [h i s e fun z => by
    subst z
    cases a]
  exact h5 i s e a
theorem snd_lc {K : PySem.W.Frag} {W : Wz} {wi : TI} {g : TG} {tt : TT} {te : TE} {vs : List Nat} {f : Dl} {dg : Dg} {dt : Dt} {fe : De} (h1 : SndI K W wi f) (h2 : SndGw vs K g dg) (h3 : SndT K (wNo W.z) tt dt) (h4 : SndE K (wNo W.z) te fe) : SndL K W (tLc wi g tt te vs) (dLc f dg dt fe vs) := fun F P H σ sv Q E R r k kx q =>
  h1 F P H σ sv _ E _ r (fun J H1 P1 ds sv1 r1 t1 w q1 D hD => by
    have n0 := r1.newL hD (ds := []) (vs := []) rfl
    have hk : ∀ q us, (q, us) ∈ F.Kp → q ≠ D := n0.choose_spec.2.2.2.2.2
    have rl := r1.layH (o := .lst []) hD
    obtain ⟨ws, rw0, ra⟩ := rl.aside n0
    have ew : ws = [] := rw0
    subst ew
    have rw1 := ra.wipe vs
    refine ⟨fun i m H2 => m = ds.length - i ∧ i ≤ ds.length ∧ ∃ P2 sv2 acc us, Rel K ((F.at W.z).keep D us) P2 H2 (L2.wipe σ vs) sv2 ∧ Sub P1 P2 ∧ (∀ (i : Nat) (s : Sl), i ∈ vs → sv2[i]? = some s → s = .un) ∧ RpL K P2 acc us ∧ goLc dg dt fe vs Q (ds.drop i) sv2 acc,
      ⟨_, rfl, Nat.zero_le _, P1, _, [], [], rw1, Sub.refl P1, fun i s hi e => unAt_un hi e, rfl, q1⟩, ?_⟩
    rintro i m H2 ⟨rfl, hi, P2, sv2, acc, us, r2, s2, hu, ru, q2⟩
    by_cases hlt : i < ds.length
    · obtain ⟨g1, g2⟩ := w.go i H2 P2 s2 r2.sub hlt
      refine .inr ⟨g1, fun H' => ∃ P3 sv3 acc3 us3, Rel K ((F.at W.z).keep D us3) P3 H' (L2.wipe σ vs) sv3 ∧ Sub P1 P3 ∧ (∀ (i : Nat) (s : Sl), i ∈ vs → sv3[i]? = some s → s = .un) ∧ RpL K P3 acc3 us3 ∧ goLc dg dt fe vs Q (ds.drop (i + 1)) sv3 acc3, fun H' z => ⟨ds.length - (i + 1), by omega, rfl, hlt, z⟩, fun x H' y => ?_⟩
      obtain ⟨rfl, d, ed, rx⟩ := g2 x H' y
      have el : ds.drop i = d :: ds.drop (i + 1) := by
        rw [List.drop_eq_getElem_cons hlt]
        have : ds[i] = d := by
          have := List.getElem?_eq_getElem hlt
          rw [this] at ed
          exact Option.some.inj ed
        rw [this]
      rw [el] at q2
      refine h2 _ P2 _ _ sv2 d x _ _ r2 rx (fun σ3 sv3 e3 r3 q3 => ⟨e3.trans wipe_wipe, ?_⟩) q2
      have e3' : L2.wipe σ3 vs = L2.wipe σ vs := e3.trans wipe_wipe
      refine h3 (F.keep D us) P2 _ σ3 sv3 _ _ _ r3 (fun b H4 P4 sv4 r4 t4 q4 => ?_) (fun _ _ _ _ _ _ _ _ z => z) q3
      cases b with
      | true =>
        rw [if_pos rfl] at q4
        refine h4 (F.keep D us) P4 H4 σ3 sv4 _ _ _ r4 (fun y H5 P5 z sv5 r5 t5 rz q5 => ?_) (fun _ _ _ _ _ _ _ _ z => z) q4
        obtain ⟨hl, q5⟩ := q5
        obtain ⟨k1, k2, k3, k4⟩ := r5.kept D us List.mem_cons_self
        refine ⟨us, k1, Nat.lt_of_lt_of_le (by rw [ru.length]; exact hl) (by decide), P5, unAt sv5 vs, acc ++ [z], us ++ [y], ?_, s2.trans (t4.trans t5), fun i s hi e => unAt_un hi e, (RpL.mono (t4.trans t5) _ _ ru).append ⟨y, [], rfl, rz, rfl⟩, q5⟩
        have := (Rel.keepTo (F := F.at W.z) (ws := us ++ [y]) r5 hk).wipe vs
        rw [e3'] at this
        exact this
      | false =>
        have q4 : goLc dg dt fe vs Q (ds.drop (i + 1)) (unAt sv4 vs) acc := q4
        have := (show Rel K ((F.at W.z).keep D us) P4 H4 σ3 sv4 from r4).wipe vs
        rw [e3'] at this
        exact ⟨P4, unAt sv4 vs, acc, us, this, s2.trans t4, fun i s hi e => unAt_un hi e, RpL.mono t4 _ _ ru, q4⟩
    · have e : i = ds.length := by omega
      subst e
      rw [List.drop_length] at q2
      refine .inl ⟨w.stop _ H2 P2 s2 r2.sub (Nat.le_refl _), ?_⟩
      have n2 := r2.taken (Sub.refl P2) ru hk
      exact k D H2 P2 acc sv2 ((Rel.back (F := F.at W.z) r2).unwipe hu) (t1.trans s2) (n2.congr fun i s e ne => by rw [wipe_get, if_neg fun hi => ne (hu i s hi e)]) q2) kx q
section
variable {X : Cx} {W : Wz} {pos : Pos}
abbrev BI := Shared × Hp × Addr × List (Str × Addr) × List Addr
abbrev Cx.b (X : Cx) (scope : Scope) (i : BI) : Cx := L2.Cx.blk X i.1 i.2.1 scope (compEnvC scope i.2.2.2.1 i.2.2.1 X.env) i.2.2.2.2
theorem pdl_lc {elt tg iter : Expr} {ifs : List Expr} {scope : Scope} {own : List (Str × Nat)} {f : Dl} {dg : Dg} {dt : Dt} {fe : De} (hc : X.calm = true) (hN : X.N.Nodup) (ok : BlkOk X.N X.env.scope scope own) (hi : PDI X W tg iter f)
    (hg : ∀ i : BI, PDGw (Cx.b X scope i) (own.map (·.2)) tg dg) (ht : ∀ i : BI, PDTs (Cx.b X scope i) (wNo W.z) ifs dt) (he : ∀ i : BI, PD (Cx.b X scope i) (wNo W.z) elt fe) (hs : ∀ x, foldedSetIterable iter X.env x = pure x := by intro _; rfl) :
    PDL X W (.ListComp elt [⟨tg, iter, ifs, 0⟩] scope pos) (dLc f dg dt fe (own.map (·.2))) := by
  obtain ⟨wi, p1, s1⟩ := hi
  obtain ⟨g, p2, s2⟩ := fam_gw (X := fun i => Cx.b X scope i) (fun _ => rfl) hg
  obtain ⟨tt, p3, s3⟩ := fam_ts (X := fun i => Cx.b X scope i) (fun _ => rfl) ht
  obtain ⟨te, p4, s4⟩ := fam_e (X := fun i => Cx.b X scope i) (fun _ => rfl) he
  exact ⟨_, pe_lc hc hN p1 ok (fun s H C cl fp => p2 (s, H, C, cl, fp)) (fun s H C cl fp => p3 (s, H, C, cl, fp)) (fun s H C cl fp => p4 (s, H, C, cl, fp)) hs, snd_lc s1 s2 s3 s4⟩
theorem takes_no {z : Ez} : Takes X (wNo z).w := fun u s' ⟨a, B, sI, pins, σ, H, cls, d, e, I, nb, up, sky, na, os, ag, w⟩ => w.elim
end
end Pd
end
section
set_option autoImplicit false
set_option Elab.async false
set_option linter.all false
set_option autoImplicit false
set_option maxRecDepth 100000
set_option maxHeartbeats 4000000
/-! Pd12: making instances: what __init__ is called with. -/
namespace Pd
open PySem PySem.Spec PyProof.Rows L2

/-- names are looked up in D one behind another, then r -/
def KwTo {α : Type} (D : Addr) : List (Str × Value) → Sem α → Sem α → Prop
  | [], t, r => t = r
  | q :: l, t, r => ∃ (β γ : Type) (k1 : Option Value → Sem β) (k2 : β → Sem γ) (k3 : γ → Sem α) (a : β), t = ((nsGet D q.1 >>= k1) >>= k2) >>= k3 ∧ k1 (some q.2) = pure a ∧ KwTo D l (k2 a >>= k3) r
theorem KwTo.wp {α : Type} {K : PySem.W.Frag} {M : Model} {A : Around} {D : Addr} {Q : α → Shared → Prop} {Ex : Value → Shared → Prop} {s : Shared} (X : K.In s.heap) : ∀ {l : List (Str × Value)} {t r : Sem α}, (∀ q ∈ l, PySem.W.nsIn K D q.1 = some (some q.2)) → KwTo D l t r → wpAny M A r Q Ex s → wpAny M A t Q Ex s
  | [], t, r, _, e, h => by
    have e : t = r := e
    rw [e]
    exact h
  | q :: l, t, r, hl, e, h => by
    obtain ⟨β, γ, k1, k2, k3, a, e1, e2, e3⟩ := e
    have l1 : PySem.W.Looks M s.heap (nsGet D q.1 >>= k1) a := (PySem.W.looks_nsIn X (hl q List.mem_cons_self)).andThen (PySem.W.Looks.of_pure e2)
    rw [e1, bind_assoc]
    exact wpAny_bind (l1.here (KwTo.wp X (fun p hp => hl p (List.mem_cons_of_mem _ hp)) e3 h))
/-- an __init__ (or another def) that is called with keywords ks -/
def FnI (P : Program) (w : World) (K : PySem.W.Frag) (mg : Str → Option Value) (base : Heap) (k : Nat) (f : Addr) (ks : List Str) (sp : List V → List V → Hp → VK → XK → Prop) : Prop :=
  ∀ (A : Around) (outer : List Env) (s : Shared) (H : Hp) (us ws : List Value) (vs zs : List V) (Q : VK) (E : XK), Room k A → A.guards = some [] → Env0 P w K mg base A outer s H → Vals vs us → Vals zs ws → zs.length = ks.length → sp vs zs H Q E →
    codeAny (model P w) A (.call (.ref f) ⟨us, ks.zip ws⟩) (CR (L2.CX P w) outer P w H s Q E) s
section
variable {P : Program} {w : World} {K : PySem.W.Frag} {mg : Str → Option Value} {base : Heap} {x qual : Str} {params : Arguments} {body : List Stmt} {scope : Scope} {kws : List (Str × V)} {f : Addr} {fd : FuncData}
/-- def f(a, .., *v, k = .., ..), called with more values than stand ahead of the star, and with the keywords ks; lack: the keyword-only ones that are not written -/
theorem init_star {N ps ks : List Str} {pv : Str} {m k : Nat} {lack : List (Str × V)} {sp : Sp} (g : {α : Type} → List α → List α → List α → List α) (F : FunD K x qual params body scope [] kws f fd) (S : FnScope N (ps ++ [pv]) scope) (hl : ∀ q ∈ lack, q ∈ kws)
    (hrel : ∀ {vs mz zs : List V} {us mv ws : List Value}, Vals vs us → Vals mz mv → Vals zs ws → Vals (g vs mz zs) (g us mv ws)) (hlen : ∀ {us mv ws : List V}, us.length = m → mv.length = lack.length → ws.length = ks.length → (g us mv ws).length = ps.length)
    (hb : ∀ (kV : Value) (D : Addr) (doc pm : Value) (an : Option Addr) (cdv ct : Value) (us rest mv ws : List Value), (lack = [] ∨ kV = .ref D) → us.length = m → mv.length = lack.length → ws.length = ks.length →
      KwTo D ((lack.map (·.1)).zip mv) (bindArgs (PySem.W.fnOf x qual params body scope .none kV doc pm an cdv ct) ⟨us ++ rest, ks.zip ws⟩) (newTuple rest >>= fun t => pure (ps.zip (g us mv ws) ++ [(pv, t)])))
    (hbody : ∀ (cdv : Value) (A : Around) (outer : List Env) (s : Shared) (H : Hp) (vs : List V) (Q : VK) (E : XK), Room k (A.deeper (envOfC qual scope s.heap.objs.size f cdv)) → A.guards = some [] → sp vs H Q E →
      ∃ t, PSs (cxOf (L2.CX P w) P w K mg base N qual scope f cdv A outer s H E) body t ∧ t { nx := fun _ H' => Q .non H', rt := Q } (L2.start N vs) H) :
    FnI P w K mg base (k + 1) f ks fun vs zs H Q E => ∃ ws rest, vs = ws ++ rest ∧ ws.length = m ∧ rest.length ≤ sizeLine ∧ ∀ p, H p = none → sp (g ws (lack.map (·.2)) zs ++ [V.ref p]) (upd H p (.tup rest)) Q E := by
  obtain ⟨oc, od, dV, kV, doc, pm, an, cdv, ct, osl, rfl, lk, hcd, hD, hK⟩ := F.ex
  rcases hD with ⟨_, rfl⟩ | ⟨e, _⟩
  · have hm : ∃ (D : Addr) (mv : List Value), (lack = [] ∨ kV = .ref D) ∧ mv.length = lack.length ∧ Vals (lack.map (·.2)) mv ∧ ∀ q ∈ (lack.map (·.1)).zip mv, PySem.W.nsIn K D q.1 = some (some q.2) := by
      cases lack with
      | nil => exact ⟨0, [], .inl rfl, rfl, .nil, fun q hq => by cases hq⟩
      | cons q0 l =>
        rcases hK with e | ⟨D, rfl, hq⟩
        · have := hl q0 List.mem_cons_self
          rw [e] at this
          cases this
        · obtain ⟨mv, h1, h2, h3⟩ := kwd_vals (ms := q0 :: l) fun q hm => hq q (hl q hm)
          exact ⟨D, mv, .inr rfl, h1, h2, h3⟩
    obtain ⟨D, mv, hkV, lm, rm, hmv⟩ := hm
    intro A outer s H us ws vs zs Q E hr hG e0 r rz lz hsp
    obtain ⟨w1, rest, rfl, l1, hz, hq⟩ := hsp
    obtain ⟨u1, u2, rfl, r1, r2⟩ := StX.vals_split r
    have KX : K.In s.heap := e0.mod.kin.keeps fun b o e => (e0.bs b o e).1
    have hn : H s.heap.objs.size = none := e0.hok.fresh (Nat.le_refl _)
    have rg : Vals (g w1 (lack.map (·.2)) zs) (g u1 mv ws) := hrel r1 rm rz
    have lg : (g w1 (lack.map (·.2)) zs).length = ps.length := hlen l1 (by rw [List.length_map]) lz
    refine StX.run_bnd (G := fun xs H2 => ∃ p, H p = none ∧ xs = g w1 (lack.map (·.2)) zs ++ [V.ref p] ∧ H2 = upd H p (.tup rest)) lk hcd S hr e0 (fun A' Ex Q' h => ?_) fun s2 H2 xs ⟨p, hp, ex, eH⟩ hr' => ?_
    · refine KwTo.wp KX hmv (hb kV D doc pm an cdv ct u1 u2 mv ws hkV (r1.length.symm.trans l1) lm (rz.length.symm.trans lz)) ?_
      have hl2 : u2.length ≤ sizeLine := by rw [← r2.length]; exact hz
      refine wpAny_bind (wpAny_newTuple (wpAny_pure ?_) hl2)
      have new : ObjOk P w (upd H s.heap.objs.size (.tup rest)) (s.heap.push ({ cls := .type "tuple", data := .seq u2.toArray } : Obj)) s.heap.objs.size (.tup rest) := ⟨hz, u2, r2, ⟨_, Heap.get?_push_size _ rfl, rfl, _, rfl⟩⟩
      have un := StX.un_laid (fs := frs outer) (s := s) (o := ({ cls := .type "tuple", data := .seq u2.toArray } : Obj)) (u := .tup rest) hn
      have z := h _ _ (g w1 (lack.map (·.2)) zs ++ [V.ref s.heap.objs.size]) (g u1 mv ws ++ [Value.ref s.heap.objs.size]) (StX.env0_laid e0 new) un rfl (fun e s' => StX.cxUp outer s H _ _ E e s' un (fun b o q => Heap.get?_push_of_some _ q) rfl) (rg.append (.cons rfl .nil))
        (by rw [List.length_append, List.length_append, lg]; rfl) ⟨_, hn, rfl, rfl⟩
      rw [List.zip_append (by rw [← rg.length, lg])] at z
      exact z
    · subst ex eH
      exact hbody cdv A outer s2 _ _ Q E hr' hG (hq p hp)
  · exact absurd rfl e
end
end Pd
end
section
set_option autoImplicit false
set_option Elab.async false
set_option linter.all false
set_option autoImplicit false
set_option maxRecDepth 100000
set_option maxHeartbeats 4000000
/-! Pd13: making instances over data. -/
namespace Pd
section
open PySem PySem.W PySem.Spec PySem.Calls PyProof.Rows
variable {M : Model} {A : Around} {E : Value → Shared → Prop} {s : Shared} {K : Frag} {env : Env} {pos : Pos} {f : Value} {first : List Value} {Q : Value → Shared → Prop} {e : Expr} {rest : List Expr} {kws : List Keyword}
/-- a call with a star among its arguments, keywords behind it or not -/
theorem call_starred {P : Heap → Prop} {args : List (Bool × Sem Value)} {keywords : List (Option Str × Sem Value)} (hst : (args.any (·.1) || keywords.any (·.1.isNone)) = true)
    (hk : ∀ h, P h → ∃ k, (k = Keeper.frame ∨ k = Keeper.machine ∨ k = Keeper.boundFrame) ∧ Looks M h (keeperOf f) k)
    (h : wpAny M A (evalArgs f true args keywords) (fun a s₁ => P s₁.heap ∧ wpAny M A (call f (first ++ a.pos) a.kw) Q E s₁) E s) : wpAny M A (callWith pos f first args keywords) Q E s := by
  have close : ∀ {t : Sem Value} {s₂ : Shared}, wpAny M A t Q E s₂ → wpAny M A (t >>= fun r => holding [r] point >>= fun _ => pure r) Q E s₂ :=
    fun ht => wpAny_bind (wpAny_mono ht (fun r _ hr => wpAny_bind (wpAny_holding (wpAny_point (wpAny_pure hr)))) fun _ _ x => x)
  unfold callWith
  refine wpAny_bind (wpAny_holding (wpAny_mono h (fun a s₂ hx => wpAny_bind (wpAny_standAt ?_)) fun _ _ x => x))
  obtain ⟨k, cases3, look⟩ := hk _ hx.1
  simp only [hst]
  refine wpAny_bind (look.here ?_)
  have mk : ∀ m : Value, wpAny M A (callMarked m f (first ++ a.pos) a.kw) Q E s₂ := fun m => by
    unfold callMarked
    exact Calls.wpAny_keep hx.2
  rcases cases3 with rfl | rfl | rfl <;> dsimp only <;> first | exact close (mk _) | exact close (wpAny_operating hx.2)
theorem callWith_SK (hk : keepIn K f = true) (hall : (backToKw pos (keywordEach kws env)).all (·.1.isSome) = true)
    (h : wpAny M A (spliced (backTo pos (starEach (e :: rest) env))) (fun vs s₁ => wpAny M A (evalAll ((backToKw pos (keywordEach kws env)).map (·.2)))
      (fun ks s₂ => K.In s₂.heap ∧ wpAny M A (call f (first ++ vs) (((backToKw pos (keywordEach kws env)).filterMap (·.1)).zip ks)) Q E s₂) E s₁) E s)
    (he : starEach (e :: rest) env = (false, eval e env) :: starEach rest env) (hst : ((backTo pos (starEach (e :: rest) env)).any (·.1) || (backToKw pos (keywordEach kws env)).any (·.1.isNone)) = true) :
    wpAny M A (callWith pos f first (backTo pos (starEach (e :: rest) env)) (backToKw pos (keywordEach kws env))) Q E s :=
  call_starred hst (keeps_K hk) (evalArgs_kw2 hall h he)
end
open PySem PySem.Spec PyProof.Rows L2

/-! ### the call of a class -/
def tMakeI (C : Addr) (m : Nat) (sp : List V → List V → Hp → VK → XK → Prop) (W : WX) (t tk : TA) : TE := fun σ H Q => t σ H fun vs H1 => tk σ H1 fun zs H2 => zs.length = m ∧ ∀ x dx, H2 x = none → H2 dx = none → dx ≠ x →
  sp (.ref x :: vs) zs (upd (upd H2 dx (.own x)) x (.ins C dx [])) (fun v H3 => v = .non ∧ Q (.ref x) H3) fun cls dd H3 => W cls dd σ H3
section
variable {X : Cx} {W : WX} {k : Nat} {f C : Addr} {ks : List Str} {sp : List V → List V → Hp → VK → XK → Prop} {x : Str} {p pos : Pos} {e : Expr} {es : List Expr} {kws : List Keyword} {t tk : TA}
theorem run_makeI {pins : List (Addr × Obj)} {σ : L2.St} {H : Hp} {s : Shared} {Q : VK} {us ws : List Value} {vs zs : List V} (M : Mk X.K C f) (F : FnI X.prog X.w X.K X.mg X.base k f ks sp) (hr : Room (k + 1) X.A) (hG : X.A.guards = some []) (tk : Takes X W) (I : Inv X pins σ H s) (r : Vals vs us) (rz : Vals zs ws) (lz : zs.length = ks.length)
    (h : ∀ x dx, H x = none → H dx = none → dx ≠ x → sp (.ref x :: vs) zs (upd (upd H dx (.own x)) x (.ins C dx [])) (fun v H2 => v = .non ∧ Q (.ref x) H2) fun cls dd H2 => W cls dd σ H2) : wpAny (model X.prog X.w) X.A (call (.ref C) us (ks.zip ws)) (EP X pins σ Q) X.xe s := by
  have q0 := h (s.heap.objs.size + 1) s.heap.objs.size (I.hok.fresh (Nat.le_succ _)) (I.hok.fresh (Nat.le_refl _)) (Nat.ne_of_lt (Nat.lt_succ_self _))
  have I2 := Inv.made (C := C) I
  have r1 : Vals (V.ref (s.heap.objs.size + 1) :: vs) (Value.ref (s.heap.objs.size + 1) :: us) := .cons rfl r
  have run := F _ X.stack _ _ (Value.ref (s.heap.objs.size + 1) :: us) ws _ _ _ _ (hr.make C us (ks.zip ws)) hG (I2.env0.make C us (ks.zip ws)) r1 rz lz q0
  refine wpAny_call (make_map (f := f) I.kIn M.makes M.init (beq_iff_eq.mp M.fn) (codeAny_mono run fun r s' hq => ?_))
  cases r with
  | error er => exact tk er s' (XE.of_call I2 (fun _ _ _ z => z) hq)
  | ok fl =>
    cases fl with
    | ret u =>
      obtain ⟨v, H', I3, rv, ev, q3⟩ := I2.after hq
      subst ev
      exact ⟨rv, .ref (s.heap.objs.size + 1), H', I3, rfl, q3⟩
    | next => exact hq.elim
    | brk => exact hq.elim
    | cont => exact hq.elim
/-- C(e, .., k = v, ..) -/
theorem pe_makeI (M : Mk X.K C f) (F : FnI X.prog X.w X.K X.mg X.base k f ks sp) (hr : Room (k + 1) X.A) (hG : X.A.guards = some []) (tk' : Takes X W) (hg : Gl X x) (hm : X.mg x = some (.ref C)) (ha : PA X (e :: es) t) (hkw : PK X kws tk)
    (hall : (backToKw pos (keywordEach kws X.env)).all (·.1.isSome) = true := by rfl) (hks : (backToKw pos (keywordEach kws X.env)).filterMap (·.1) = ks := by rfl) (hdb : (x == ("__debug__" : Str)) = false := by decide)
    (he : starEach (e :: es) X.env = (false, eval e X.env) :: starEach es X.env := by rfl) (hpl : ((backTo pos (starEach (e :: es) X.env)).any (·.1) || (backToKw pos (keywordEach kws X.env)).any (·.1.isNone)) = false := by rfl) :
    PE X (.Call (.Name x p) (e :: es) kws pos) (tMakeI C ks.length sp W t tk) := by
  refine ⟨fun pins s σ H Q I h => wpAny_Call_Name_kw (ld_glob I hg hm ?_ hdb)⟩
  refine PySem.W.callWith_KW (h₀ := X.base) I.ok.mod.kin M.kp hall (thn (ha.run pos pins s σ H _ I h) fun us s1 ⟨vs, H1, I1, r, q⟩ => thn (hkw.run pos pins s1 σ H1 _ I1 q) fun ws s2 ⟨zs, H2, I2, rz, lz, q2⟩ => ⟨I2.kIn, ?_⟩) hpl he
  rw [hks]
  exact run_makeI M F hr hG tk' I2 r rz lz q2
/-- C(e, .., *y, k = v, ..) -/
theorem pe_makeIS (M : Mk X.K C f) (F : FnI X.prog X.w X.K X.mg X.base k f ks sp) (hr : Room (k + 1) X.A) (hG : X.A.guards = some []) (tk' : Takes X W) (hg : Gl X x) (hm : X.mg x = some (.ref C)) (ha : PA X (e :: es) t) (hkw : PK X kws tk)
    (hall : (backToKw pos (keywordEach kws X.env)).all (·.1.isSome) = true := by rfl) (hks : (backToKw pos (keywordEach kws X.env)).filterMap (·.1) = ks := by rfl) (hdb : (x == ("__debug__" : Str)) = false := by decide)
    (he : starEach (e :: es) X.env = (false, eval e X.env) :: starEach es X.env := by rfl) (hpl : ((backTo pos (starEach (e :: es) X.env)).any (·.1) || (backToKw pos (keywordEach kws X.env)).any (·.1.isNone)) = true := by rfl) :
    PE X (.Call (.Name x p) (e :: es) kws pos) (tMakeI C ks.length sp W t tk) := by
  refine ⟨fun pins s σ H Q I h => wpAny_Call_Name_kw (ld_glob I hg hm ?_ hdb)⟩
  refine callWith_SK M.kp hall (thn (ha.run pos pins s σ H _ I h) fun us s1 ⟨vs, H1, I1, r, q⟩ => thn (hkw.run pos pins s1 σ H1 _ I1 q) fun ws s2 ⟨zs, H2, I2, rz, lz, q2⟩ => ⟨I2.kIn, ?_⟩) he hpl
  rw [hks]
  exact run_makeI M F hr hG tk' I2 r rz lz q2
end

/-! ### what __init__ is worth over data -/
/-- how the heap stands behind it -/
structure PostI (P H : Hp) (p : Addr) (P' H' : Hp) : Prop where
  sub : Sub P' H'
  grow : Sub P P'
  new : ∀ a o, P' a = some o → P a = some o ∨ H a = none
  keep : ∀ a o, H a = some o → a ≠ p → H' a = some o
/-- what it is worth: the values (without self), what fields it may leave, what it may raise -/
abbrev Ci := List D → (List D → Prop) → (Xd → Prop) → Prop
def spI (K : PySem.W.Frag) (C : Addr) (n : Nat) (ns : List Str) (ci : Ci) : Sp := fun vs H Q E => ∃ (P : Hp) (p dx : Addr) (ws : List V) (ds : List D), vs = .ref p :: ws ∧ ds.length = n ∧ Sub P H ∧ P p = none ∧ H p = some (.ins C dx []) ∧ RpL K P ds ws ∧
  ci ds (fun fs => ∀ H' P' dx' us, PostI P H p P' H' → H' p = some (.ins C dx' (ns.zip us)) → us.length = ns.length → P' p = none → RpL K P' fs us → Q .non H') (fun x => ∀ cls dd H' P', PostI P H p P' H' → XdRel K P' H' x cls dd → E cls dd H')
@[simp] def svI (N : List Str) (C : Addr) (ds : List D) : Sv := .slf C [] [] :: (ds.map .dat ++ List.replicate (N.length - (ds.length + 1)) .un)
theorem rpl_get {K : PySem.W.Frag} {P : Hp} {ds : List D} {vs : List V} {i : Nat} {d : D} (r : RpL K P ds vs) (h : ds[i]? = some d) : ∃ v, vs[i]? = some v ∧ Rp K P d v := r.getD h
theorem relI {K : PySem.W.Frag} {P H : Hp} {p dx C : Addr} {ds : List D} {ws : List V} {N : List Str} (hN : ds.length + 1 ≤ N.length) (s : Sub P H) (hp : P p = none) (ho : H p = some (.ins C dx [])) (r : RpL K P ds ws) :
    Rel K ⟨H, P, fun _ => False, fun a => a = p, 0, [], none⟩ P H (L2.start N (.ref p :: ws)) (svI N C ds) := by
  have hl := r.length
  have cut : ∀ {i : Nat} {sl : Sl}, (svI N C ds)[i + 1]? = some sl → (∃ d, ds[i]? = some d ∧ sl = .dat d) ∨ sl = .un := fun {i sl} h => by
    have h : (ds.map Sl.dat ++ List.replicate (N.length - (ds.length + 1)) Sl.un)[i]? = some sl := h
    by_cases hi : i < ds.length
    · rw [List.getElem?_append_left (by simpa using hi), List.getElem?_map] at h
      cases e : ds[i]? with
      | none =>
        rw [e] at h
        cases h
      | some d =>
        rw [e] at h
        cases h
        exact .inl ⟨d, rfl, rfl⟩
    · rw [List.getElem?_append_right (by simpa using hi), List.getElem?_replicate] at h
      split at h
      · cases h
        exact .inr rfl
      · cases h
  refine ⟨by unfold svI L2.start; simp [hl], (by decide : (0 : Int) ≤ 2 ^ 39), s, Sub.refl P, fun a o e => .inl e, fun a o e _ _ => e, fun a z => ?_, fun a z => z.elim, fun i sl o e1 e2 => ?_, fun i j sl t o u q ne e1 e2 a1 a2 s1 s2 eo eu => ?_, fun q vs hq => absurd hq (by simp)⟩
  · subst z
    exact ⟨hp, ⟨_, ho⟩, C, dx, [], ho⟩
  · cases i with
    | zero =>
      cases e1
      rcases start_get e2 with ⟨v, ev, rfl⟩ | ⟨hi, _⟩
      · cases ev
        exact ⟨p, dx, [], rfl, ho, rfl, hp, rfl, rfl⟩
      · simp at hi
    | succ i =>
      rcases cut e1 with ⟨d, ed, rfl⟩ | rfl
      · obtain ⟨v, ev, z⟩ := rpl_get r ed
        rcases start_get e2 with ⟨v', ev', rfl⟩ | ⟨hi, rfl⟩
        · have ev' : ws[i]? = some v' := ev'
          rw [ev] at ev'
          cases ev'
          exact ⟨v, rfl, z⟩
        · have := (List.getElem?_eq_some_iff.mp ev).1
          simp at hi
          omega
      · trivial
  · have na : ∀ {i : Nat} {sl : Sl}, (svI N C ds)[i]? = some sl → sl.addr = true → i = 0 := fun {i sl} h a => by
      cases i with
      | zero => rfl
      | succ i =>
        rcases cut h with ⟨d, _, rfl⟩ | rfl <;> cases a
    exact ne ((na e1 a1).trans (na e2 a2).symm)
theorem postI {K : PySem.W.Frag} {P H P' H' : Hp} {p : Addr} {σ : L2.St} {sv : Sv} (r : Rel K ⟨H, P, fun _ => False, fun a => a = p, 0, [], none⟩ P' H' σ sv) : PostI P H p P' H' :=
  ⟨r.sub, r.p0, r.new, fun a o e n => r.ext a o e (fun z => z) n⟩
section
variable {P : Program} {w : World} {K : PySem.W.Frag} {mg : Str → Option Value} {base : Heap} {qual : Str} {scope : Scope} {body : List Stmt} {f : Addr}
/-- a body over data as __init__'s body -/
theorem init_body {N ps : List Str} {C : Addr} {n k : Nat} {ns : List Str} {ci : Ci} {fb : Ds} (hN : n + 1 ≤ N.length)
    (hbody : ∀ (cdv : Value) (A : Around) (outer : List Env) (s : Shared) (H : Hp) (E : XK), Room k (A.deeper (envOfC qual scope s.heap.objs.size f cdv)) → A.guards = some [] →
      Takes (cxOf (L2.CX P w) P w K mg base N qual scope f cdv A outer s H E) (wF E).w → PassesOwn (model P w) (A.deeper (envOfC qual scope s.heap.objs.size f cdv)) (envOfC qual scope s.heap.objs.size f cdv) (cxOf (L2.CX P w) P w K mg base N qual scope f cdv A outer s H E).xe →
      PDSs (cxOf (L2.CX P w) P w K mg base N qual scope f cdv A outer s H E) (wF E) body fb)
    (hc : ∀ ds Q E, ds.length = n → ci ds Q E → fb (svI N C ds) { nx := fun sv => ∃ fs, sv[0]? = some (.slf C ns fs) ∧ Q fs, rt := fun _ => False, ex := fun x _ => E x }) :
    ∀ (cdv : Value) (A : Around) (outer : List Env) (s : Shared) (H : Hp) (vs : List V) (Q : VK) (E : XK), Room k (A.deeper (envOfC qual scope s.heap.objs.size f cdv)) → A.guards = some [] → spI K C n ns ci vs H Q E →
      ∃ t, PSs (cxOf (L2.CX P w) P w K mg base N qual scope f cdv A outer s H E) body t ∧ t { nx := fun _ H' => Q .non H', rt := Q } (L2.start N vs) H := fun cdv A outer s H vs Q E hr hG hsp => by
  obtain ⟨P0, p, dx, ws, ds, rfl, hl, h1, h2, h3, h4, h5⟩ := hsp
  have tk : Takes (cxOf (L2.CX P w) P w K mg base N qual scope f cdv A outer s H E) (wF E).w := takes_of rfl rfl rfl rfl
  obtain ⟨t, ht, hs⟩ := hbody cdv A outer s H E hr hG tk PassesOwn.leaving
  refine ⟨t, ht, hs ⟨H, P0, fun _ => False, fun a => a = p, 0, [], none⟩ P0 H (L2.start N (.ref p :: ws)) (svI N C ds) _ _ (relI (by rw [hl]; exact hN) h1 h2 h3 h4) ⟨?_, ?_, ?_, ?_, ?_⟩ (hc ds _ _ hl h5)⟩
  · intro σ' H' P' sv' r _ q
    obtain ⟨fs, e, q⟩ := q
    obtain ⟨o, _, p', dx', us, _, z1, z2, z3, z4, z5⟩ := rel_get r e
    have z4 : p' = p := z4
    subst z4
    exact q H' P' dx' us (postI r) z1 z2 z3 z5
  · exact fun σ' H' P' sv' v d r rv q => q.elim
  · exact fun σ' H' P' sv' r _ q => q
  · exact fun σ' H' P' sv' r _ q => q
  · exact fun cls dd σ' H' P' x sv' r rx q => q cls dd H' P' (postI r) rx
end
end Pd
end
section
set_option autoImplicit false
set_option Elab.async false
set_option linter.all false
set_option autoImplicit false
set_option maxRecDepth 100000
set_option maxHeartbeats 4000000
/-! Pd14: an instance is made (the caller), its fields are set (its __init__). -/
namespace Pd
open PySem PySem.Spec PyProof.Rows L2

/-! ### self.f = e -/
theorem putF_new {f : Str} {y : V} : ∀ {ns : List Str} {vs : List V}, vs.length = ns.length → f ∉ ns → putF f y (ns.zip vs) = (ns ++ [f]).zip (vs ++ [y])
  | [], [], _, _ => rfl
  | n :: ns, v :: vs, h, hf => by
    have hne : n ≠ f := fun e => hf (by rw [e]; exact List.mem_cons_self)
    show (if n = f then (n, y) :: ns.zip vs else (n, v) :: putF f y (ns.zip vs)) = _
    rw [if_neg hne, putF_new (by simpa using h) fun z => hf (List.mem_cons_of_mem _ z)]
    rfl
theorem Rel.setSelf {K : PySem.W.Frag} {F : Fr} {P H : Hp} {σ : L2.St} {sv : Sv} {i : Nat} {C dx p : Addr} {ns ms : List Str} {xs ys : List D} {ws : List V} (r : Rel K F P H σ sv) (h : sv[i]? = some (.slf C ns xs)) (hp : σ[i]? = some (some (.ref p))) (hl : ws.length = ms.length) (rv : RpL K P ys ws) :
    Rel K F P (upd H p (.ins C dx (ms.zip ws))) σ (sv.set i (.slf C ms ys)) := by
  obtain ⟨o, ho, p', dx', vs, eo, h1, h2, h3, h4, h5⟩ := rel_get r h
  rw [hp] at ho
  cases ho
  cases eo
  have hi : i < sv.length := (List.getElem?_eq_some_iff.mp h).1
  have nb : ∀ a, F.B0 a → a ≠ p := fun a hb e => by
    obtain ⟨_, _, x, y, z, hd, _⟩ := r.bags a hb
    rw [e, h1] at hd
    cases hd
  refine ⟨by rw [List.length_set]; exact r.len, r.lim, fun a u e => ?_, r.p0, r.new, fun a u e n1 n2 => ?_, fun a hs => ?_, fun a hb => ?_, fun j s u e1 e2 => ?_, fun j k s t u w q ne e1 e2 a1 a2 s1 s2 eu ew => ?_, fun q us hq => ?_⟩
  · have ne : a ≠ p := fun z => by
      rw [z, h3] at e
      cases e
    rw [upd_ne ne]
    exact r.sub a u e
  · have ne : a ≠ p := fun z => n2 (by rw [z]; exact h4)
    rw [upd_ne ne]
    exact r.ext a u e n1 n2
  · obtain ⟨z1, z2, C', d', fs, z3⟩ := r.selfs a hs
    refine ⟨z1, z2, ?_⟩
    by_cases ha : a = p
    · exact ⟨C, dx, _, by rw [ha, upd_same]⟩
    · exact ⟨C', d', fs, by rw [upd_ne ha]; exact z3⟩
  · obtain ⟨z1, z2, x, y, z, z3, z4⟩ := r.bags a hb
    exact ⟨z1, z2, x, y, z, by rw [upd_ne (nb a hb)]; exact z3, z4⟩
  · by_cases hj : j = i
    · subst hj
      rw [List.getElem?_set_self hi] at e1
      cases e1
      rw [hp] at e2
      cases e2
      exact ⟨p, dx, ws, rfl, upd_same, hl, h3, h4, rv⟩
    · rw [List.getElem?_set_ne (Ne.symm hj)] at e1
      have apart : ∀ {q : Addr}, s.addr = true → u = some (.ref q) → q ≠ p := fun {q} as eu z => by
        subst z eu
        exact r.apart j i _ _ _ _ q hj e1 h as rfl e2 hp rfl rfl
      have q := r.sl j s u e1 e2
      cases s with
      | un => trivial
      | dat d => exact q
      | own es =>
        obtain ⟨q', xs, e, z1, z⟩ := q
        exact ⟨q', xs, e, by rw [upd_ne (apart rfl e)]; exact z1, z⟩
      | bag n =>
        obtain ⟨q', e, z1, z2, x, y, z, z3, z4⟩ := q
        exact ⟨q', e, z1, z2, x, y, z, by rw [upd_ne (apart rfl e)]; exact z3, z4⟩
      | slf C ns es =>
        obtain ⟨q', dx, xs, e, z1, z⟩ := q
        exact ⟨q', dx, xs, e, by rw [upd_ne (apart rfl e)]; exact z1, z⟩
      | exc x => exact q
  · have back : ∀ {m : Nat} {z : Sl}, (sv.set i (.slf C ms ys))[m]? = some z → z.addr = true → ∃ z', sv[m]? = some z' ∧ z'.addr = true := fun {m z} em az => by
      by_cases hm : m = i
      · subst hm
        exact ⟨_, h, rfl⟩
      · rw [List.getElem?_set_ne (Ne.symm hm)] at em
        exact ⟨z, em, az⟩
    obtain ⟨s', b1, c1⟩ := back e1 a1
    obtain ⟨t', b2, c2⟩ := back e2 a2
    exact r.apart j k s' t' u w q ne b1 b2 c1 c2 s1 s2 eu ew
  · obtain ⟨z1, z2, z3, z4⟩ := r.kept q us hq
    have ne : q ≠ p := fun z => by
      subst z
      exact z4 i _ h rfl hp
    refine ⟨by rw [upd_ne ne]; exact z1, z2, z3, fun m s e1 a1 => ?_⟩
    by_cases hm : m = i
    · subst hm
      exact z4 m _ h rfl
    · rw [List.getElem?_set_ne (Ne.symm hm)] at e1
      exact z4 m s e1 a1
section
variable {X : Cx} {W : Wz} {pos p p2 : Pos}
/-- self.f = e, self in slot i -/
@[simp] def dSelf (K : PySem.W.Frag) (i : Nat) (f : Str) (fe : De) : Ds := fun sv D => fe sv (fun d sv1 => ∃ C ns xs, sv1[i]? = some (.slf C ns xs) ∧ OkF K C f ∧ f ∉ ns ∧ ns.length < 900 ∧ D.nx (sv1.set i (.slf C (ns ++ [f]) (xs ++ [d])))) D.ex
theorem pds_self {i : Nat} {x f : Str} {e : Expr} {fe : De} (hN : X.N[i]? = some x) (hv : Vis X.env.scope x) (he : PD X W e fe) (hd : (x == ("__debug__" : Str)) = false := by decide) (hcd : (x == ("__classdict__" : Str)) = false := by decide)
    (hs : swapsWith e (some (.Attribute (.Name x p2) f p)) pos.line X.env = pure false := by rfl) : PDS X W (.Assign [.Attribute (.Name x p2) f p] e pos) (dSelf X.K i f fe) := by
  obtain ⟨t, p1, s1⟩ := he
  refine ⟨_, ps_fld (pe_var hN hv hd hcd) p1 hs, fun F P H σ sv D Dd r l q => ?_⟩
  refine s1 F P H σ sv _ _ _ r (fun v H1 P1 d sv1 r1 t1 rv q1 => ?_) (fun cls dd H1 P1 x sv1 r1 rx q1 => l.ex cls dd σ H1 P1 x sv1 r1 rx q1) q
  obtain ⟨C, ns, xs, e1, ⟨c, n⟩, hf, hl, q1⟩ := q1
  obtain ⟨o, ho, p', dx, vs, rfl, z1, z2, z3, z4, z5⟩ := rel_get r1 e1
  refine ⟨_, ho, p', C, dx, _, rfl, z1, c, n, by rw [List.length_zip, z2]; omega, ?_⟩
  rw [putF_new z2 hf]
  exact l.nx σ _ P1 _ (r1.setSelf e1 ho (by simp [z2]) (z5.append (show RpL X.K P1 [d] [v] from ⟨v, [], rfl, rv, rfl⟩))) t1 q1
/-- self.f -/
@[simp] def dSelfF (K : PySem.W.Frag) (i : Nat) (f : Str) : De := fun sv Q _ => ∃ C ns xs z, sv[i]? = some (.slf C ns xs) ∧ OkF K C f ∧ (ns.zip xs).lookup f = some z ∧ Q z sv
theorem pd_selfF {i : Nat} {x f : Str} (hN : X.N[i]? = some x) (hv : Vis X.env.scope x) (hd : (x == ("__debug__" : Str)) = false := by decide) (hcd : (x == ("__classdict__" : Str)) = false := by decide)
    (hb : attributeBase (.Name x p2) f X.env (eval (.Name x p2) X.env) = eval (.Name x p2) X.env := by rfl) : PD X W (.Attribute (.Name x p2) f pos) (dSelfF X.K i f) :=
  ⟨_, pe_fld (pe_var hN hv hd hcd) hb, fun F P H σ sv Q E R r k kx q => by
    obtain ⟨C, ns, xs, z, e1, ⟨c, n⟩, ez, q⟩ := q
    obtain ⟨o, ho, p', dx, vs, rfl, z1, z2, z3, z4, z5⟩ := rel_get r e1
    obtain ⟨w, ew, rw⟩ := lookup_zip z5 ez
    exact ⟨_, ho, p', C, dx, _, w, rfl, z1, c, n, ew, k w H P z sv r (Sub.refl P) rw q⟩⟩

/-! ### C(e, .., *y, k = v, ..) -/
/-- keywords' values -/
def PDK (X : Cx) (W : Wz) (kws : List Keyword) (f : Da) : Prop := ∃ t, PK X kws t ∧ SndA X.K W t f
theorem pdk_nil : PDK X W [] dNil := ⟨_, pk_nil, fun F P H σ sv Q E R r k _ q => k [] H P [] sv r (Sub.refl P) rfl q⟩
theorem pdk_cons {nm : Option Str} {e : Expr} {kpos : Pos} {kws : List Keyword} {f : De} {g : Da} (h1 : PD X W e f) (h2 : PDK X W kws g) : PDK X W (⟨nm, e, kpos⟩ :: kws) (dCons f g) := by
  obtain ⟨te, p1, s1⟩ := h1
  obtain ⟨ta, p2, s2⟩ := h2
  exact ⟨_, pk_cons p1 p2, snd_cons s1 s2⟩
/-- *y among arguments -/
@[simp] def dStar (f : De) (g : Da) : Da := fun sv Q E => f sv (fun d sv1 => ∃ xs, (d = .tup xs ∨ d = .lst xs) ∧ g sv1 (fun as sv2 => Q (xs.map .dat ++ as) sv2) E) E
theorem ars_dat {K : PySem.W.Frag} {P : Hp} {σ : L2.St} {as : List Ar} {us : List V} (h : ArsRel K P σ as us) : ∀ {xs : List D} {vs : List V}, RpL K P xs vs → ArsRel K P σ (xs.map .dat ++ as) (vs ++ us)
  | [], _, e => by
    cases e
    exact h
  | x :: xs, _, e => by
    obtain ⟨v, r, rfl, h1, h2⟩ := e
    exact ⟨v, _, rfl, h1, ars_dat h h2⟩
theorem pda_star {e : Expr} {es : List Expr} {f : De} {g : Da} (h1 : PD X W e f) (h2 : PDA X W es g) (hs : starEach (.Starred e p :: es) X.env = (true, eval e X.env) :: starEach es X.env := by rfl) : PDA X W (.Starred e p :: es) (dStar f g) := by
  obtain ⟨te, p1, s1⟩ := h1
  obtain ⟨ta, p2, s2⟩ := h2
  refine ⟨_, StX.pa_star p1 p2 hs, fun F P H σ sv Q E R r k kx q => s1 F P H σ sv _ E _ r (fun v H1 P1 d sv1 r1 t1 rv q1 => ?_) kx q⟩
  obtain ⟨xs, hx, q1⟩ := q1
  have hh : ∃ a vs, v = .ref a ∧ (SqT X.K H1 a vs ∨ SqL X.K H1 a vs) ∧ RpL X.K P1 xs vs := by
    rcases hx with rfl | rfl
    · obtain ⟨a, vs, rfl, e1, rl⟩ := rv
      exact ⟨a, vs, rfl, .inl (sub_t r1.sub e1), rl⟩
    · obtain ⟨a, vs, rfl, e1, rl⟩ := rv
      exact ⟨a, vs, rfl, .inr (SqL.of (r1.sub _ _ e1)), rl⟩
  obtain ⟨a, vs, rfl, hsq, rl⟩ := hh
  exact ⟨a, vs, rfl, hsq, s2 F P1 H1 σ sv1 _ E _ r1 (fun us H2 P2 as sv2 r2 t2 ra q2 => k _ H2 P2 _ sv2 r2 (t1.trans t2) (ars_dat ra (RpL.mono t2 xs vs rl)) q2) kx q1⟩
/-- what is known of a class whose __init__ has a star: m values ahead of it; gV, gD put them and the keywords' values into the parameters' order -/
structure CnS (X : Cx) (k : Nat) (x : Str) (C : Addr) (ks : List Str) (m n : Nat) (ns : List Str) (gV : List V → List V → List V) (gD : List D → List D → List D) (ci : Ci) : Prop where
  mono : ∀ ds Q Q' E E', (∀ d, Q d → Q' d) → (∀ x, E x → E' x) → ci ds Q E → ci ds Q' E'
  rel : ∀ (P : Hp) (ds es : List D) (vs zs : List V), ds.length = m → es.length = ks.length → RpL X.K P ds vs → RpL X.K P es zs → RpL X.K P (gD ds es) (gV vs zs) ∧ (gD ds es).length + 1 = n
  ex : ∃ f, Mk X.K C f ∧ FnI X.prog X.w X.K X.mg X.base k f ks (fun vs zs H Q E => ∃ a ws rest, vs = (a :: ws) ++ rest ∧ ws.length = m ∧ rest.length ≤ sizeLine ∧ ∀ p, H p = none → spI X.K C n ns ci (a :: gV ws zs ++ [V.ref p]) (upd H p (.tup rest)) Q E)
  mg : X.mg x = some (.ref C)
@[simp] def dMake (C : Addr) (kl m : Nat) (ns : List Str) (gD : List D → List D → List D) (ci : Ci) (fa fk : Da) : De := fun sv Q E => fa sv (fun as sv1 => fk sv1 (fun bs sv2 => ∃ ds es, asD as = some ds ∧ asD bs = some es ∧ m ≤ ds.length ∧ ds.length ≤ 100000 ∧ es.length = kl ∧
  ci (gD (ds.take m) es ++ [.tup (ds.drop m)]) (fun fs => Q (.ins C ns fs) sv2) (fun x => E x sv2)) E) E
theorem snd_make {K : PySem.W.Frag} {C : Addr} {ks : List Str} {m n : Nat} {ns : List Str} {gV : List V → List V → List V} {gD : List D → List D → List D} {ci : Ci} {t tk : TA} {fa fk : Da}
    (mono : ∀ ds Q Q' E E', (∀ d, Q d → Q' d) → (∀ x, E x → E' x) → ci ds Q E → ci ds Q' E') (rel : ∀ (P : Hp) (ds es : List D) (vs zs : List V), ds.length = m → es.length = ks.length → RpL K P ds vs → RpL K P es zs → RpL K P (gD ds es) (gV vs zs) ∧ (gD ds es).length + 1 = n)
    (h1 : SndA K W t fa) (h2 : SndA K W tk fk) :
    SndE K W (tMakeI C ks.length (fun vs zs H Q E => ∃ a ws rest, vs = (a :: ws) ++ rest ∧ ws.length = m ∧ rest.length ≤ sizeLine ∧ ∀ p, H p = none → spI K C n ns ci (a :: gV ws zs ++ [V.ref p]) (upd H p (.tup rest)) Q E) W.w t tk) (dMake C ks.length m ns gD ci fa fk) := fun F P H σ sv Q E R r k kx q =>
  h1 F P H σ sv _ E _ r (fun vs H1 P1 as sv1 r1 t1 ra q1 => h2 F P1 H1 σ sv1 _ E _ r1 (fun zs H2 P2 bs sv2 r2 t2 rb q2 => by
    obtain ⟨ds, es, ed, ee, hm, hz, hk, q2⟩ := q2
    have rd := asD_rel (ra.mono t2) ed
    have re := asD_rel rb ee
    refine ⟨by rw [re.length, hk], fun x dx hx hdx hne => ⟨.ref x, vs.take m, vs.drop m, by rw [List.cons_append, List.take_append_drop], by rw [List.length_take, rd.length]; omega, small_line (by rw [List.length_drop, rd.length]; omega), fun p hp => ?_⟩⟩
    have px : p ≠ x := fun z => by
      rw [z, upd_same] at hp
      cases hp
    have pd : p ≠ dx := fun z => by
      rw [z, upd_ne hne, upd_same] at hp
      cases hp
    have hp2 : H2 p = none := by
      rw [upd_ne px, upd_ne pd] at hp
      exact hp
    have fp := r2.free hp2
    have fx := r2.free hx
    have fd := r2.free hdx
    obtain ⟨rg, lg⟩ := rel P2 (ds.take m) es (vs.take m) zs (by rw [List.length_take]; omega) hk (rd.take m) re
    have up : Sub P2 (upd P2 p (.tup (vs.drop m))) := sub_upd fp
    have keepH : ∀ {b : Addr} {o : HO}, H2 b = some o → (upd (upd (upd H2 dx (.own x)) x (.ins C dx [])) p (.tup (vs.drop m))) b = some o ∧ b ≠ x := fun {b o} e => by
      have n1 : b ≠ x := fun z => by
        rw [z, hx] at e
        cases e
      have n2 : b ≠ dx := fun z => by
        rw [z, hdx] at e
        cases e
      have n3 : b ≠ p := fun z => by
        rw [z, hp2] at e
        cases e
      exact ⟨by rw [upd_ne n3, upd_ne n1, upd_ne n2]; exact e, n1⟩
    have news : ∀ {P' H' : Hp}, PostI (upd P2 p (.tup (vs.drop m))) (upd (upd (upd H2 dx (.own x)) x (.ins C dx [])) p (.tup (vs.drop m))) x P' H' → ∀ a o, P' a = some o → P2 a = some o ∨ H2 a = none := fun {P' H'} po a o e => by
      rcases po.new a o e with z | z
      · by_cases ha : a = p
        · rw [ha]
          exact .inr hp2
        · rw [upd_ne ha] at z
          exact .inl z
      · refine .inr ?_
        cases q : H2 a with
        | none => rfl
        | some u =>
          rw [(keepH q).1] at z
          cases z
    refine ⟨upd P2 p (.tup (vs.drop m)), x, dx, gV (vs.take m) zs ++ [.ref p], gD (ds.take m) es ++ [.tup (ds.drop m)], rfl, by rw [List.length_append]; exact lg, fun a o e => ?_, by rw [upd_ne px.symm]; exact fx, by rw [upd_ne px.symm, upd_same], ?_, mono _ _ _ _ _ (fun fs qf H' P' dx' us po ho hl hn rf => ?_) (fun x' qx cls dd H' P' po rx => ?_) q2⟩
    · by_cases ha : a = p
      · rw [ha, upd_same] at e ⊢
        exact e
      · rw [upd_ne ha] at e
        exact (keepH (r2.sub a o e)).1
    · exact (RpL.mono up _ _ rg).append ⟨.ref p, [], rfl, ⟨p, vs.drop m, rfl, .inl (.inl upd_same), RpL.mono up _ _ (rd.drop m)⟩, rfl⟩
    · refine ⟨rfl, ?_⟩
      have s3 : Sub P' (upd P' x (.ins C dx' (ns.zip us))) := sub_upd hn
      refine k (.ref x) H' (upd P' x (.ins C dx' (ns.zip us))) (.ins C ns fs) sv2 (r2.grow ((up.trans po.grow).trans s3) (fun a o e => ?_) (fun a o e => po.keep a o (keepH e).1 (keepH e).2) fun a o e => ?_) ((t1.trans t2).trans ((up.trans po.grow).trans s3)) ⟨x, dx', us, rfl, upd_same, hl, RpL.mono s3 _ _ rf⟩ qf
      · by_cases ha : a = x
        · rw [ha]
          exact .inr hx
        · rw [upd_ne ha] at e
          exact news po a o e
      · by_cases ha : a = x
        · rw [ha, upd_same] at e
          rw [ha]
          cases e
          exact ho
        · rw [upd_ne ha] at e
          exact po.sub a o e
    · exact kx cls dd H' P' x' sv2 (r2.grow (up.trans po.grow) (news po) (fun a o e => po.keep a o (keepH e).1 (keepH e).2) po.sub) rx qx) kx q1) kx q
section
variable {k m n : Nat} {x : Str} {C : Addr} {ks ns : List Str} {gV : List V → List V → List V} {gD : List D → List D → List D} {ci : Ci} {e : Expr} {es : List Expr} {kws : List Keyword} {fa fk : Da}
theorem pd_make (T : CnS X k x C ks m n ns gV gD ci) (hr : Room (k + 1) X.A) (hG : X.A.guards = some []) (tk : Takes X W.w) (hg : Gl X x) (ha : PDA X W (e :: es) fa) (hkw : PDK X W kws fk)
    (hall : (backToKw pos (keywordEach kws X.env)).all (·.1.isSome) = true := by rfl) (hks : (backToKw pos (keywordEach kws X.env)).filterMap (·.1) = ks := by rfl) (hdb : (x == ("__debug__" : Str)) = false := by decide)
    (he : starEach (e :: es) X.env = (false, eval e X.env) :: starEach es X.env := by rfl) (hpl : ((backTo pos (starEach (e :: es) X.env)).any (·.1) || (backToKw pos (keywordEach kws X.env)).any (·.1.isNone)) = false := by rfl) :
    PD X W (.Call (.Name x p) (e :: es) kws pos) (dMake C ks.length m ns gD ci fa fk) := by
  obtain ⟨f, M, F⟩ := T.ex
  obtain ⟨ta, p1, s1⟩ := ha
  obtain ⟨tk', p2, s2⟩ := hkw
  exact ⟨_, pe_makeI M F hr hG tk hg T.mg p1 p2 hall hks hdb he hpl, snd_make T.mono T.rel s1 s2⟩
theorem pd_makeS (T : CnS X k x C ks m n ns gV gD ci) (hr : Room (k + 1) X.A) (hG : X.A.guards = some []) (tk : Takes X W.w) (hg : Gl X x) (ha : PDA X W (e :: es) fa) (hkw : PDK X W kws fk)
    (hall : (backToKw pos (keywordEach kws X.env)).all (·.1.isSome) = true := by rfl) (hks : (backToKw pos (keywordEach kws X.env)).filterMap (·.1) = ks := by rfl) (hdb : (x == ("__debug__" : Str)) = false := by decide)
    (he : starEach (e :: es) X.env = (false, eval e X.env) :: starEach es X.env := by rfl) (hpl : ((backTo pos (starEach (e :: es) X.env)).any (·.1) || (backToKw pos (keywordEach kws X.env)).any (·.1.isNone)) = true := by rfl) :
    PD X W (.Call (.Name x p) (e :: es) kws pos) (dMake C ks.length m ns gD ci fa fk) := by
  obtain ⟨f, M, F⟩ := T.ex
  obtain ⟨ta, p1, s1⟩ := ha
  obtain ⟨tk', p2, s2⟩ := hkw
  exact ⟨_, pe_makeIS M F hr hG tk hg T.mg p1 p2 hall hks hdb he hpl, snd_make T.mono T.rel s1 s2⟩
end
end
end Pd
end
section
set_option autoImplicit false
set_option Elab.async false
set_option linter.all false
set_option autoImplicit false
set_option maxRecDepth 100000
set_option maxHeartbeats 4000000
/-! Pd15: == and != of an instance with its own __eq__ and anything. -/
namespace Pd
/-- a class with an own __eq__ at f, no own __ne__ -/
structure EqCls (K : PySem.W.Frag) (C f : PySem.Addr) : Prop where
  eq : PySem.W.findIn K (.ref C) "__eq__" = some (some (.ref f))
  fn : PySem.W.isFn K (.ref f) = true
  ne : PySem.W.findIn K (.ref C) "__ne__" = some (some (.builtin "object.__ne__"))
  mo : PySem.W.mroIn K C (.type "object") = some true
section
open PySem PySem.W PySem.Spec PySem.Calls PyProof.Rows
variable {prog : Program} {w : World} {A : Around} {E : Value → Shared → Prop} {s : Shared} {K : Frag} {x C f : Addr} {ox : Obj} {od : Option Obj} {b tb : Value}
theorem ne_entry {Q : Fin → Shared → Prop} (hu : A.units < cLine) (X : K.In s.heap) (I : InstAt s.heap x ox C od) (T : EqCls K C f) (h : wpAny (model prog w) A (call (.ref f) [.ref x, b]) (fun v s' => ∃ r, v = .bool r ∧ Q (.done (.ret (.bool (!r)))) s') E s) :
    wpAny (model prog w) A (Builtin.«object.__ne__» ⟨[.ref x, b], []⟩) Q E s := by
  have one : wpAny (model prog w) A (callSpecialIfBound? (.ref x) "__eq__" [b]) (fun v s' => ∃ r, v = some (.bool r) ∧ Q (.done (.ret (.bool (!r)))) s') E s :=
    ifBound_K X I T.eq T.fn (wpAny_mono h (fun v s' ⟨r, e, q⟩ => ⟨r, by rw [e], q⟩) fun _ _ z => z)
  unfold Builtin.«object.__ne__»
  refine wpAny_bind (wpAny_of_eq (a := ((Value.ref x : Value), [b])) (by first | rfl | (simp only [slotArgs]; rfl)) ?_)
  refine wpAny_bind (wpAny_cRoomFor hu ?_)
  refine wpAny_bind (wpAny_mono one (fun v s' ⟨r, e, q⟩ => ?_) fun _ _ z => z)
  subst e
  exact wpAny_bind (wpAny_truthy_bool (wpAny_pure q))
theorem ifBound_ne {args : List Value} {Q : Option Value → Shared → Prop} (X : K.In s.heap) (I : InstAt s.heap x ox C od) (hs : findIn K (.ref C) "__ne__" = some (some (.builtin "object.__ne__")))
    (h : wpAny (model prog w) A (call (.builtin "object.__ne__") (.ref x :: args)) (fun v => Q (some v)) E s) : wpAny (model prog w) A (callSpecialIfBound? (.ref x) "__ne__" args) Q E s := by
  have fin : wpAny (model prog w) A (call (.builtin "object.__ne__") ([.ref x] ++ args) >>= fun v => pure (some v)) Q E s := wpAny_bind (wpAny_mono h (fun v s' z => wpAny_pure z) fun _ _ z => z)
  simp only [callSpecialIfBound?, bindSpecialIfBound?]
  refine wpAny_holding (wpAny_bind (wpAny_bind (wpAny_bind (I.type.here ((looks_findIn X hs).here (wpAny_bind (wpAny_askSetting (wpAny_ite ?_))))))))
  split
  · exact wpAny_bind (wpAny_of_eq (PySem.F.cmp_object.ne.bind _) (wpAny_pure (by exact fin)))
  · exact wpAny_tryCatch (wpAny_bind (wpAny_of_eq (PySem.F.cmp_object.ne.bind _) (wpAny_pure (by exact fin))))
theorem rc_ne_own {Q : Value → Shared → Prop} (hu : A.units + 1 < cLine) (X : K.In s.heap) (I : InstAt s.heap x ox C od) (T : EqCls K C f) (hb : Looks (model prog w) s.heap (typeOf b) tb) (hn : notFirst K C tb = true)
    (h : wpAny (model prog w) A.in1 (call (.ref f) [.ref x, b]) (fun v s' => ∃ r, v = .bool r ∧ Q (.bool (!r)) s') E s) : wpAny (model prog w) A (richCompare .NotEq (.ref x) b) Q E s := by
  have one : wpAny (model prog w) A (tryCompare (.ref x) "__ne__" b) (fun r s' => ∃ v, r = some v ∧ Q v s') E s := by
    unfold tryCompare
    refine wpAny_bind (ifBound_ne X I T.ne (wpAny_call (codeAny_call_builtin PySem.F.cmp_object.ne.plain PySem.F.cmpEntry_ne (check_slot PySem.F.cmpKind_ne PySem.F.cmpSplit_ne (I.type.andThen (looks_mroIn X T.mo)) (PySem.F.cmpArgs_ne _ _) ?_))))
    refine ne_entry (A := A.in1) hu X I T (wpAny_mono h (fun v s' ⟨r, e, q⟩ => ⟨r, e, ?_⟩) fun _ _ z => z)
    exact wpAny_pure ⟨_, rfl, q⟩
  unfold richCompare
  simp only [oneThing_ref]
  refine wpAny_holding (wpAny_bind (wpAny_cRoomFor (Nat.lt_of_succ_lt hu) ?_))
  refine wpAny_bind (I.type.here (wpAny_bind (hb.here ?_)))
  have last : ∀ {s2 : Shared}, s2 = s → wpAny (model prog w) A (tryCompare (.ref x) "__ne__" b) (fun r s' => ∃ v, r = some v ∧ Q v s') E s2 := fun e => by
    rw [e]
    exact one
  split
  · rename_i q
    have e : subIn K tb (.ref C) = some false := by
      rcases Bool.or_eq_true_iff.mp hn with e | e
      · rw [beq_iff_eq.mp e] at q
        simp at q
      · exact beq_iff_eq.mp e
    refine wpAny_bind ((looks_subIn X e).here ?_)
    simp only [Bool.false_eq_true, if_false]
    refine wpAny_bind (wpAny_mono (last rfl) (fun r s' z => ?_) fun _ _ e => e)
    obtain ⟨v, rfl, hq⟩ := z
    exact wpAny_pure hq
  · refine wpAny_bind (wpAny_pure ?_)
    simp only [Bool.false_eq_true, if_false]
    refine wpAny_bind (wpAny_mono (last rfl) (fun r s' z => ?_) fun _ _ e => e)
    obtain ⟨v, rfl, hq⟩ := z
    exact wpAny_pure hq
end
open PySem PySem.Spec PyProof.Rows L2
section
variable {X : Cx} {k : Nat} {C f : Addr} {fd : FuncData} {ps : List Str} {ct : Ct}
theorem run_own {A : Around} {sp : Sp} {pins : List (Addr × Obj)} {σ : L2.St} {H : Hp} {s : Shared} {Q : VK} {us : List Value} {vs : List V} (hfr : A.frames = X.A.frames) (hr : Room k A) (hG : A.guards = some []) (F : Fd X.prog X.w X.K X.mg X.base k f fd ps sp) (hb : Binds X.K fd ps [])
    (I : Inv X pins σ H s) (r : Vals vs us) (h : sp vs H Q fun _ _ _ => False) : wpAny (model X.prog X.w) A (call (.ref f) us) (EP X pins σ Q) X.xe s := by
  have e0 : Env0 X.prog X.w X.K X.mg X.base A X.stack s H := by
    have e := I.env0
    exact ⟨by rw [hfr]; exact e.frames, e.mod, e.bs, e.bsz, e.funs, e.frf, e.hok, e.bare⟩
  have hl : us.length = ps.length := by rw [← r.length]; exact F.len _ _ _ _ h
  have bt := hb s us I.kIn (by simpa using hl)
  rw [List.append_nil] at bt
  refine wpAny_call (codeAny_mono (F.run A X.stack s H ⟨us, []⟩ us vs Q _ hr hG e0 bt r h) fun r s' hq => ?_)
  cases r with
  | error e => exact takes_no (z := none) e s' (XE.of_call I (fun _ _ _ z => z) hq)
  | ok fl =>
    cases fl with
    | ret u => exact I.after hq
    | next => exact False.elim hq
    | brk => exact False.elim hq
    | cont => exact False.elim hq
/-- an instance of C at the left, its own __eq__ promises sp -/
def rOwn (K : PySem.W.Frag) (C : Addr) (sp : Sp) (g : Bool → Bool) : R2 := fun x y H Q => ∃ a dx fs tb, x = .ref a ∧ H a = some (.ins C dx fs) ∧ TyX K H y tb ∧ PySem.W.notFirst K C tb = true ∧ sp [x, y] H (fun v H' => ∃ b, v = .bl b ∧ Q (.bl (g b)) H') fun _ _ _ => False
theorem op_eqOwn (T : EqCls X.K C f) (F : Fd X.prog X.w X.K X.mg X.base k f fd ps (spC X.K 2 ct)) (hb : Binds X.K fd ps []) (hr : Room (k + 1) X.A) (hG : X.A.guards = some []) : OpR X (compareOp .Eq) (rOwn X.K C (spC X.K 2 ct) id) := by
  intro pins s σ H x y v u Q I rx ry h
  obtain ⟨a, dx, fs, tb, rfl, ha, ty, hn, hsp⟩ := h
  obtain rfl : v = Value.ref a := rx
  obtain ⟨mA, J, _⟩ := ins_get I.hok ha
  obtain ⟨od, J, _⟩ := J.look
  obtain ⟨m, hF⟩ := I.fr
  obtain ⟨Pq, KX, hP, _⟩ := kit_of I ry ty
  show wpAny (model X.prog X.w) X.A (richCompare .Eq (.ref a) u) (EP X pins σ Q) X.xe s
  have hu : X.A.units < cLine := by have := hr.units; omega
  refine PySem.W.cmp_K (op := .Eq) hu hF I.ok.mod.kin J (KX.ty _ _ I.kIn hP) hn T.eq T.fn (thn (run_own rfl (hr.mono (Nat.le_succ k)) hG F hb I (.cons (show RelV (V.ref a) (Value.ref a) from rfl) (.cons ry .nil)) hsp) fun r s' q => ?_)
  obtain ⟨w, H', I', rw', b, ew, q⟩ := q
  subst ew
  cases rw'
  exact ⟨.bl b, H', I', rfl, q⟩
theorem op_neOwn (T : EqCls X.K C f) (F : Fd X.prog X.w X.K X.mg X.base k f fd ps (spC X.K 2 ct)) (hb : Binds X.K fd ps []) (hr : Room (k + 1) X.A) (hG : X.A.guards = some []) : OpR X (compareOp .NotEq) (rOwn X.K C (spC X.K 2 ct) not) := by
  intro pins s σ H x y v u Q I rx ry h
  obtain ⟨a, dx, fs, tb, rfl, ha, ty, hn, hsp⟩ := h
  obtain rfl : v = Value.ref a := rx
  obtain ⟨mA, J, _⟩ := ins_get I.hok ha
  obtain ⟨od, J, _⟩ := J.look
  obtain ⟨Pq, KX, hP, _⟩ := kit_of I ry ty
  show wpAny (model X.prog X.w) X.A (richCompare .NotEq (.ref a) u) (EP X pins σ Q) X.xe s
  have hu : X.A.units + 1 < cLine := by have := hr.units; omega
  refine rc_ne_own hu I.kIn J T (KX.ty _ _ I.kIn hP) hn (thn (run_own rfl hr.in1 hG F hb I (.cons (show RelV (V.ref a) (Value.ref a) from rfl) (.cons ry .nil)) hsp) fun r s' q => ?_)
  obtain ⟨w, H', I', rw', b, ew, q⟩ := q
  subst ew
  cases rw'
  exact ⟨b, rfl, .bl (!b), H', I', rfl, q⟩
/-- over data -/
@[simp] def gOwn (K : PySem.W.Frag) (C : Addr) (ct : Ct) (g : Bool → Bool) : G2 := fun d e Q => ∃ ns xs, d = .ins C ns xs ∧ D.okTy K e ∧ PySem.W.notFirst K C e.ty = true ∧ ct.c [some d, some e] (fun z => ∃ b, z = .bl b ∧ Q (.bl (g b))) fun _ => False
theorem snd_own {K : PySem.W.Frag} {g : Bool → Bool} (mono : ∀ as Q Q' E E', (∀ d, Q d → Q' d) → (∀ x, E x → E' x) → ct.c as Q E → ct.c as Q' E') : SndR K (rOwn K C (spC K 2 ct) g) (gOwn K C ct g) := fun F P H σ sv x y d e Q R re rx ry kk q => by
  obtain ⟨ns, xs, rfl, ot, hn, q⟩ := q
  obtain ⟨a, dx, vs, rfl, h1, h2, h3⟩ := id rx
  refine ⟨a, dx, _, e.ty, rfl, re.sub _ _ h1, tyx_of (Rp.mono re.sub e y ry) ot, hn, ?_⟩
  refine snd_callC (W := wNo none) (E := fun _ _ => False) (sv := sv) (σ := σ) (F := F) (Q := fun z sv' => sv' = sv ∧ ∃ b, z = .bl b ∧ Q (.bl (g b))) mono (as := [.dat (.ins C ns xs), .dat e]) rfl re ⟨_, _, rfl, rx, _, _, rfl, ry, rfl⟩ (fun v H' P' z sv' r' t' rz q' => ?_) (fun _ _ _ _ _ _ _ _ z => z) ?_
  · obtain ⟨rfl, b, rfl, q'⟩ := q'
    exact ⟨b, rz, kk _ H' P' (.bl (g b)) r' t' rfl q'⟩
  · show ct.c [some (.ins C ns xs), some e] _ _
    exact mono _ _ _ _ _ (fun z qz => ⟨rfl, qz⟩) (fun _ z => z) q
end
end Pd
end
section
set_option autoImplicit false
set_option Elab.async false
set_option linter.all false
set_option autoImplicit false
set_option maxRecDepth 100000
set_option maxHeartbeats 4000000
/-! Pd16: what is walked, whatever it is; short words for derivations. -/
namespace Pd
open PySem PySem.Spec PyProof.Rows L2
section
variable {X : Cx} {W : Wz} {pos : Pos}
theorem walks_str {K : PySem.W.Frag} {P : Hp} {s : Str} : Walks K (Its s) P (s.cps.toList.map fun c => D.str ⟨#[c]⟩) := by
  refine ⟨fun i H P' _ _ hi => ?_, fun i H P' _ _ hi => show s.cps.size ≤ i by simpa using hi⟩
  have hi' : i < s.cps.size := by simpa using hi
  refine ⟨hi', fun x H' y => ?_⟩
  obtain ⟨eh, c, ec, ex⟩ := y
  refine ⟨eh, .str ⟨#[c]⟩, ?_, ex⟩
  rw [List.getElem?_map, Array.getElem?_toList, ec]
  rfl
theorem pdi_str {tg l : Expr} {f : De} (h : PD X W l f) : PDI X W tg l (dItS f) := by
  obtain ⟨t, p, s⟩ := h
  refine ⟨_, pi_str p, fun F P H σ sv Q E R r k kx q => s F P H σ sv _ E _ r (fun v H1 P1 d sv1 r1 s1 rv q1 => ?_) kx q⟩
  obtain ⟨z, rfl, q1⟩ := q1
  obtain rfl := rv
  exact ⟨z, rfl, k _ H1 P1 _ sv1 r1 s1 walks_str q1⟩
theorem PI.or {tg l : Expr} {t t' : TI} (h : PI X tg l t) (h' : PI X tg l t') : PI X tg l (fun σ H R => t σ H R ∨ t' σ H R) := ⟨fun pins s σ H R I q => by
  rcases q with q | q
  · exact h.run pins s σ H R I q
  · exact h'.run pins s σ H R I q⟩
theorem pdi_or {tg l : Expr} {f g : Dl} (h : PDI X W tg l f) (h' : PDI X W tg l g) : PDI X W tg l (fun sv Q E => f sv Q E ∨ g sv Q E) := by
  obtain ⟨t, p, s⟩ := h
  obtain ⟨t', p', s'⟩ := h'
  refine ⟨_, PI.or p p', fun F P H σ sv Q E R r k kx q => ?_⟩
  rcases q with q | q
  · exact .inl (s F P H σ sv Q E R r k kx q)
  · exact .inr (s' F P H σ sv Q E R r k kx q)
/-- the items of what is walked -/
def D.items : D → Option (List D)
  | .lst ds => some ds
  | .tup ds => some ds
  | .str s => some (s.cps.toList.map fun c => .str ⟨#[c]⟩)
  | _ => none
/-- a source that is data: where it is walked, its kind is known -/
@[simp] def dIt (f : De) : Dl := fun sv Q E => dItL f sv Q E ∨ dItT f sv Q E ∨ dItS f sv Q E
theorem pdi_any {tg l : Expr} {f : De} (h : PD X W l f) : PDI X W tg l (dIt f) := by
  obtain ⟨t, p, s⟩ := pdi_or (tg := tg) (pdi_list h) (pdi_or (tg := tg) (pdi_tup h) (pdi_str h))
  exact ⟨t, p, s⟩

/-! ### short words -/
theorem dv (i : Nat) {x : Str} (hN : X.N[i]? = some x := by rfl) (hv : Vis X.env.scope x := by first | exact Or.inl rfl | exact Or.inr (Or.inl rfl) | exact Or.inr (Or.inr rfl)) (hd : (x == ("__debug__" : Str)) = false := by decide) (hcd : (x == ("__classdict__" : Str)) = false := by decide) : PD X W (.Name x pos) (dVar i) := pd_var hN hv hd hcd
theorem av (i : Nat) {x : Str} {es : List Expr} {g : Da} {p : Pos} (h2 : PDA X W es g) (hN : X.N[i]? = some x := by rfl) (hv : Vis X.env.scope x := by first | exact Or.inl rfl | exact Or.inr (Or.inl rfl) | exact Or.inr (Or.inr rfl)) (hd : (x == ("__debug__" : Str)) = false := by decide) (hcd : (x == ("__classdict__" : Str)) = false := by decide)
    (hs : starEach (.Name x p :: es) X.env = (false, eval (.Name x p) X.env) :: starEach es X.env := by rfl) : PDA X W (.Name x p :: es) (dConsV i g) := pda_var hN hv h2 hd hcd hs
theorem boot_str'' : bootBuiltins "str" = some (.type "str") := by decide +kernel
theorem boot_int'' : bootBuiltins "int" = some (.type "int") := by decide +kernel
theorem boot_bool'' : bootBuiltins "bool" = some (.type "bool") := by decide +kernel
theorem boot_dict'' : bootBuiltins "dict" = some (.type "dict") := by decide +kernel
theorem op_inA (hu : X.A.units + 65 < cLine) : OpR X (compareOp .In) (fun x y H Q => (∃ (c : Nat) (z : Str), x = .str ⟨#[c]⟩ ∧ y = .str z ∧ Q (.bl (decide (c ∈ z.cps.toList))) H) ∨ rInP X.K x y H Q) := OpR.or op_inS (op_inP hu)
theorem op_notInA (hu : X.A.units + 65 < cLine) : OpR X (compareOp .NotIn) (fun x y H Q => (∃ (c : Nat) (z : Str), x = .str ⟨#[c]⟩ ∧ y = .str z ∧ Q (.bl (!decide (c ∈ z.cps.toList))) H) ∨ rNotInP X.K x y H Q) := OpR.or op_notInS (op_notInP hu)
theorem room_u {k : Nat} {A : Around} (r : Room k A) : A.units + 65 < cLine := by
  have := r.un
  omega
/-- a op b op' c as a test -/
theorem pdt_chain {a b c : Expr} {op op' : CmpOp} {f1 f2 f3 : De} {r r' : R2} {g g' : G2} (ho : OpR X (compareOp op) r) (hr : SndR X.K r g) (ho' : OpR X (compareOp op') r') (hr' : SndR X.K r' g') (h1 : PD X W a f1) (h2 : PD X W b f2) (h3 : PD X W c f3)
    (hm : lastMarks [op, op'] [b, c] = false := by with_unfolding_all rfl) : PDT X W (.Compare a [op, op'] [b, c] pos) (dTest (dChain g g' f1 f2 f3)) := by
  obtain ⟨ta, p1, s1⟩ := h1
  obtain ⟨tb, p2, s2⟩ := h2
  obtain ⟨tc, p3, s3⟩ := h3
  refine ⟨_, pt_chain ho ho' p1 p2 p3 hm, fun F P H σ sv Q E R re k kx q => snd_chain s1 s2 s3 hr hr' F P H σ sv _ E _ re (fun v H1 P1 d sv1 r1 s1' rv q1 => ?_) kx q⟩
  obtain ⟨b, rfl, q1⟩ := q1
  exact ⟨b, rv, k b H1 P1 sv1 r1 s1' q1⟩

/-! the same with K named, so that nothing of a context is left in what a construct is worth -/
theorem dfld (K : PySem.W.Frag) {e : Expr} {f : Str} {g : De} (h : PD X W e g) (hK : X.K = K := by rfl) (hb : attributeBase e f X.env (eval e X.env) = eval e X.env := by rfl) : PD X W (.Attribute e f pos) (dFld K f g) := by
  subst hK
  exact pd_fld h hb
theorem disiT (K : PySem.W.Frag) {p p2 : Pos} {e : Expr} {f : De} {x : Str} {T : String} (hv : bootBuiltins x = some (.type T)) (hxm : X.mg x = none) (hm : X.mg "isinstance" = none) (h : PD X W e f) (hx : Gl X x := by rfl) (hg : Gl X "isinstance" := by rfl) (hK : X.K = K := by rfl)
    (hn : x ≠ "__name__" := by decide) (hdb : (x == ("__debug__" : Str)) = false := by decide)
    (he : starEach [e, .Name x p2] X.env = (false, eval e X.env) :: starEach [.Name x p2] X.env := by rfl) (he2 : starEach [.Name x p2] X.env = (false, eval (.Name x p2) X.env) :: starEach [] X.env := by rfl) (hpl : (backTo pos (starEach [.Name x p2] X.env)).any (·.1) = false := by rfl) :
    PD X W (.Call (.Name "isinstance" p) [e, .Name x p2] [] pos) (dIsi K (.type T) f) := by
  subst hK
  exact pd_isiT hv hx hxm hg hm h hn hdb he he2 hpl
theorem disiC (K : PySem.W.Frag) {p p2 : Pos} {e : Expr} {f : De} {x : Str} {C : Addr} (hxm : X.mg x = some (.ref C)) (hm : X.mg "isinstance" = none) (h : PD X W e f) (hx : Gl X x := by rfl) (hg : Gl X "isinstance" := by rfl) (hK : X.K = K := by rfl) (hdb : (x == ("__debug__" : Str)) = false := by decide)
    (he : starEach [e, .Name x p2] X.env = (false, eval e X.env) :: starEach [.Name x p2] X.env := by rfl) (he2 : starEach [.Name x p2] X.env = (false, eval (.Name x p2) X.env) :: starEach [] X.env := by rfl) (hpl : (backTo pos (starEach [.Name x p2] X.env)).any (·.1) = false := by rfl) :
    PD X W (.Call (.Name "isinstance" p) [e, .Name x p2] [] pos) (dIsi K (.ref C) f) := by
  subst hK
  exact pd_isiC hxm hx hg hm h hdb he he2 hpl
theorem dselfF (K : PySem.W.Frag) (i : Nat) {x f : Str} {p2 : Pos} (hN : X.N[i]? = some x := by rfl) (hv : Vis X.env.scope x := by first | exact Or.inl rfl | exact Or.inr (Or.inl rfl) | exact Or.inr (Or.inr rfl)) (hK : X.K = K := by rfl) (hd : (x == ("__debug__" : Str)) = false := by decide) (hcd : (x == ("__classdict__" : Str)) = false := by decide)
    (hb : attributeBase (.Name x p2) f X.env (eval (.Name x p2) X.env) = eval (.Name x p2) X.env := by rfl) : PD X W (.Attribute (.Name x p2) f pos) (dSelfF K i f) := by
  subst hK
  exact pd_selfF hN hv hd hcd hb
theorem dself (K : PySem.W.Frag) (i : Nat) {x f : Str} {e : Expr} {fe : De} {p p2 : Pos} (he : PD X W e fe) (hN : X.N[i]? = some x := by rfl) (hv : Vis X.env.scope x := by first | exact Or.inl rfl | exact Or.inr (Or.inl rfl) | exact Or.inr (Or.inr rfl)) (hK : X.K = K := by rfl) (hd : (x == ("__debug__" : Str)) = false := by decide) (hcd : (x == ("__classdict__" : Str)) = false := by decide)
    (hs : swapsWith e (some (.Attribute (.Name x p2) f p)) pos.line X.env = pure false := by rfl) : PDS X W (.Assign [.Attribute (.Name x p2) f p] e pos) (dSelf K i f fe) := by
  subst hK
  exact pds_self hN hv he hd hcd hs
theorem dtry (K : PySem.W.Frag) {body : List Stmt} {h₀ : ExceptHandler} {hds : List ExceptHandler} {l : List Dh} {fb : Ds} (hN : X.N.Nodup) (tk : Takes X W.w)
    (hb : ∀ (W' : WX) (pn : List (Addr × Obj)) (xe : Value → Shared → Prop), Takes (X.tr pn xe) W' → PassesOwn (model X.prog X.w) X.A X.env xe → PDSs (X.tr pn xe) ⟨W', W.z⟩ body fb) (hh : DhsOk X (h₀ :: hds) l) (hs : X.stack = X.env :: X.outer := by rfl) (hf : X.env.frame = some X.env.locals := by rfl) (hK : X.K = K := by rfl) :
    PDS X W (.Try body (h₀ :: hds) [] [] pos) (dTry' K fb l) := by
  subst hK
  exact pds_try hs hf hN tk hb hh
end
section
variable {X : Cx} {a : Addr} {oe : Obj} {cls : Value} {dd : Option Addr} {pn : List (Addr × Obj)} {w : WX} {pos p p2 p3 : Pos}
theorem dxf (K : PySem.W.Frag) (i : Nat) {C : Addr} {f n : Str} (T : XfC X.K C) (hno : PySem.W.findIn X.K (.ref C) f = some none) (hz : Zc cls dd oe) (hf : ∃ vs, oe.data = .fields vs) (hN : X.N[i]? = some n := by rfl) (hv : Vis X.env.scope n := by first | exact Or.inl rfl | exact Or.inr (Or.inl rfl) | exact Or.inr (Or.inr rfl)) (hK : X.K = K := by rfl)
    (hd : (n == ("__debug__" : Str)) = false := by decide) (hcd : (n == ("__classdict__" : Str)) = false := by decide) (hb : attributeBase (.Name n p) f X.env (eval (.Name n p) X.env) = eval (.Name n p) X.env := by rfl) :
    PD (X.suite a ((a, oe) :: pn)) ⟨w, some (a, cls, dd)⟩ (.Attribute (.Name n p) f pos) (dXf K i C f) := by
  subst hK
  exact pd_xf T hno hN hv hz hf hd hcd hb
theorem dxiT (K : PySem.W.Frag) (i : Nat) {T : String} {n x : Str} (hv : bootBuiltins x = some (.type T)) (hxm : X.mg x = none) (hm : X.mg "isinstance" = none) (hz : Zc cls dd oe) (hf : ∃ vs, oe.data = .fields vs) (hN : X.N[i]? = some n := by rfl) (hvn : Vis X.env.scope n := by first | exact Or.inl rfl | exact Or.inr (Or.inl rfl) | exact Or.inr (Or.inr rfl)) (hK : X.K = K := by rfl) (hx : Gl X x := by rfl) (hg : Gl X "isinstance" := by rfl)
    (hn : x ≠ "__name__" := by decide) (hdb : (x == ("__debug__" : Str)) = false := by decide) (hd : (n == ("__debug__" : Str)) = false := by decide) (hcd : (n == ("__classdict__" : Str)) = false := by decide)
    (he : starEach [.Name n p2, .Name x p3] X.env = (false, eval (.Name n p2) X.env) :: starEach [.Name x p3] X.env := by rfl) (he2 : starEach [.Name x p3] X.env = (false, eval (.Name x p3) X.env) :: starEach [] X.env := by rfl) (hpl : (backTo pos (starEach [.Name x p3] X.env)).any (·.1) = false := by rfl) :
    PD (X.suite a ((a, oe) :: pn)) ⟨w, some (a, cls, dd)⟩ (.Call (.Name "isinstance" p) [.Name n p2, .Name x p3] [] pos) (dXi K i (.type T)) := by
  subst hK
  exact pd_xi (.ty T) (pe_bltn (X := X.suite a ((a, oe) :: pn)) (v := .ty T) hx hxm hv rfl hn hdb) hg hm hN hvn hz hf hd hcd he he2 hpl
end
end Pd
end
section
set_option autoImplicit false
set_option Elab.async false
set_option linter.all false
set_option autoImplicit false
set_option maxRecDepth 100000
set_option maxHeartbeats 4000000
/-! Pd17: how what a construct is worth is worked out. -/
namespace Pd
open PySem PySem.Spec PyProof.Rows L2
section
variable {K : PySem.W.Frag}
@[simp] theorem kit_NoneType_bool : PySem.W.kitOne K (.type "NoneType") (.type "bool") = some false := rfl
@[simp] theorem kit_NoneType_int : PySem.W.kitOne K (.type "NoneType") (.type "int") = some false := rfl
@[simp] theorem kit_NoneType_str : PySem.W.kitOne K (.type "NoneType") (.type "str") = some false := rfl
@[simp] theorem kit_NoneType_list : PySem.W.kitOne K (.type "NoneType") (.type "list") = some false := rfl
@[simp] theorem kit_NoneType_tuple : PySem.W.kitOne K (.type "NoneType") (.type "tuple") = some false := rfl
@[simp] theorem kit_NoneType_dict : PySem.W.kitOne K (.type "NoneType") (.type "dict") = some false := rfl
@[simp] theorem kit_bool_bool : PySem.W.kitOne K (.type "bool") (.type "bool") = some true := rfl
@[simp] theorem kit_bool_int : PySem.W.kitOne K (.type "bool") (.type "int") = some true := rfl
@[simp] theorem kit_bool_str : PySem.W.kitOne K (.type "bool") (.type "str") = some false := rfl
@[simp] theorem kit_bool_list : PySem.W.kitOne K (.type "bool") (.type "list") = some false := rfl
@[simp] theorem kit_bool_tuple : PySem.W.kitOne K (.type "bool") (.type "tuple") = some false := rfl
@[simp] theorem kit_bool_dict : PySem.W.kitOne K (.type "bool") (.type "dict") = some false := rfl
@[simp] theorem kit_int_bool : PySem.W.kitOne K (.type "int") (.type "bool") = some false := rfl
@[simp] theorem kit_int_int : PySem.W.kitOne K (.type "int") (.type "int") = some true := rfl
@[simp] theorem kit_int_str : PySem.W.kitOne K (.type "int") (.type "str") = some false := rfl
@[simp] theorem kit_int_list : PySem.W.kitOne K (.type "int") (.type "list") = some false := rfl
@[simp] theorem kit_int_tuple : PySem.W.kitOne K (.type "int") (.type "tuple") = some false := rfl
@[simp] theorem kit_int_dict : PySem.W.kitOne K (.type "int") (.type "dict") = some false := rfl
@[simp] theorem kit_str_bool : PySem.W.kitOne K (.type "str") (.type "bool") = some false := rfl
@[simp] theorem kit_str_int : PySem.W.kitOne K (.type "str") (.type "int") = some false := rfl
@[simp] theorem kit_str_str : PySem.W.kitOne K (.type "str") (.type "str") = some true := rfl
@[simp] theorem kit_str_list : PySem.W.kitOne K (.type "str") (.type "list") = some false := rfl
@[simp] theorem kit_str_tuple : PySem.W.kitOne K (.type "str") (.type "tuple") = some false := rfl
@[simp] theorem kit_str_dict : PySem.W.kitOne K (.type "str") (.type "dict") = some false := rfl
@[simp] theorem kit_list_bool : PySem.W.kitOne K (.type "list") (.type "bool") = some false := rfl
@[simp] theorem kit_list_int : PySem.W.kitOne K (.type "list") (.type "int") = some false := rfl
@[simp] theorem kit_list_str : PySem.W.kitOne K (.type "list") (.type "str") = some false := rfl
@[simp] theorem kit_list_list : PySem.W.kitOne K (.type "list") (.type "list") = some true := rfl
@[simp] theorem kit_list_tuple : PySem.W.kitOne K (.type "list") (.type "tuple") = some false := rfl
@[simp] theorem kit_list_dict : PySem.W.kitOne K (.type "list") (.type "dict") = some false := rfl
@[simp] theorem kit_tuple_bool : PySem.W.kitOne K (.type "tuple") (.type "bool") = some false := rfl
@[simp] theorem kit_tuple_int : PySem.W.kitOne K (.type "tuple") (.type "int") = some false := rfl
@[simp] theorem kit_tuple_str : PySem.W.kitOne K (.type "tuple") (.type "str") = some false := rfl
@[simp] theorem kit_tuple_list : PySem.W.kitOne K (.type "tuple") (.type "list") = some false := rfl
@[simp] theorem kit_tuple_tuple : PySem.W.kitOne K (.type "tuple") (.type "tuple") = some true := rfl
@[simp] theorem kit_tuple_dict : PySem.W.kitOne K (.type "tuple") (.type "dict") = some false := rfl
@[simp] theorem kit_dict_bool : PySem.W.kitOne K (.type "dict") (.type "bool") = some false := rfl
@[simp] theorem kit_dict_int : PySem.W.kitOne K (.type "dict") (.type "int") = some false := rfl
@[simp] theorem kit_dict_str : PySem.W.kitOne K (.type "dict") (.type "str") = some false := rfl
@[simp] theorem kit_dict_list : PySem.W.kitOne K (.type "dict") (.type "list") = some false := rfl
@[simp] theorem kit_dict_tuple : PySem.W.kitOne K (.type "dict") (.type "tuple") = some false := rfl
@[simp] theorem kit_dict_dict : PySem.W.kitOne K (.type "dict") (.type "dict") = some true := rfl
end
/-- a comprehension whose parts leave the slots as they are: item by item -/
theorem goLc_fm (g : D → Option D) {dg : Dg} {dt : Dt} {fe : De} {vs : List Nat} {Q : List D → Sv → Prop} : ∀ {ds : List D} {sv : Sv} {acc : List D}, acc.length + ds.length ≤ 100000 →
    (∀ d ∈ ds, ∀ (T : D → Sv → Prop) (N : Sv → Prop), (∀ z, g d = some z → T z sv) → (g d = none → N sv) → dg d sv fun sv1 => dt sv1 (fun b sv2 => if b = true then fe sv2 (fun z sv3 => T z (unAt sv3 vs)) (fun _ _ => False) else N (unAt sv2 vs)) fun _ _ => False) →
    Q (acc ++ ds.filterMap g) sv → goLc dg dt fe vs Q ds sv acc
  | [], sv, acc, _, _, q => by
    rw [List.filterMap_nil, List.append_nil] at q
    exact q
  | d :: ds, sv, acc, hl, hs, q => by
    rw [List.length_cons] at hl
    refine hs d List.mem_cons_self (fun z sv' => acc.length < 100000 ∧ goLc dg dt fe vs Q ds sv' (acc ++ [z])) (fun sv' => goLc dg dt fe vs Q ds sv' acc) (fun z e => ⟨by omega, ?_⟩) fun e => ?_
    · refine goLc_fm g (by rw [List.length_append, List.length_singleton]; omega) (fun d' h' => hs d' (List.mem_cons_of_mem _ h')) ?_
      rw [List.filterMap_cons_some e] at q
      rw [List.append_assoc]
      exact q
    · refine goLc_fm g (by omega) (fun d' h' => hs d' (List.mem_cons_of_mem _ h')) ?_
      rw [List.filterMap_cons_none e] at q
      exact q
theorem goLc_map (g : D → D) {dg : Dg} {dt : Dt} {fe : De} {vs : List Nat} {Q : List D → Sv → Prop} {ds : List D} {sv : Sv} (hl : ds.length ≤ 100000)
    (hs : ∀ d ∈ ds, ∀ (T : D → Sv → Prop) (N : Sv → Prop), T (g d) sv → dg d sv fun sv1 => dt sv1 (fun b sv2 => if b = true then fe sv2 (fun z sv3 => T z (unAt sv3 vs)) (fun _ _ => False) else N (unAt sv2 vs)) fun _ _ => False)
    (q : Q (ds.map g) sv) : goLc dg dt fe vs Q ds sv [] := by
  refine goLc_fm (fun d => some (g d)) (by rw [List.length_nil]; omega) (fun d hd T N h1 _ => hs d hd T N (h1 _ rfl)) ?_
  rw [List.nil_append, show ds.filterMap (fun d => some (g d)) = ds.map g from by rw [List.filterMap_eq_map']]
  exact q
theorem goLc_mapl {α : Type} (h : α → D) (g : α → D) {dg : Dg} {dt : Dt} {fe : De} {vs : List Nat} {Q : List D → Sv → Prop} : ∀ {l : List α} {sv : Sv} {acc : List D}, acc.length + l.length ≤ 100000 →
    (∀ a ∈ l, ∀ (T : D → Sv → Prop) (N : Sv → Prop), T (g a) sv → dg (h a) sv fun sv1 => dt sv1 (fun b sv2 => if b = true then fe sv2 (fun z sv3 => T z (unAt sv3 vs)) (fun _ _ => False) else N (unAt sv2 vs)) fun _ _ => False) →
    Q (acc ++ l.map g) sv → goLc dg dt fe vs Q (l.map h) sv acc
  | [], sv, acc, _, _, q => by
    rw [List.map_nil, List.append_nil] at q
    exact q
  | a :: l, sv, acc, hl, hs, q => by
    rw [List.length_cons] at hl
    refine hs a List.mem_cons_self (fun z sv' => acc.length < 100000 ∧ goLc dg dt fe vs Q (l.map h) sv' (acc ++ [z])) (fun sv' => goLc dg dt fe vs Q (l.map h) sv' acc) ⟨by omega, ?_⟩
    refine goLc_mapl h g (by rw [List.length_append, List.length_singleton]; omega) (fun d' h' => hs d' (List.mem_cons_of_mem _ h')) ?_
    rw [List.append_assoc]
    exact q
/-- a loop by an invariant over what has been walked -/
theorem loopD_inv {dg : Dg} {fb : Ds} {D : Ed} (I : List Pd.D → Sv → Prop) : ∀ {ds : List Pd.D} {sv : Sv}, I ds sv → (∀ sv', I [] sv' → D.nx sv') →
    (∀ d r sv', I (d :: r) sv' → ∀ (nx : Sv → Prop), (∀ sv2, I r sv2 → nx sv2) → dg d sv' fun sv1 => fb sv1 { D with nx := nx, ct := nx, bk := D.nx }) → loopD dg fb D ds sv
  | [], sv, h, h0, _ => h0 sv h
  | d :: ds, sv, h, h0, h1 => h1 d ds sv h (loopD dg fb D ds) fun sv2 h2 => loopD_inv I h2 h0 h1
theorem asB_map {α : Type} (g : α → Bool) : ∀ l : List α, asB (l.map fun x => .bl (g x)) = some (l.map g)
  | [] => rfl
  | x :: l => by
    show (asB (l.map fun x => .bl (g x))).map (g x :: ·) = _
    rw [asB_map g l]
    rfl
end Pd
end
section
set_option autoImplicit false
set_option Elab.async false
set_option linter.all false
set_option autoImplicit false
set_option maxRecDepth 100000
set_option maxHeartbeats 4000000
/-! Pd18: more numbers, a comprehension that is stored, calls told once for all contexts. -/
namespace Pd
open PySem PySem.Spec PyProof.Rows L2
section
variable {X : Cx} {W : Wz} {pos : Pos}
/-! ### numbers -/
@[simp] def dNeg (f : De) : De := fun sv Q E => f sv (fun d sv1 => ∃ i, d = .int i ∧ Q (.int (-i)) sv1) E
theorem pd_neg {a : Expr} {f : De} (h : PD X W a f) : PD X W (.UnaryOp .USub a pos) (dNeg f) := by
  obtain ⟨t, p, s⟩ := h
  refine ⟨_, pe_un un_neg p, fun F P H σ sv Q E R re k kx q => s F P H σ sv _ E _ re (fun v H1 P1 d sv1 r1 s1 rv q1 => ?_) kx q⟩
  obtain ⟨i, rfl, q1⟩ := q1
  exact ⟨i, rv, k _ H1 P1 (.int (-i)) sv1 r1 s1 rfl q1⟩
theorem pd_fdiv {a b : Expr} {f1 f2 : De} (h1 : PD X W a f1) (h2 : PD X W b f2) : PD X W (.BinOp a .FloorDiv b pos) (dOp (gIC CDivW fun i j => .int (i / j)) f1 f2) := pd_op op_fdivW (snd_I fun _ _ _ => rfl) h1 h2
theorem pd_pow {a b : Expr} {f1 f2 : De} (h1 : PD X W a f1) (h2 : PD X W b f2) : PD X W (.BinOp a .Pow b pos) (dOp (gIC CPow fun i j => .int (i ^ j.toNat)) f1 f2) := pd_op op_pow (snd_I fun _ _ _ => rfl) h1 h2
@[simp] def gInt1 : G1 := fun ds Q => (∃ i, ds = [.int i] ∧ Q (.int i)) ∨ ∃ b, ds = [.bl b] ∧ Q (.int (if b then 1 else 0))
theorem snd_int1 {K : PySem.W.Frag} : SndC K (fun xs H Q => (∃ i, xs = [.int i] ∧ Q (.int i) H) ∨ ∃ k, xs = [.bl k] ∧ Q (.int (if k then 1 else 0)) H) gInt1 := fun F P H σ sv vs ds Q R re rv k q => by
  rcases q with ⟨i, rfl, q⟩ | ⟨b, rfl, q⟩
  · obtain ⟨v, r, rfl, rv, rfl⟩ := rv
    obtain rfl := rv
    exact .inl ⟨i, rfl, k _ H P (.int i) re (Sub.refl P) rfl q⟩
  · obtain ⟨v, r, rfl, rv, rfl⟩ := rv
    obtain rfl := rv
    exact .inr ⟨b, rfl, k _ H P (.int _) re (Sub.refl P) rfl q⟩
theorem pd_int1 {p : Pos} {e : Expr} {fa : Da} (hm : X.mg "int" = none) (ha : PDA X W [e] fa) (hg : Gl X "int" := by rfl) (he : starEach [e] X.env = (false, eval e X.env) :: starEach [] X.env := by rfl) : PD X W (.Call (.Name "int" p) [e] [] pos) (dCB gInt1 fa) :=
  pd_callTy call_int1 snd_int1 boot_int'' hg hm ha (by decide) (by decide) he
@[simp] def gAbs : G1 := fun ds Q => ∃ i, ds = [.int i] ∧ Q (.int (if i < 0 then -i else i))
theorem snd_abs {K : PySem.W.Frag} : SndC K (fun xs H Q => ∃ i, xs = [.int i] ∧ Q (.int (if i < 0 then -i else i)) H) gAbs := fun F P H σ sv vs ds Q R re rv k q => by
  obtain ⟨i, rfl, q⟩ := q
  obtain ⟨v, r, rfl, rv, rfl⟩ := rv
  obtain rfl := rv
  exact ⟨i, rfl, k _ H P (.int _) re (Sub.refl P) rfl q⟩
theorem boot_abs' : bootBuiltins "abs" = some (.builtin "abs") := by decide +kernel
theorem pd_abs {p : Pos} {e : Expr} {fa : Da} (hm : X.mg "abs" = none) (ha : PDA X W [e] fa) (hg : Gl X "abs" := by rfl) (he : starEach [e] X.env = (false, eval e X.env) :: starEach [] X.env := by rfl) : PD X W (.Call (.Name "abs" p) [e] [] pos) (dCB gAbs fa) :=
  pd_callB call_abs snd_abs boot_abs' hg hm ha (by decide) (by decide) he
@[simp] def gTwo (g : Int → Int → Int) : G1 := fun ds Q => ∃ i j, ds = [.int i, .int j] ∧ Q (.int (g i j))
theorem snd_two {K : PySem.W.Frag} {g : Int → Int → Int} : SndC K (fun xs H Q => ∃ i j, xs = [.int i, .int j] ∧ Q (.int (g i j)) H) (gTwo g) := fun F P H σ sv vs ds Q R re rv k q => by
  obtain ⟨i, j, rfl, q⟩ := q
  obtain ⟨v, r, rfl, r1, v2, r2, rfl, r3, rfl⟩ := rv
  obtain rfl := r1
  obtain rfl := r3
  exact ⟨i, j, rfl, k _ H P (.int _) re (Sub.refl P) rfl q⟩
theorem boot_max' : bootBuiltins "max" = some (.builtin "max") := by decide +kernel
theorem boot_min' : bootBuiltins "min" = some (.builtin "min") := by decide +kernel
theorem pd_max2 {p : Pos} {e e2 : Expr} {fa : Da} (hc : X.calm = true) (hm : X.mg "max" = none) (ha : PDA X W [e, e2] fa) (hg : Gl X "max" := by rfl) (he : starEach [e, e2] X.env = (false, eval e X.env) :: starEach [e2] X.env := by rfl) (hpl : (backTo pos (starEach [e2] X.env)).any (·.1) = false := by rfl) :
    PD X W (.Call (.Name "max" p) [e, e2] [] pos) (dCB (gTwo fun i j => if j > i then j else i) fa) := pd_callB (call_max2 hc) snd_two boot_max' hg hm ha (by decide) (by decide) he hpl
theorem pd_min2 {p : Pos} {e e2 : Expr} {fa : Da} (hc : X.calm = true) (hm : X.mg "min" = none) (ha : PDA X W [e, e2] fa) (hg : Gl X "min" := by rfl) (he : starEach [e, e2] X.env = (false, eval e X.env) :: starEach [e2] X.env := by rfl) (hpl : (backTo pos (starEach [e2] X.env)).any (·.1) = false := by rfl) :
    PD X W (.Call (.Name "min" p) [e, e2] [] pos) (dCB (gTwo fun i j => if j < i then j else i) fa) := pd_callB (call_min2 hc) snd_two boot_min' hg hm ha (by decide) (by decide) he hpl

/-! ### name = [..] -/
theorem snd_setL {K : PySem.W.Frag} {t : TE} {g : Dl} {i : Nat} (s : SndL K W t g) : SndS K W (tAsg t (gName i)) (dSetL i g) := fun F P H σ sv D Dd r l q =>
  s F P H σ sv _ _ _ r (fun p' H1 P1 ds sv1 r1 s1 n q1 => l.nx _ H1 P1 _ (r1.setNew n) s1 q1) (fun cls dd H1 P1 x sv1 r1 rx q1 => l.ex cls dd σ H1 P1 x sv1 r1 rx q1) q
theorem pds_setLc {i : Nat} {y : Str} {py : Pos} {elt tg iter : Expr} {ifs : List Expr} {scope : Scope} {own : List (Str × Nat)} {spos : Pos} {f : Dl} {dg : Dg} {dt : Dt} {fe : De} (hc : X.calm = true) (hN : X.N.Nodup) (hy : X.N[i]? = some y) (hyl : X.env.scope.names.lookup y = some .local)
    (hsw : swapsWith (.ListComp elt [⟨tg, iter, ifs, 0⟩] scope pos) (some (.Name y py)) spos.line X.env = pure true) (ok : BlkOk X.N X.env.scope scope own) (hi : PDI X W tg iter f)
    (hg : ∀ i : BI, PDGw (Cx.b X scope i) (own.map (·.2)) tg dg) (ht : ∀ i : BI, PDTs (Cx.b X scope i) (wNo W.z) ifs dt) (he : ∀ i : BI, PD (Cx.b X scope i) (wNo W.z) elt fe) (hs : ∀ x, foldedSetIterable iter X.env x = pure x := by intro _; rfl) :
    PDS X W (.Assign [.Name y py] (.ListComp elt [⟨tg, iter, ifs, 0⟩] scope pos) spos) (dSetL i (dLc f dg dt fe (own.map (·.2)))) := by
  obtain ⟨wi, p1, s1⟩ := hi
  obtain ⟨g, p2, s2⟩ := fam_gw (X := fun i => Cx.b X scope i) (fun _ => rfl) hg
  obtain ⟨tt, p3, s3⟩ := fam_ts (X := fun i => Cx.b X scope i) (fun _ => rfl) ht
  obtain ⟨te, p4, s4⟩ := fam_e (X := fun i => Cx.b X scope i) (fun _ => rfl) he
  exact ⟨_, ps_setLc hc hN hy hyl hsw p1 ok (fun s H C cl fp => p2 (s, H, C, cl, fp)) (fun s H C cl fp => p3 (s, H, C, cl, fp)) (fun s H C cl fp => p4 (s, H, C, cl, fp)) hs, snd_setL (snd_lc s1 s2 s3 s4)⟩

/-! ### defs and classes, known once for all contexts -/
structure FnG (P : Program) (w : World) (K : PySem.W.Frag) (mg : Str → Option Value) (base : Heap) (k : Nat) (x : Str) (n : Nat) (ct : Ct) : Prop where
  mono : ∀ as Q Q' E E', (∀ d, Q d → Q' d) → (∀ x, E x → E' x) → ct.c as Q E → ct.c as Q' E'
  ex : ∃ (f : Addr) (fd : FuncData) (ps : List Str), ps.length = n ∧ Fd P w K mg base k f fd ps (spC K n ct) ∧ mg x = some (.ref f) ∧ PySem.W.keepIn K (.ref f) = true ∧ Binds K fd ps []
theorem dcall {P : Program} {w : World} {K : PySem.W.Frag} {mg : Str → Option Value} {base : Heap} {k k' n : Nat} {x : Str} {p : Pos} {e : Expr} {es : List Expr} {ct : Ct} {fa : Da} (F : FnG P w K mg base k x n ct) (hr : Room k' X.A) (hk : k ≤ k') (hG : X.A.guards = some []) (tk : Takes X W.w) (ha : PDA X W (e :: es) fa)
    (h1 : X.prog = P := by rfl) (h2 : X.w = w := by rfl) (h3 : X.K = K := by rfl) (h4 : X.mg = mg := by rfl) (h5 : X.base = base := by rfl) (hg : Gl X x := by rfl) (hdb : (x == ("__debug__" : Str)) = false := by decide)
    (he : starEach (e :: es) X.env = (false, eval e X.env) :: starEach es X.env := by rfl) (hpl : (backTo pos (starEach es X.env)).any (·.1) = false := by rfl) : PD X W (.Call (.Name x p) (e :: es) [] pos) (dCall ct n fa) := by
  subst h1 h2 h3 h4 h5
  exact pd_call ⟨F.mono, F.ex⟩ (hr.mono hk) hG tk hg ha hdb he hpl
structure CnG (P : Program) (w : World) (K : PySem.W.Frag) (mg : Str → Option Value) (base : Heap) (k : Nat) (x : Str) (C : Addr) (ks : List Str) (m n : Nat) (ns : List Str) (gV : List V → List V → List V) (gD : List D → List D → List D) (ci : Ci) : Prop where
  mono : ∀ ds Q Q' E E', (∀ d, Q d → Q' d) → (∀ x, E x → E' x) → ci ds Q E → ci ds Q' E'
  rel : ∀ (P : Hp) (ds es : List D) (vs zs : List V), ds.length = m → es.length = ks.length → RpL K P ds vs → RpL K P es zs → RpL K P (gD ds es) (gV vs zs) ∧ (gD ds es).length + 1 = n
  ex : ∃ f, Mk K C f ∧ FnI P w K mg base k f ks (fun vs zs H Q E => ∃ a ws rest, vs = (a :: ws) ++ rest ∧ ws.length = m ∧ rest.length ≤ sizeLine ∧ ∀ p, H p = none → spI K C n ns ci (a :: gV ws zs ++ [V.ref p]) (upd H p (.tup rest)) Q E)
  mg : mg x = some (.ref C)
section
variable {P : Program} {w : World} {K : PySem.W.Frag} {mg : Str → Option Value} {base : Heap} {k k' m n : Nat} {x : Str} {C : Addr} {ks ns : List Str} {gV : List V → List V → List V} {gD : List D → List D → List D} {ci : Ci} {e : Expr} {es : List Expr} {kws : List Keyword} {fa fk : Da} {p : Pos}
theorem dmake (T : CnG P w K mg base k x C ks m n ns gV gD ci) (hr : Room k' X.A) (hk : k + 1 ≤ k') (hG : X.A.guards = some []) (tk : Takes X W.w) (ha : PDA X W (e :: es) fa) (hkw : PDK X W kws fk)
    (h1 : X.prog = P := by rfl) (h2 : X.w = w := by rfl) (h3 : X.K = K := by rfl) (h4 : X.mg = mg := by rfl) (h5 : X.base = base := by rfl) (hg : Gl X x := by rfl)
    (hall : (backToKw pos (keywordEach kws X.env)).all (·.1.isSome) = true := by rfl) (hks : (backToKw pos (keywordEach kws X.env)).filterMap (·.1) = ks := by rfl) (hdb : (x == ("__debug__" : Str)) = false := by decide)
    (he : starEach (e :: es) X.env = (false, eval e X.env) :: starEach es X.env := by rfl) (hpl : ((backTo pos (starEach (e :: es) X.env)).any (·.1) || (backToKw pos (keywordEach kws X.env)).any (·.1.isNone)) = false := by rfl) :
    PD X W (.Call (.Name x p) (e :: es) kws pos) (dMake C ks.length m ns gD ci fa fk) := by
  subst h1 h2 h3 h4 h5
  exact pd_make ⟨T.mono, T.rel, T.ex, T.mg⟩ (hr.mono hk) hG tk hg ha hkw hall hks hdb he hpl
theorem dmakeS (T : CnG P w K mg base k x C ks m n ns gV gD ci) (hr : Room k' X.A) (hk : k + 1 ≤ k') (hG : X.A.guards = some []) (tk : Takes X W.w) (ha : PDA X W (e :: es) fa) (hkw : PDK X W kws fk)
    (h1 : X.prog = P := by rfl) (h2 : X.w = w := by rfl) (h3 : X.K = K := by rfl) (h4 : X.mg = mg := by rfl) (h5 : X.base = base := by rfl) (hg : Gl X x := by rfl)
    (hall : (backToKw pos (keywordEach kws X.env)).all (·.1.isSome) = true := by rfl) (hks : (backToKw pos (keywordEach kws X.env)).filterMap (·.1) = ks := by rfl) (hdb : (x == ("__debug__" : Str)) = false := by decide)
    (he : starEach (e :: es) X.env = (false, eval e X.env) :: starEach es X.env := by rfl) (hpl : ((backTo pos (starEach (e :: es) X.env)).any (·.1) || (backToKw pos (keywordEach kws X.env)).any (·.1.isNone)) = true := by rfl) :
    PD X W (.Call (.Name x p) (e :: es) kws pos) (dMake C ks.length m ns gD ci fa fk) := by
  subst h1 h2 h3 h4 h5
  exact pd_makeS ⟨T.mono, T.rel, T.ex, T.mg⟩ (hr.mono hk) hG tk hg ha hkw hall hks hdb he hpl
end
end
end Pd
end
section
set_option autoImplicit false
set_option Elab.async false
set_option linter.all false
set_option autoImplicit false
set_option maxRecDepth 100000
set_option maxHeartbeats 4000000
/-! Pd19: raises and clauses, told once for all contexts. -/
namespace Pd
open PySem PySem.Spec PyProof.Rows L2
structure ExG (P : Program) (w : World) (K : PySem.W.Frag) (mg : Str → Option Value) (base : Heap) (k : Nat) (x : Str) (C : Addr) (fs : List Str) : Prop where
  ex : ∃ (B newId initId : String) (bm : List Value) (fI : Addr) (fd : FuncData) (ps : List Str), OexG K C B newId initId bm ∧ PySem.W.findIn K (.ref C) "__init__" = some (some (.ref fI)) ∧ PySem.W.typeIn K (.ref fI) = some (.type "function") ∧
    FnOk P w K mg base CX0 k fI fd ps (spEx C fs) ∧ Binds K fd ps []
  mg : mg x = some (.ref C)
  nd : fs.Nodup
  len : fs.length ≤ 900
  ne : fs ≠ []
section
variable {X : Cx} {W : Wz} {pos p p2 : Pos}
theorem draise {P : Program} {w : World} {K : PySem.W.Frag} {mg : Str → Option Value} {base : Heap} {k k' : Nat} {x : Str} {C : Addr} {fs : List Str} {e : Expr} {es : List Expr} {fa : Da} (T : ExG P w K mg base k x C fs) (hr : Room k' X.A) (hk : k + 1 ≤ k') (tk : Takes X W.w) (ha : PDA X W (e :: es) fa)
    (h1 : X.prog = P := by rfl) (h2 : X.w = w := by rfl) (h3 : X.K = K := by rfl) (h4 : X.mg = mg := by rfl) (h5 : X.base = base := by rfl) (hc : X.calm = true := by rfl) (hg : Gl X x := by rfl) (hdb : (x == ("__debug__" : Str)) = false := by decide)
    (he : starEach (e :: es) X.env = (false, eval e X.env) :: starEach es X.env := by rfl) (hpl : (backTo p2 (starEach es X.env)).any (·.1) = false := by rfl) : PDS X W (.Raise (some (.Call (.Name x p) (e :: es) [] p2)) none pos) (dRaise C fs fa) := by
  subst h1 h2 h3 h4 h5
  exact pds_raise ⟨T.ex, T.mg⟩ T.nd T.len T.ne (hr.mono hk) hc tk hg ha hdb he hpl
theorem nmO {x : Str} {C : Addr} (hm : X.mg x = some (.ref C)) (hg : Gl X x := by rfl) (hdb : (x == ("__debug__" : Str)) = false := by decide) : Names X x (.ref C) := ⟨hg, hdb, .inl hm⟩
theorem nmB {x : Str} {T : String} (hm : X.mg x = none) (hv : bootBuiltins x = some (.type T)) (hg : Gl X x := by rfl) (hdb : (x == ("__debug__" : Str)) = false := by decide) (hn : x ≠ "__name__" := by decide) : Names X x (.type T) := ⟨hg, hdb, .inr ⟨hm, hv, hn⟩⟩
theorem boot_ValueError : bootBuiltins "ValueError" = some (.type "ValueError") := by decide +kernel
theorem boot_KeyError : bootBuiltins "KeyError" = some (.type "KeyError") := by decide +kernel
theorem boot_LookupError : bootBuiltins "LookupError" = some (.type "LookupError") := by decide +kernel
theorem boot_RuntimeError : bootBuiltins "RuntimeError" = some (.type "RuntimeError") := by decide +kernel
theorem boot_IndexError : bootBuiltins "IndexError" = some (.type "IndexError") := by decide +kernel
theorem boot_OverflowError : bootBuiltins "OverflowError" = some (.type "OverflowError") := by decide +kernel
end
end Pd
end
section
set_option autoImplicit false
set_option Elab.async false
set_option linter.all false
set_option autoImplicit false
set_option maxRecDepth 100000
set_option maxHeartbeats 4000000
/-! Pd20: the draws are laid. -/
namespace Pd
open PySem PySem.Spec PyProof.Rows L2
/-- a list of three numbers of the frame's own is the draws from then on -/
theorem Rel.bagged {K : PySem.W.Frag} {F : Fr} {P H : Hp} {σ : L2.St} {sv : Sv} {i n : Nat} {x y : Int} (r : Rel K F P H σ sv) (h : sv[i]? = some (.own [.int x, .int y, .int 0])) (hx : 0 ≤ x) (hy : 0 ≤ y) (hy2 : y < 2 ^ 61) (hn : (n : Int) ≤ 2 ^ 39) : Rel K F P H σ (sv.set i (.bag n)) := by
  have hi : i < sv.length := (List.getElem?_eq_some_iff.mp h).1
  have back : ∀ {m : Nat} {z : Sl}, (sv.set i (.bag n))[m]? = some z → z.addr = true → ∃ z', sv[m]? = some z' ∧ z'.addr = true := fun {m z} em az => by
    by_cases hm : m = i
    · subst hm
      exact ⟨_, h, rfl⟩
    · rw [List.getElem?_set_ne (Ne.symm hm)] at em
      exact ⟨z, em, az⟩
  refine ⟨by rw [List.length_set]; exact r.len, r.lim, r.sub, r.p0, r.new, r.ext, r.selfs, r.bags, fun j s o e1 e2 => ?_, fun j k s t o u p ne e1 e2 a1 a2 s1 s2 eo eu => ?_, fun p vs hp => ?_⟩
  · by_cases hj : j = i
    · subst hj
      rw [List.getElem?_set_self hi] at e1
      cases e1
      obtain ⟨p, vs, e, h1, h2, h3, v1, r1, rfl, q1, v2, r2, rfl, q2, v3, r3, rfl, q3, rfl⟩ := r.sl j _ o h e2
      obtain rfl : v1 = .int x := q1
      obtain rfl : v2 = .int y := q2
      obtain rfl : v3 = .int 0 := q3
      exact ⟨p, e, h2, .inr h3, x, y, 0, h1, hx, hy, hy2, Int.le_refl _, by rw [Fr.lim_none h3]; simpa using hn⟩
    · rw [List.getElem?_set_ne (Ne.symm hj)] at e1
      exact r.sl j s o e1 e2
  · obtain ⟨s', b1, c1⟩ := back e1 a1
    obtain ⟨t', b2, c2⟩ := back e2 a2
    exact r.apart j k s' t' o u p ne b1 b2 c1 c2 s1 s2 eo eu
  · obtain ⟨z1, z2, z3, z4⟩ := r.kept p vs hp
    refine ⟨z1, z2, z3, fun m s e1 a1 => ?_⟩
    obtain ⟨s', b1, c1⟩ := back e1 a1
    exact z4 m s' b1 c1
/-- what the def that lays the draws promises: of a list of numbers and a place -/
def spBag (K : PySem.W.Frag) : Sp := fun vs H Q _ => ∃ (a : Addr) (ns : List Int) (i : Nat), vs = [.ref a, .int (i : Int)] ∧ SqL K H a (ns.map V.int) ∧ ns.length ≤ 100000 ∧ (i : Int) < 2 ^ 40 ∧ ∀ (p : Addr) (x y : Int), H p = none → 0 ≤ x → 0 ≤ y → y < 2 ^ 61 → Q (.ref p) (upd H p (.lst [.int x, .int y, .int 0]))
structure BagG (P : Program) (w : World) (K : PySem.W.Frag) (mg : Str → Option Value) (base : Heap) (k : Nat) (x : Str) : Prop where
  ex : ∃ (f : Addr) (fd : FuncData) (ps : List Str), ps.length = 2 ∧ Fd P w K mg base k f fd ps (spBag K) ∧ mg x = some (.ref f) ∧ PySem.W.keepIn K (.ref f) = true ∧ Binds K fd ps []
section
variable {X : Cx} {W : Wz} {pos p p2 : Pos}
/-- b = bag(xs, i): n draws may be made of it -/
@[simp] def dBag (n i : Nat) (fa : Da) : Ds := fun sv D => (n : Int) ≤ 2 ^ 39 ∧ fa sv (fun as sv1 => ∃ (ns : List Int) (j : Nat), as = [.dat (.scr ns), .dat (.int (j : Int))] ∧ ns.length ≤ 100000 ∧ (j : Int) < 2 ^ 40 ∧ i < sv1.length ∧ D.nx (sv1.set i (.bag n))) D.ex
theorem rpl_ints {K : PySem.W.Frag} {P : Hp} : ∀ {ns : List Int} {vs : List V}, RpL K P (ns.map D.int) vs → vs = ns.map V.int
  | [], _, h => h
  | n :: ns, _, h => by
    obtain ⟨v, r, rfl, h1, h2⟩ := h
    obtain rfl : v = .int n := h1
    rw [rpl_ints h2]
    rfl
theorem pds_bag {P : Program} {w : World} {K : PySem.W.Frag} {mg : Str → Option Value} {base : Heap} {k k' i : Nat} (n : Nat) {x y : Str} {pn : Pos} {e : Expr} {es : List Expr} {fa : Da} (G : BagG P w K mg base k x) (hr : Room k' X.A) (hk : k ≤ k') (hG : X.A.guards = some []) (tk : Takes X W.w) (hN : X.N.Nodup) (hi : X.N[i]? = some y) (hx : Loc X.env.scope y) (ha : PDA X W (e :: es) fa)
    (h1 : X.prog = P := by rfl) (h2 : X.w = w := by rfl) (h3 : X.K = K := by rfl) (h4 : X.mg = mg := by rfl) (h5 : X.base = base := by rfl) (hg : Gl X x := by rfl) (hdb : (x == ("__debug__" : Str)) = false := by decide)
    (he : starEach (e :: es) X.env = (false, eval e X.env) :: starEach es X.env := by rfl) (hpl : (backTo p2 (starEach es X.env)).any (·.1) = false := by rfl) (hs : swapsWith (.Call (.Name x p) (e :: es) [] p2) (some (.Name y pn)) pos.line X.env = pure false := by rfl)
    (hf : X.fn y = true ∨ X.env.scope.names.lookup y = some .local := by first | exact .inl rfl | exact .inr rfl | assumption) :
    PDS X W (.Assign [.Name y pn] (.Call (.Name x p) (e :: es) [] p2) pos) (dBag n i fa) := by
  subst h1 h2 h3 h4 h5
  obtain ⟨f, fd, ps, hps, F1, hm, hkp, hb⟩ := G.ex
  obtain ⟨ta, p1, s1⟩ := ha
  refine ⟨_, ps_set hN hi hx (pe_callF (W := W) F1 (hr.mono hk) hG hg hm hkp hb .nil tk p1 hdb he hpl) hs hf, fun Fr P H σ sv D Dd r l q => ?_⟩
  obtain ⟨hn, q⟩ := q
  refine s1 Fr P H σ sv _ _ _ r (fun vs H1 P1 as sv1 r1 t1 ra q1 => ?_) (fun cls dd H1 P1 x sv1 r1 rx q1 => l.ex cls dd σ H1 P1 x sv1 r1 rx q1) q
  obtain ⟨ns, j, rfl, hl, hj, hi2, q1⟩ := q1
  obtain ⟨v1, r', rfl, q2, v2, r'', rfl, q3, rfl⟩ := ra
  obtain ⟨a, rfl, e1⟩ := q2
  obtain rfl : v2 = .int (j : Int) := q3
  refine ⟨a, ns, j, by rfl, sub_l r1.sub e1, hl, hj, fun p x y hp hx hy hy2 => ?_⟩
  have rn := r1.layH (o := .lst [.int x, .int y, .int 0]) hp
  have nw : NewL X.K (Fr.at W.z) P1 (upd H1 p (.lst [.int x, .int y, .int 0])) σ sv1 p [.int x, .int y, .int 0] := r1.newL hp ⟨_, _, rfl, rfl, _, _, rfl, rfl, _, _, rfl, rfl, rfl⟩
  have r2 := rn.setNew (i := i) nw
  have r3 := r2.bagged (n := n) (List.getElem?_set_self hi2) hx hy hy2 hn
  rw [List.set_set] at r3
  exact l.nx _ _ P1 _ r3 t1 q1
end
end Pd
end
section
set_option autoImplicit false
set_option Elab.async false
set_option linter.all false
set_option autoImplicit false
set_option maxRecDepth 100000
set_option maxHeartbeats 4000000
/-! Pd21: a constant of a class; the own __init__ of an error class, one field or two. -/
namespace Pd
open PySem PySem.Spec PyProof.Rows L2
/-- C.f is the tuple of these texts -/
structure ClsT (K : PySem.W.Frag) (C : Addr) (f : Str) (ss : List Str) : Prop where
  ex : ∃ (mc : Value) (a : Addr), ClX.CRead K C mc ∧ ClX.CVal K C mc f (.ref a) (.ref a) ∧ ∀ P, SqT K P a (ss.map V.str)
theorem rpl_strs {K : PySem.W.Frag} {P : Hp} : ∀ ss : List Str, RpL K P (ss.map D.str) (ss.map V.str)
  | [] => rfl
  | s :: ss => ⟨_, _, rfl, rfl, rpl_strs ss⟩
theorem dclsT {X : Cx} {W : Wz} {K : PySem.W.Frag} {pos p : Pos} {C : Addr} {x f : Str} {ss : List Str} (T : ClsT K C f ss) (hm : X.mg x = some (.ref C)) (hK : X.K = K := by rfl) (hg : Gl X x := by rfl) (hdb : (x == ("__debug__" : Str)) = false := by decide)
    (hb : attributeBase (.Name x p) f X.env (eval (.Name x p) X.env) = eval (.Name x p) X.env := by rfl) : PD X W (.Attribute (.Name x p) f pos) (dC (.tup (ss.map D.str))) := by
  subst hK
  obtain ⟨mc, a, r, c, sq⟩ := T.ex
  exact ⟨_, ClX.pe_cval (pe_glob (v := .ref C) hg hm rfl hdb) hb, fun F P H σ sv Q E R re k _ q => ⟨C, mc, .ref a, _, rfl, r, c, k (.ref a) H P (.tup (ss.map D.str)) sv re (Sub.refl P) ⟨a, _, rfl, sq P, rpl_strs ss⟩ q⟩⟩
end Pd
end
section
set_option autoImplicit false
set_option Elab.async false
set_option linter.all false
set_option autoImplicit false
set_option maxRecDepth 100000
set_option maxHeartbeats 4000000
/-! Pd22: list comprehensions of two clauses. -/
namespace Pd
open PySem PySem.Spec PyProof.Rows L2
theorem wipe_sub {σ : L2.St} {vs vs1 : List Nat} (h : ∀ i ∈ vs1, i ∈ vs) : wipe (wipe σ vs1) vs = wipe σ vs := by
  refine List.ext_getElem? fun i => ?_
  rw [wipe_get, wipe_get]
  by_cases hi : i ∈ vs
  · simp only [hi, if_true]
    rw [wipe_get]
    split
    · cases σ[i]? <;> rfl
    · rfl
  · simp only [hi, if_false]
    rw [wipe_get, if_neg fun z => hi (h i z)]
    simp only [hi, if_false]
def goLc2 (dg : Dg) (dt : Dt) (f1 : Dl) (dg1 : Dg) (dt1 : Dt) (fe : De) (vs vs1 : List Nat) (Q : List D → Sv → Prop) : List D → Sv → List D → Prop
  | [], sv, acc => Q acc sv
  | d :: ds, sv, acc => dg d sv fun sv1 => dt sv1 (fun b sv2 => if b = true then f1 sv2 (fun es sv3 => goLc dg1 dt1 fe vs1 (fun acc' sv4 => goLc2 dg dt f1 dg1 dt1 fe vs vs1 Q ds (unAt sv4 vs) acc') es (unAt sv3 vs1) acc) (fun _ _ => False)
    else goLc2 dg dt f1 dg1 dt1 fe vs vs1 Q ds (unAt sv2 vs) acc) fun _ _ => False
def dLc2 (f : Dl) (dg : Dg) (dt : Dt) (f1 : Dl) (dg1 : Dg) (dt1 : Dt) (fe : De) (vs vs1 : List Nat) : Dl := fun sv Q E => f sv (fun ds sv1 => goLc2 dg dt f1 dg1 dt1 fe vs vs1 Q ds (unAt sv1 vs) []) E
theorem drop_cons {ds : List D} {i : Nat} {d : D} (hlt : i < ds.length) (ed : ds[i]? = some d) : ds.drop i = d :: ds.drop (i + 1) := by
  rw [List.drop_eq_getElem_cons hlt]
  rw [List.getElem?_eq_getElem hlt] at ed
  rw [Option.some.inj ed]
theorem snd_lc2 {K : PySem.W.Frag} {W : Wz} {wi wi1 : TI} {g g1 : TG} {tt tt1 : TT} {te : TE} {vs vs1 : List Nat} {f f1 : Dl} {dg dg1 : Dg} {dt dt1 : Dt} {fe : De} (hv : ∀ i ∈ vs1, i ∈ vs) (h1 : SndI K W wi f) (h2 : SndGw vs K g dg) (h3 : SndT K (wNo W.z) tt dt) (h5 : SndI K (wNo W.z) wi1 f1) (h6 : SndGw vs1 K g1 dg1) (h7 : SndT K (wNo W.z) tt1 dt1)
    (h4 : SndE K (wNo W.z) te fe) : SndL K W (tLc2 wi g tt wi1 g1 tt1 te vs vs1) (dLc2 f dg dt f1 dg1 dt1 fe vs vs1) := fun F P H σ sv Q E R r k kx q =>
  h1 F P H σ sv _ E _ r (fun J H1 P1 ds sv1 r1 t1 w q1 D hD => by
    have n0 := r1.newL hD (ds := []) (vs := []) rfl
    have hk : ∀ q us, (q, us) ∈ F.Kp → q ≠ D := n0.choose_spec.2.2.2.2.2
    have rl := r1.layH (o := .lst []) hD
    obtain ⟨ws, rw0, ra⟩ := rl.aside n0
    have ew : ws = [] := rw0
    subst ew
    have rw1 := ra.wipe vs
    let Out : Nat → Hp → Prop := fun i H2 => ∃ P2 sv2 acc us, Rel K ((F.at W.z).keep D us) P2 H2 (L2.wipe σ vs) sv2 ∧ Sub P1 P2 ∧ (∀ (i : Nat) (s : Sl), i ∈ vs → sv2[i]? = some s → s = .un) ∧ RpL K P2 acc us ∧ goLc2 dg dt f1 dg1 dt1 fe vs vs1 Q (ds.drop i) sv2 acc
    refine ⟨fun i m H2 => m = ds.length - i ∧ i ≤ ds.length ∧ Out i H2, ⟨_, rfl, Nat.zero_le _, P1, _, [], [], rw1, Sub.refl P1, fun i s hi e => unAt_un hi e, rfl, q1⟩, ?_⟩
    rintro i m H2 ⟨rfl, hi, P2, sv2, acc, us, r2, s2, hu, ru, q2⟩
    by_cases hlt : i < ds.length
    · obtain ⟨g1', g2'⟩ := w.go i H2 P2 s2 r2.sub hlt
      refine .inr ⟨g1', Out (i + 1), fun H' z => ⟨ds.length - (i + 1), by omega, rfl, hlt, z⟩, fun x H' y => ?_⟩
      obtain ⟨rfl, d, ed, rx⟩ := g2' x H' y
      rw [drop_cons hlt ed] at q2
      refine h2 _ P2 _ _ sv2 d x _ _ r2 rx (fun σ3 sv3 e3 r3 q3 => ⟨e3.trans wipe_wipe, ?_⟩) q2
      have e3' : L2.wipe σ3 vs = L2.wipe σ vs := e3.trans wipe_wipe
      refine h3 (F.keep D us) P2 _ σ3 sv3 _ _ _ r3 (fun b H4 P4 sv4 r4 t4 q4 => ?_) (fun _ _ _ _ _ _ _ _ z => z) q3
      cases b with
      | false =>
        have q4 : goLc2 dg dt f1 dg1 dt1 fe vs vs1 Q (ds.drop (i + 1)) (unAt sv4 vs) acc := q4
        have := (show Rel K ((F.at W.z).keep D us) P4 H4 σ3 sv4 from r4).wipe vs
        rw [e3'] at this
        exact ⟨P4, unAt sv4 vs, acc, us, this, s2.trans t4, fun i s hi e => unAt_un hi e, RpL.mono t4 _ _ ru, q4⟩
      | true =>
        rw [if_pos rfl] at q4
        refine h5 (F.keep D us) P4 H4 σ3 sv4 _ _ _ r4 (fun J1 H5 P5 es sv5 r5 t5 w1 q5 => ?_) (fun _ _ _ _ _ _ _ _ z => z) q4
        have r5' := (show Rel K ((F.at W.z).keep D us) P5 H5 σ3 sv5 from r5).wipe vs1
        let In : Nat → Hp → Prop := fun j H6 => ∃ P6 sv6 acc6 us6, Rel K ((F.at W.z).keep D us6) P6 H6 (L2.wipe σ3 vs1) sv6 ∧ Sub P5 P6 ∧ (∀ (i : Nat) (s : Sl), i ∈ vs1 → sv6[i]? = some s → s = .un) ∧ RpL K P6 acc6 us6 ∧
          goLc dg1 dt1 fe vs1 (fun acc' sv4 => goLc2 dg dt f1 dg1 dt1 fe vs vs1 Q (ds.drop (i + 1)) (unAt sv4 vs) acc') (es.drop j) sv6 acc6
        refine ⟨fun j k' H6 => k' = es.length - j ∧ j ≤ es.length ∧ In j H6, ⟨_, rfl, Nat.zero_le _, P5, _, acc, us, r5', Sub.refl P5, fun i s hi e => unAt_un hi e, RpL.mono (t4.trans t5) _ _ ru, q5⟩, ?_⟩
        rintro j k' H6 ⟨rfl, hj, P6, sv6, acc6, us6, r6, s6, hu6, ru6, q6⟩
        by_cases hlt2 : j < es.length
        · obtain ⟨g3', g4'⟩ := w1.go j H6 P6 s6 r6.sub hlt2
          refine .inr ⟨g3', In (j + 1), fun H' z => ⟨es.length - (j + 1), by omega, rfl, hlt2, z⟩, fun x2 H' y2 => ?_⟩
          obtain ⟨rfl, d2, ed2, rx2⟩ := g4' x2 H' y2
          rw [drop_cons hlt2 ed2] at q6
          refine h6 _ P6 _ _ sv6 d2 x2 _ _ r6 rx2 (fun σ7 sv7 e7 r7 q7 => ⟨e7.trans wipe_wipe, ?_⟩) q6
          have e7' : L2.wipe σ7 vs1 = L2.wipe σ3 vs1 := e7.trans wipe_wipe
          refine h7 (F.keep D us6) P6 _ σ7 sv7 _ _ _ r7 (fun b H8 P8 sv8 r8 t8 q8 => ?_) (fun _ _ _ _ _ _ _ _ z => z) q7
          cases b with
          | true =>
            rw [if_pos rfl] at q8
            refine h4 (F.keep D us6) P8 H8 σ7 sv8 _ _ _ r8 (fun y9 H9 P9 z9 sv9 r9 t9 rz9 q9 => ?_) (fun _ _ _ _ _ _ _ _ z => z) q8
            obtain ⟨hl, q9⟩ := q9
            obtain ⟨k1, k2, k3, k4⟩ := r9.kept D us6 List.mem_cons_self
            refine ⟨us6, k1, Nat.lt_of_lt_of_le (by rw [ru6.length]; exact hl) (by decide), P9, unAt sv9 vs1, acc6 ++ [z9], us6 ++ [y9], ?_, s6.trans (t8.trans t9), fun i s hi e => unAt_un hi e, (RpL.mono (t8.trans t9) _ _ ru6).append ⟨y9, [], rfl, rz9, rfl⟩, q9⟩
            have := (Rel.keepTo (F := F.at W.z) (ws := us6 ++ [y9]) r9 hk).wipe vs1
            rw [e7'] at this
            exact this
          | false =>
            have q8 : goLc dg1 dt1 fe vs1 (fun acc' sv4 => goLc2 dg dt f1 dg1 dt1 fe vs vs1 Q (ds.drop (i + 1)) (unAt sv4 vs) acc') (es.drop (j + 1)) (unAt sv8 vs1) acc6 := q8
            have := (show Rel K ((F.at W.z).keep D us6) P8 H8 σ7 sv8 from r8).wipe vs1
            rw [e7'] at this
            exact ⟨P8, unAt sv8 vs1, acc6, us6, this, s6.trans t8, fun i s hi e => unAt_un hi e, RpL.mono t8 _ _ ru6, q8⟩
        · have e : j = es.length := by omega
          subst e
          rw [List.drop_length] at q6
          refine .inl ⟨w1.stop _ H6 P6 s6 r6.sub (Nat.le_refl _), ?_⟩
          have := r6.wipe vs
          rw [wipe_sub hv, e3'] at this
          exact ⟨P6, unAt sv6 vs, acc6, us6, this, s2.trans (t4.trans (t5.trans s6)), fun i s hi e => unAt_un hi e, ru6, q6⟩
    · have e : i = ds.length := by omega
      subst e
      rw [List.drop_length] at q2
      refine .inl ⟨w.stop _ H2 P2 s2 r2.sub (Nat.le_refl _), ?_⟩
      have n2 := r2.taken (Sub.refl P2) ru hk
      exact k D H2 P2 acc sv2 ((Rel.back (F := F.at W.z) r2).unwipe hu) (t1.trans s2) (n2.congr fun i s e ne => by rw [wipe_get, if_neg fun hi => ne (hu i s hi e)]) q2) kx q
section
variable {X : Cx} {W : Wz} {pos : Pos}
theorem pdl_lc2 {elt tg iter tg1 iter1 : Expr} {ifs ifs1 : List Expr} {scope : Scope} {own : List (Str × Nat)} {vs1 : List Nat} {f f1 : Dl} {dg dg1 : Dg} {dt dt1 : Dt} {fe : De} (hc : X.calm = true) (hN : X.N.Nodup) (ok : BlkOk X.N X.env.scope scope own) (hv : ∀ i ∈ vs1, i ∈ own.map (·.2)) (hi : PDI X W tg iter f)
    (hg : ∀ i : BI, PDGw (Cx.b X scope i) (own.map (·.2)) tg dg) (ht : ∀ i : BI, PDTs (Cx.b X scope i) (wNo W.z) ifs dt) (hi1 : ∀ i : BI, PDI (Cx.b X scope i) (wNo W.z) tg1 iter1 f1) (hg1 : ∀ i : BI, PDGw (Cx.b X scope i) vs1 tg1 dg1) (ht1 : ∀ i : BI, PDTs (Cx.b X scope i) (wNo W.z) ifs1 dt1)
    (he : ∀ i : BI, PD (Cx.b X scope i) (wNo W.z) elt fe) (hs : ∀ x, foldedSetIterable iter X.env x = pure x := by intro _; rfl) (hs1 : ∀ env x, foldedSetIterable iter1 env x = pure x := by intro _ _; rfl) :
    PDL X W (.ListComp elt [⟨tg, iter, ifs, 0⟩, ⟨tg1, iter1, ifs1, 0⟩] scope pos) (dLc2 f dg dt f1 dg1 dt1 fe (own.map (·.2)) vs1) := by
  obtain ⟨wi, p1, s1⟩ := hi
  obtain ⟨g, p2, s2⟩ := fam_gw (X := fun i => Cx.b X scope i) (fun _ => rfl) hg
  obtain ⟨tt, p3, s3⟩ := fam_ts (X := fun i => Cx.b X scope i) (fun _ => rfl) ht
  obtain ⟨wi1, p5, s5⟩ := fam_i (X := fun i => Cx.b X scope i) (fun _ => rfl) hi1
  obtain ⟨g1, p6, s6⟩ := fam_gw (X := fun i => Cx.b X scope i) (fun _ => rfl) hg1
  obtain ⟨tt1, p7, s7⟩ := fam_ts (X := fun i => Cx.b X scope i) (fun _ => rfl) ht1
  obtain ⟨te, p4, s4⟩ := fam_e (X := fun i => Cx.b X scope i) (fun _ => rfl) he
  exact ⟨_, pe_lc2 hc hN p1 ok hv (fun s H C cl fp => p2 (s, H, C, cl, fp)) (fun s H C cl fp => p3 (s, H, C, cl, fp)) (fun s H C cl fp => p5 (s, H, C, cl, fp)) (fun s H C cl fp => p6 (s, H, C, cl, fp)) (fun s H C cl fp => p7 (s, H, C, cl, fp)) (fun s H C cl fp => p4 (s, H, C, cl, fp)) hs hs1, snd_lc2 hv s1 s2 s3 s5 s6 s7 s4⟩
end
end Pd
end
section
set_option autoImplicit false
set_option Elab.async false
set_option linter.all false
set_option autoImplicit false
set_option maxRecDepth 100000
set_option maxHeartbeats 4000000
/-! Pd23: len(set(xs)) of a list of texts. -/
namespace Pd.Sx
open PySem PySem.Spec PyProof.Rows L2
/-- how many different ones stand among the first i -/
def many (xs : List Str) : Nat → Nat
  | 0 => 0
  | i + 1 => if (xs.take i).any (· == xs.getD i Str.empty) = true then many xs i else many xs i + 1
theorem many_le (xs : List Str) : ∀ i, many xs i ≤ i
  | 0 => Nat.le_refl _
  | i + 1 => by
    have := many_le xs i
    unfold many
    split <;> omega
theorem take_more {xs : List Str} {i : Nat} (h : i < xs.length) : xs.take (i + 1) = xs.take i ++ [xs.getD i Str.empty] := by
  rw [List.take_succ, List.getD_eq_getElem?_getD, List.getElem?_eq_getElem h]
  rfl
theorem many_all (xs : List Str) : ∀ i, i ≤ xs.length → (many xs i = i ↔ (xs.take i).Nodup)
  | 0, _ => by simp [many]
  | i + 1, h => by
    have ih := many_all xs i (by omega)
    have le := many_le xs i
    rw [take_more (by omega)]
    unfold many
    by_cases c : (xs.take i).any (· == xs.getD i Str.empty) = true
    · rw [if_pos c]
      refine ⟨fun e => by omega, fun nd => ?_⟩
      exfalso
      obtain ⟨y, hy, e⟩ := List.any_eq_true.mp c
      have ey : y = xs.getD i Str.empty := by simpa using e
      rw [List.nodup_append] at nd
      exact nd.2.2 y hy _ (List.mem_singleton.mpr rfl) ey
    · rw [if_neg c]
      have c2 : ∀ y ∈ xs.take i, y ≠ xs.getD i Str.empty := fun y hy e => c (List.any_eq_true.mpr ⟨y, hy, by simp [e]⟩)
      constructor
      · intro e
        rw [List.nodup_append]
        refine ⟨ih.mp (by omega), by simp, fun a ha b hb => ?_⟩
        rw [List.mem_singleton.mp hb]
        exact c2 a ha
      · intro nd
        rw [List.nodup_append] at nd
        have := ih.mpr nd.1
        omega
theorem many_lt (xs : List Str) : many xs xs.length < xs.length ↔ ¬ xs.Nodup := by
  have a := many_all xs xs.length (Nat.le_refl _)
  have b := many_le xs xs.length
  rw [List.take_length] at a
  constructor
  · intro h nd
    have := a.mpr nd
    omega
  · intro h
    rcases Nat.lt_or_ge (many xs xs.length) xs.length with c | c
    · exact c
    · exact absurd (a.mp (Nat.le_antisymm b c)) h
section
variable {prog : Program} {w : World} {A : Around} {R : Result → Shared → Prop} {I : Addr} {fp wr : List Addr} {G : Array GenState → Array GenState → Prop} {n : Nat} {P : Nat → Value → Prop} {St : Nat → Shared → Prop}
/-- one item more, of whatever kind: J i holds of the heap where i items are in -/
def Adds (prog : Program) (w : World) (A : Around) (S : Addr) (n : Nat) (P : Nat → Value → Prop) (J : Nat → Heap → Prop) : Prop :=
  ∀ (i : Nat) (v : Value) (s : Shared) (Q : Bool → Shared → Prop) (E : Value → Shared → Prop), i < n → P i v → J i s.heap →
    (∀ (b : Bool) (h' : Heap) (tk : Nat), Heap.SameBut S s.heap h' → J (i + 1) h' → s.toks ≤ tk → Q b { s with heap := h', toks := tk }) → wpAny (model prog w) A (setAdd S v) Q E s
/-- what is said of the set at S depends on it alone -/
def Own (S : Addr) (J : Nat → Heap → Prop) : Prop := ∀ (i : Nat) (h h' : Heap), (∀ o, h.get? S = some o → h'.get? S = some o) → J i h → J i h'
theorem loopJ (W : WalksS prog w A.in1 I fp wr G n P St) (S : Addr) (out : S ∉ fp) (J : Nat → Heap → Prop) (own : Own S J) (add : Adds prog w A.in1 S n P J) :
    ∀ (k i : Nat) (s : Shared), i + k = n → St i s → J i s.heap → (∀ s', Moved (S :: wr) G s s' → J n s'.heap → R (.ok (.ret .none)) s') →
      codeAny (model prog w) A (.builtin "set.update.loop" ⟨[.ref S, .ref I], []⟩) R s
  | 0, i, s, e, st, j, q => by
    obtain rfl : i = n := e
    have nw : S ∉ wr := fun z => out (W.sub _ z)
    refine codeAny_builtin PyProof.Rows.F.entry_set_update_loop ?_; rw [Around.under_plainId PyProof.Rows.F.plain_set_update_loop _]
    refine wpAny_bind (m := pyNext (.ref I)) (W.done s _ _ st fun s1 mv => ?_)
    exact wpAny_pure (q s1 (mv.mono fun b hb => List.mem_cons_of_mem _ hb) (own _ _ _ (fun o z => mv.heap S o nw z) j))
  | k + 1, i, s, e, st, j, q => by
    have nw : S ∉ wr := fun z => out (W.sub _ z)
    have lt : i < n := by omega
    refine codeAny_builtin PyProof.Rows.F.entry_set_update_loop ?_; rw [Around.under_plainId PyProof.Rows.F.plain_set_update_loop _]
    refine wpAny_bind (m := pyNext (.ref I)) (W.item i s _ _ lt st fun v s1 hv st1 mv => ?_)
    refine wpAny_bind (m := holding [v] (setAdd S v)) (wpAny_holding ?_)
    refine add i v s1 _ _ lt hv (own _ _ _ (fun o z => mv.heap S o nw z) j) fun b h1 tk sb j1 le => ?_
    have same : ∀ b o, b ≠ S → s1.heap.get? b = some o → h1.get? b = some o := fun b o ne z => by rw [sb.2 b ne]; exact z
    refine wpAny_pure ⟨plainId_quiet PyProof.Rows.F.plain_set_update_loop _, loopJ W S out J own add k (i + 1) _ (by omega) (W.frame _ s1 _ _ st1 le fun b hb o z => same b o (fun c => out (c ▸ hb)) z) j1 fun s2 mv2 j2 => q s2 ?_ j2⟩
    refine Moved.trans W.gtrans ((mv.mono fun b hb => List.mem_cons_of_mem _ hb).then_heap le fun b o hb z => same b o (fun c => hb (c ▸ List.mem_cons_self)) z) mv2
end
section
variable {prog : Program} {w : World} {A : Around} {E : Value → Shared → Prop} {s : Shared}
/-- a set that has just been made, empty -/
abbrev bare (led : Bool) : Obj := { cls := .type "set", dict := none, data := .set #[] 0 (.fresh 0 0 led) }
/-- set(xs) of a list, of items of whatever kind -/
theorem set_list {l : Addr} {items : Array Value} {Q : Value → Shared → Prop} (J : Nat → Heap → Prop) (hh : A.handled = none) (hl : s.heap.IsList l items) (own : Own s.heap.objs.size J)
    (j0 : ∀ (h : Heap) (led : Bool), h.get? s.heap.objs.size = some (bare led) → J 0 h) (add : ∀ A', A'.handled = none → Adds prog w A' s.heap.objs.size items.size (fun i v => items[i]? = some v) J)
    (q : ∀ (h' : Heap) (tk : Nat), J items.size h' → (∀ b o, s.heap.get? b = some o → h'.get? b = some o) → Q (.ref s.heap.objs.size) { s with heap := h', toks := tk }) :
    wpAny (model prog w) A (call (.type "set") [.ref l]) Q E s := by
  obtain ⟨_, _, m1⟩ := PySem.F.called_set.mro
  have m2 := PySem.F.called_set.made; have m3 := PySem.F.called_set.sub; have m4 := PySem.F.called_set.notType; have m5 := PySem.F.called_set.canCreate; have m6 := PySem.F.typeCall_set_1 (.ref l)
  refine wpAny_call (codeAny_of_tree ?_); show wpAny _ _ (callAny (.type "set") _) _ _ _
  refine wpAny_pure ⟨Code.quiet_builtin _ (by decide +kernel), codeAny_builtin PySem.F.entry_type_call ?_⟩; rw [Around.under_plain (weight_type_call_type "set" [.ref l] []) rfl]
  repeat (any_goals (first | assumption | wp_step))
  refine codeAny_mono (code_set_new_1 (.ref l) (E := E) (Q₁ := fun x s1 => ∃ led : Bool, x = .ref s.heap.objs.size ∧ s1 = { s with heap := s.heap.push (bare led) }) fun led => ⟨led, rfl, rfl⟩) fun r s1 hr => ?_
  match r, hr with
  | .error e, hr => exact hr
  | .ok .next, hr => exact hr.elim
  | .ok .brk, hr => exact hr.elim
  | .ok .cont, hr => exact hr.elim
  | .ok (.ret x), ⟨led, e1, e2⟩ =>
    subst e1; subst e2
    have at0 : (s.heap.push (bare led)).get? s.heap.objs.size = some (bare led) := Heap.get?_push_size _ rfl
    have ty : Shared.TypeIs { s with heap := s.heap.push (bare led) } (.ref s.heap.objs.size) "set" := ⟨_, at0, rfl⟩
    have i1 := PySem.F.called_set.init.lookup; have i2 := PySem.F.called_set.init.bind (.ref s.heap.objs.size)
    repeat (any_goals (first | assumption | wp_step))
    refine codeAny_mono (codeAny_call_builtin (R := wants (fun x s2 => x = .none ∧ ∃ h' tk, s2 = { s with heap := h', toks := tk } ∧ J items.size h' ∧ ∀ b o, s.heap.get? b = some o → h'.get? b = some o) E) PySem.F.called_set.init.plain PySem.F.entry_set_init (check_set_init_1 ty ?_)) fun r2 s2 hr2 => ?_
    · obtain ⟨⟨oc, od, ot, os⟩, ho, c1, nl, c2⟩ := hl
      simp only at c1 c2
      subst c1; subst c2
      have lL : (s.heap.push (bare led)).get? l = some { cls := .type "list", dict := od, data := .seq items nl, slots := os } := Heap.get?_push_of_some _ ho
      have n1 := PySem.F.sub_list_set; have n2 := PySem.F.sub_list_frozenset; have n3 : (Value.type "list" == Value.type "dict") = false := by decide
      have isl : (s.heap.push (bare led)).IsList l items := ⟨_, lL, rfl, nl, rfl⟩
      unfold Builtin.«set.__init__» noKeywords Builtin.Frozenset.updateFrom
      generalize hPI : pyIter = PI
      wp_walk
      subst hPI
      refine wpAny_pyIter_list isl (wpAny_bind (wpAny_runValue ?_))
      have lt : l < s.heap.objs.size := Heap.lt_size ho
      have hh3 : A.in1.in1.in1.handled = none := by simp [hh]
      have z1 : (s.heap.push (bare led)).objs.size = s.heap.objs.size + 1 := Heap.size_push ..
      have ne1 : l ≠ (s.heap.push (bare led)).objs.size := fun z => Nat.lt_irrefl l (by rw [z1] at z; exact Nat.lt_of_lt_of_le lt (by rw [z]; exact Nat.le_succ _))
      have ne2 : s.heap.objs.size ≠ (s.heap.push (bare led)).objs.size := fun z => Nat.ne_of_lt (Nat.lt_succ_self _) (z.trans z1)
      refine loopJ ((Walks.list hh3 _ l ne1 items).toS) s.heap.objs.size (by simp only [List.mem_cons, List.not_mem_nil, or_false, not_or]; exact ⟨ne2, Nat.ne_of_gt lt⟩) J own (add _ (by simp [hh])) items.size 0 _ (Nat.zero_add _) ⟨⟨_, Heap.get?_push_size _ rfl, rfl, rfl⟩, (isl.push _)⟩ ?z0 ?zR
      case z0 => exact j0 _ led (Heap.get?_push_of_some _ at0)
      case zR =>
        intro s3 mv j3
        obtain ⟨h3, g3, d3, t3, o3⟩ := s3
        obtain rfl : g3 = s.gens := mv.gens
        obtain rfl : d3 = s.drawn := mv.drawn
        obtain rfl : o3 = s.os := mv.os
        show wpAny _ _ _ _ _ _
        refine wpAny_pure ?_
        show wpAny _ _ (ret Value.none) _ _ _
        refine wpAny_pure ⟨rfl, h3, t3, rfl, j3, fun b o z => ?_⟩
        have bl : b < s.heap.objs.size := Heap.lt_size z
        refine mv.heap b o ?_ (Heap.get?_push_of_some _ (Heap.get?_push_of_some _ z))
        simp only [List.mem_cons, List.not_mem_nil, or_false, not_or]
        exact ⟨Nat.ne_of_lt bl, fun z => Nat.lt_irrefl b (Nat.lt_of_lt_of_le bl (by rw [z, z1]; exact Nat.le_succ _))⟩
    · match r2, hr2 with
      | .error e, hr2 => exact hr2
      | .ok .next, hr2 => exact hr2.elim
      | .ok .brk, hr2 => exact hr2.elim
      | .ok .cont, hr2 => exact hr2.elim
      | .ok (.ret x2), ⟨e1, h', tk, e2, j3, kp⟩ =>
        subst e1; subst e2
        repeat (any_goals (first | assumption | wp_step))
        exact q h' tk j3 kp
/-- of texts -/
theorem adds_str {A' : Around} {S : Addr} {items : Array Value} {xs : List Str} (hi : StrsAre items.toList xs) (hb : xs.length + 1 < scanBound) : Adds prog w A' S items.size (fun i v => items[i]? = some v) (fun i h => h.SetOf (PySem.strKind prog w) S (fun k => (xs.take i).any (· == k)) (many xs i)) := by
  intro i v s Q E lt hv j q
  have hl : items.size = xs.length := by rw [← StrsAre.len_eq hi, Array.length_toList]
  obtain ⟨t, rfl⟩ := SS.strs_at hi i v (by rw [Array.getElem?_toList]; exact hv)
  unfold setAdd
  refine wpAny_holding (wpAny_bind ((PySem.strKind prog w).pyHash (k := xs.getD i Str.empty) (strKind_is _ _ _ _) ?_))
  have lm := many_le xs i
  refine wpAny_setAddHashed_of (knd := PySem.strKind prog w) (s := { s with toks := s.toks + 1 }) (strKind_is _ _ _ _) rfl j (by omega) fun h' sb S2 => ?_
  refine q _ h' (s.toks + 1) sb (SetOf_congr S2 (fun k => ?_) rfl) (Nat.le_succ _)
  rw [take_more (by omega), List.any_append]
  congr 1
  simp only [List.any_cons, List.any_nil, Bool.or_false]
  by_cases e : k = xs.getD i Str.empty
  · subst e; simp
  · rw [decide_eq_false e]
    symm
    exact beq_eq_false_iff_ne.mpr fun z => e z.symm
end
end Pd.Sx
namespace Pd
open PySem PySem.Spec PyProof.Rows L2
section
variable {X : Cx} {W : Wz} {pos : Pos}
/-- len(set(xs)) of a list of texts -/
def tLenSetT (K : PySem.W.Frag) (ta : TE) : TE := fun σ H Q => ta σ H fun x H1 => ∃ l, ∃ xs : List Str, x = .ref l ∧ SqL K H1 l (xs.map V.str) ∧ xs.length ≤ 2000 ∧ Q (.int (Sx.many xs xs.length : Nat)) H1
theorem pe_lenSetT {a : Expr} {ta : TE} {p p2 q : Pos} (hc : X.calm = true) (hg : Gl X "len") (hm : X.mg "len" = none) (hg2 : Gl X "set") (hm2 : X.mg "set" = none) (ha : PE X a ta)
    (na : starEach [a] X.env = (false, eval a X.env) :: starEach [] X.env := by rfl) : PE X (.Call (.Name "len" p) [.Call (.Name "set" p2) [a] [] q] [] pos) (tLenSetT X.K ta) := by
  refine ⟨fun pins s σ H Q I h => Call_ (ld_blt I hg hm boot_len ?_)⟩
  refine PyProof.Rows.callWith_builtin1 (PyProof.Rows.args_cons ?_ rfl) rfl rfl
  refine Call_ (ld_blt I hg2 hm2 boot_set (PyProof.Rows.callWith_type1 (PyProof.Rows.args_cons (thn (ha.run pins s σ H _ I h) fun v s1 ⟨x, H1, I1, r1, q1⟩ => PyProof.Rows.args_nil ?_) na) na rfl))
  obtain ⟨l, xs, rfl, hq, h1, q1⟩ := q1
  cases r1
  obtain ⟨its, r, pl, hz⟩ := I1.list hq
  have hl : its.toArray.size = xs.length := by rw [List.size_toArray, ← r.length, List.length_map]
  have hi : StrsAre its.toArray.toList xs := by simpa using strsAre_of r
  have hb : xs.length + 1 < scanBound := by unfold scanBound; omega
  refine Sx.set_list (fun i h => h.SetOf (PySem.strKind X.prog X.w) s1.heap.objs.size (fun k => (xs.take i).any (· == k)) (Sx.many xs i)) (I1.ok.hd hc) pl.isList (fun i h h' k ⟨o, es, ep, t, ho, rest⟩ => ⟨o, es, ep, t, k o ho, rest⟩)
    (fun h led e => SetOf_congr ((setObjOf_fresh (knd := PySem.strKind X.prog X.w) led).setOf e (by unfold scanBound; omega)) (fun _ => rfl) rfl) (fun A' _ => Sx.adds_str hi hb) fun h' tk hS hk => ?_
  refine PyProof.Rows.args_nil ?_
  rw [hl] at hS
  obtain ⟨o, es, ep, t, ho, hex, hd, _, _, _, hf, hn⟩ := hS
  have I2 : Inv X pins σ H1 { s1 with heap := h', toks := tk } := I1.kept fun b o e => hk b o e
  have lm := Sx.many_le xs xs.length
  exact call_len_set ho hex hd hf (by rw [hn]; omega) ⟨.int (Sx.many xs xs.length : Nat), H1, I2.tok _, ⟨_, by rw [hn]⟩, q1⟩
def dLenSet (f : De) : De := fun sv Q E => f sv (fun d sv1 => ∃ ss : List Str, d = .lst (ss.map .str) ∧ ss.length ≤ 2000 ∧ Q (.int (Sx.many ss ss.length : Nat)) sv1) E
theorem rpl_strs2 {K : PySem.W.Frag} {P : Hp} : ∀ {ss : List Str} {vs : List V}, RpL K P (ss.map D.str) vs → vs = ss.map V.str
  | [], _, h => h
  | s :: ss, _, h => by
    obtain ⟨v, r, rfl, h1, h2⟩ := h
    obtain rfl := h1
    rw [rpl_strs2 h2]
    rfl
theorem pd_lenSet {a : Expr} {f : De} {p p2 q : Pos} (hc : X.calm = true) (hm : X.mg "len" = none) (hm2 : X.mg "set" = none) (ha : PD X W a f) (hg : Gl X "len" := by rfl) (hg2 : Gl X "set" := by rfl)
    (na : starEach [a] X.env = (false, eval a X.env) :: starEach [] X.env := by rfl) : PD X W (.Call (.Name "len" p) [.Call (.Name "set" p2) [a] [] q] [] pos) (dLenSet f) := by
  obtain ⟨t, p1, s1⟩ := ha
  refine ⟨_, pe_lenSetT hc hg hm hg2 hm2 p1 na, fun F P H σ sv Q E R re k kx q => s1 F P H σ sv _ E _ re (fun v H1 P1 d sv1 r1 sb rv ⟨ss, e, hl, q1⟩ => ?_) kx q⟩
  subst e
  obtain ⟨l, ys, rfl, e1, rl⟩ := rv
  obtain rfl := rpl_strs2 rl
  exact ⟨l, ss, rfl, SqL.of (r1.sub _ _ e1), hl, k _ H1 P1 (.int (Sx.many ss ss.length : Nat)) sv1 r1 sb rfl q1⟩
end
end Pd
end
section
set_option autoImplicit false
set_option Elab.async false
set_option linter.all false
set_option autoImplicit false
set_option maxRecDepth 100000
set_option maxHeartbeats 4000000
/-! Pd24: xs == [], xs != [] of a list of one's own; == and != where the left side is data or an instance of a class with an own __eq__. -/
namespace Pd
open PySem PySem.Spec PyProof.Rows L2
section
variable {X : Cx} {W : Wz} {pos : Pos}
def dOwnNil (g : Bool → Bool) (i : Nat) : De := fun sv Q _ => match sv[i]? with
  | some (.own ds) => (∃ ps, D.pyL ds = some ps) ∧ Q (.bl (g ds.isEmpty)) sv
  | some (.dat (.lst ds)) => (∃ ps, D.pyL ds = some ps) ∧ Q (.bl (g ds.isEmpty)) sv
  | _ => False
theorem eqv_nil : ∀ ps : List PyData, PyData.eqv (.list ps) (.list []) = ps.isEmpty
  | [] => rfl
  | p :: ps => rfl
theorem pyL_empty : ∀ {ds : List D} {ps : List PyData}, D.pyL ds = some ps → ps.isEmpty = ds.isEmpty
  | [], ps, h => by cases h; rfl
  | d :: ds, ps, h => by
    simp only [D.pyL] at h
    split at h
    · cases h; rfl
    · cases h
theorem own_dp {K : PySem.W.Frag} {F : Fr} {P H : Hp} {σ : L2.St} {sv : Sv} {i : Nat} (r : Rel K F P H σ sv) {ds : List D} {ps : List PyData} (e : D.pyL ds = some ps) (h : sv[i]? = some (.own ds) ∨ sv[i]? = some (.dat (.lst ds))) :
    ∃ a vs, σ[i]? = some (some (.ref a)) ∧ H a = some (.lst vs) ∧ ∀ H', Sub H H' → Dp K H' (.ref a) (.list ps) := by
  rcases h with h | h
  · obtain ⟨o, ho, p', vs, rfl, h1, h2, h3, h4⟩ := rel_get r h
    exact ⟨p', vs, ho, h1, fun H' s => .lst (SqL.of (s _ _ h1)) (RpL.dp ds ps vs e (RpL.mono (r.sub.trans s) ds vs h4))⟩
  · obtain ⟨o, ho, v, rfl, a, vs, rfl, h1, h4⟩ := rel_get r h
    exact ⟨a, vs, ho, r.sub _ _ h1, fun H' s => .lst (SqL.of (s _ _ (r.sub _ _ h1))) (RpL.dp ds ps vs e (RpL.mono (r.sub.trans s) ds vs h4))⟩
theorem ownNil_in {g : Bool → Bool} {i : Nat} {sv : Sv} {Q : D → Sv → Prop} {E : DX} (h : dOwnNil g i sv Q E) : ∃ ds ps, D.pyL ds = some ps ∧ (sv[i]? = some (.own ds) ∨ sv[i]? = some (.dat (.lst ds))) ∧ Q (.bl (g ds.isEmpty)) sv := by
  unfold dOwnNil at h
  split at h
  · rename_i ds e
    obtain ⟨⟨ps, e1⟩, q⟩ := h
    exact ⟨ds, ps, e1, .inl e, q⟩
  · rename_i ds e
    obtain ⟨⟨ps, e1⟩, q⟩ := h
    exact ⟨ds, ps, e1, .inr e, q⟩
  · exact h.elim
theorem snd_neNil {K : PySem.W.Frag} {i : Nat} : SndE K W (tOp (rNeP K) (tVar i) (tLst tNil)) (dOwnNil not i) := fun F P H σ sv Q E R re k kx q => by
  obtain ⟨ds, ps, e1, e2, q⟩ := ownNil_in q
  obtain ⟨a, vs, e3, e4, e5⟩ := own_dp re e1 e2
  refine ⟨_, e3, small_line (by simp), fun l hl => ?_⟩
  refine ⟨.list ps, .list [], e5 _ (sub_upd hl), .lst (SqL.of upd_same) .nil, D.pyL_plain ds ps e1, rfl, Nat.le_trans (Nat.min_le_right _ _) (by decide), ?_⟩
  rw [eqv_nil, pyL_empty e1]
  exact k (.bl (!ds.isEmpty)) _ P (.bl (!ds.isEmpty)) sv (re.layH hl) (Sub.refl P) rfl q
theorem pd_neNil {i : Nat} {x : Str} {p p2 : Pos} (hu : X.A.units + 64 < cLine) (hN : X.N[i]? = some x) (hv : Vis X.env.scope x) (hd : (x == ("__debug__" : Str)) = false := by decide) (hcd : (x == ("__classdict__" : Str)) = false := by decide) (hm : behindInMarks .NotEq (.List [] p2) = false := by rfl) :
    PD X W (.Compare (.Name x p) [.NotEq] [.List [] p2] pos) (dOwnNil not i) := ⟨_, pe_cmpR (op_neP hu) (pe_var hN hv hd hcd) (pe_lst pa_nil) hm, snd_neNil⟩
theorem pdt_neNil {i : Nat} {x : Str} {p p2 : Pos} (hu : X.A.units + 64 < cLine) (hN : X.N[i]? = some x) (hv : Vis X.env.scope x) (hd : (x == ("__debug__" : Str)) = false := by decide) (hcd : (x == ("__classdict__" : Str)) = false := by decide) (hm : behindInMarks .NotEq (.List [] p2) = false := by rfl) :
    PDT X W (.Compare (.Name x p) [.NotEq] [.List [] p2] pos) (dTest (dOwnNil not i)) := by
  refine ⟨_, pt_cmpR (op_neP hu) (pe_var hN hv hd hcd) (pe_lst pa_nil) hm, fun F P H σ sv Q E R re k kx q => snd_neNil _ P H σ sv _ E _ re (fun v H1 P1 d sv1 r1 s1' rv ⟨b, ed, q1⟩ => ?_) kx q⟩
  subst ed
  exact ⟨b, rv, k b H1 P1 sv1 r1 s1' q1⟩
theorem snd_eqNil {K : PySem.W.Frag} {i : Nat} : SndE K W (tOp (rEqP K) (tVar i) (tLst tNil)) (dOwnNil id i) := fun F P H σ sv Q E R re k kx q => by
  obtain ⟨ds, ps, e1, e2, q⟩ := ownNil_in q
  obtain ⟨a, vs, e3, e4, e5⟩ := own_dp re e1 e2
  refine ⟨_, e3, small_line (by simp), fun l hl => ?_⟩
  refine ⟨.list ps, .list [], e5 _ (sub_upd hl), .lst (SqL.of upd_same) .nil, D.pyL_plain ds ps e1, rfl, Nat.le_trans (Nat.min_le_right _ _) (by decide), ?_⟩
  rw [eqv_nil, pyL_empty e1]
  exact k (.bl ds.isEmpty) _ P (.bl ds.isEmpty) sv (re.layH hl) (Sub.refl P) rfl q
theorem pd_eqNil {i : Nat} {x : Str} {p p2 : Pos} (hu : X.A.units + 64 < cLine) (hN : X.N[i]? = some x) (hv : Vis X.env.scope x) (hd : (x == ("__debug__" : Str)) = false := by decide) (hcd : (x == ("__classdict__" : Str)) = false := by decide) (hm : behindInMarks .Eq (.List [] p2) = false := by rfl) :
    PD X W (.Compare (.Name x p) [.Eq] [.List [] p2] pos) (dOwnNil id i) := ⟨_, pe_cmpR (op_eqP hu) (pe_var hN hv hd hcd) (pe_lst pa_nil) hm, snd_eqNil⟩
theorem pdt_eqNil {i : Nat} {x : Str} {p p2 : Pos} (hu : X.A.units + 64 < cLine) (hN : X.N[i]? = some x) (hv : Vis X.env.scope x) (hd : (x == ("__debug__" : Str)) = false := by decide) (hcd : (x == ("__classdict__" : Str)) = false := by decide) (hm : behindInMarks .Eq (.List [] p2) = false := by rfl) :
    PDT X W (.Compare (.Name x p) [.Eq] [.List [] p2] pos) (dTest (dOwnNil id i)) := by
  refine ⟨_, pt_cmpR (op_eqP hu) (pe_var hN hv hd hcd) (pe_lst pa_nil) hm, fun F P H σ sv Q E R re k kx q => snd_eqNil _ P H σ sv _ E _ re (fun v H1 P1 d sv1 r1 s1' rv ⟨b, ed, q1⟩ => ?_) kx q⟩
  subst ed
  exact ⟨b, rv, k b H1 P1 sv1 r1 s1' q1⟩
/-- a class with an own __eq__ that keeps a promise -/
structure EqG (P : Program) (w : World) (K : PySem.W.Frag) (mg : Str → Option Value) (base : Heap) (k : Nat) (C : Addr) (ct : Ct) : Prop where
  mono : ∀ as Q Q' E E', (∀ d, Q d → Q' d) → (∀ x, E x → E' x) → ct.c as Q E → ct.c as Q' E'
  ex : ∃ (f : Addr) (fd : FuncData) (ps : List Str), EqCls K C f ∧ Fd P w K mg base k f fd ps (spC K 2 ct) ∧ Binds K fd ps []
def gEqO (K : PySem.W.Frag) (C : Addr) (ct : Ct) : G2 := fun d e Q => gEq d e Q ∨ gOwn K C ct id d e Q
def gNeO (K : PySem.W.Frag) (C : Addr) (ct : Ct) : G2 := fun d e Q => gNe d e Q ∨ gOwn K C ct not d e Q
theorem deqO {P : Program} {w : World} {K : PySem.W.Frag} {mg : Str → Option Value} {base : Heap} {k k' : Nat} {C : Addr} {ct : Ct} {a b : Expr} {f1 f2 : De} (T : EqG P w K mg base k C ct) (hr : Room k' X.A) (hk : k + 1 ≤ k') (hG : X.A.guards = some []) (ha : PD X W a f1) (hb : PD X W b f2)
    (h1 : X.prog = P := by rfl) (h2 : X.w = w := by rfl) (h3 : X.K = K := by rfl) (h4 : X.mg = mg := by rfl) (h5 : X.base = base := by rfl) (hm : behindInMarks .Eq b = false := by rfl) : PD X W (.Compare a [.Eq] [b] pos) (dOp (gEqO K C ct) f1 f2) := by
  subst h1 h2 h3 h4 h5
  obtain ⟨f, fd, ps, e, F, bb⟩ := T.ex
  exact pd_cmp (OpR.or (op_eqP (Room.units hr)) (op_eqOwn e F bb (hr.mono hk) hG)) (SndR.or snd_eq (snd_own T.mono)) ha hb hm
theorem dneO {P : Program} {w : World} {K : PySem.W.Frag} {mg : Str → Option Value} {base : Heap} {k k' : Nat} {C : Addr} {ct : Ct} {a b : Expr} {f1 f2 : De} (T : EqG P w K mg base k C ct) (hr : Room k' X.A) (hk : k + 1 ≤ k') (hG : X.A.guards = some []) (ha : PD X W a f1) (hb : PD X W b f2)
    (h1 : X.prog = P := by rfl) (h2 : X.w = w := by rfl) (h3 : X.K = K := by rfl) (h4 : X.mg = mg := by rfl) (h5 : X.base = base := by rfl) (hm : behindInMarks .NotEq b = false := by rfl) : PD X W (.Compare a [.NotEq] [b] pos) (dOp (gNeO K C ct) f1 f2) := by
  subst h1 h2 h3 h4 h5
  obtain ⟨f, fd, ps, e, F, bb⟩ := T.ex
  exact pd_cmp (OpR.or (op_neP (Room.units hr)) (op_neOwn e F bb (hr.mono hk) hG)) (SndR.or snd_ne (snd_own T.mono)) ha hb hm
theorem pdt_eqO {P : Program} {w : World} {K : PySem.W.Frag} {mg : Str → Option Value} {base : Heap} {k k' : Nat} {C : Addr} {ct : Ct} {a b : Expr} {f1 f2 : De} (T : EqG P w K mg base k C ct) (hr : Room k' X.A) (hk : k + 1 ≤ k') (hG : X.A.guards = some []) (ha : PD X W a f1) (hb : PD X W b f2)
    (h1 : X.prog = P := by rfl) (h2 : X.w = w := by rfl) (h3 : X.K = K := by rfl) (h4 : X.mg = mg := by rfl) (h5 : X.base = base := by rfl) (hm : behindInMarks .Eq b = false := by rfl) : PDT X W (.Compare a [.Eq] [b] pos) (dTest (dOp (gEqO K C ct) f1 f2)) := by
  subst h1 h2 h3 h4 h5
  obtain ⟨f, fd, ps, e, F, bb⟩ := T.ex
  exact pdt_cmp (OpR.or (op_eqP (Room.units hr)) (op_eqOwn e F bb (hr.mono hk) hG)) (SndR.or snd_eq (snd_own T.mono)) ha hb hm
theorem pdt_neO {P : Program} {w : World} {K : PySem.W.Frag} {mg : Str → Option Value} {base : Heap} {k k' : Nat} {C : Addr} {ct : Ct} {a b : Expr} {f1 f2 : De} (T : EqG P w K mg base k C ct) (hr : Room k' X.A) (hk : k + 1 ≤ k') (hG : X.A.guards = some []) (ha : PD X W a f1) (hb : PD X W b f2)
    (h1 : X.prog = P := by rfl) (h2 : X.w = w := by rfl) (h3 : X.K = K := by rfl) (h4 : X.mg = mg := by rfl) (h5 : X.base = base := by rfl) (hm : behindInMarks .NotEq b = false := by rfl) : PDT X W (.Compare a [.NotEq] [b] pos) (dTest (dOp (gNeO K C ct) f1 f2)) := by
  subst h1 h2 h3 h4 h5
  obtain ⟨f, fd, ps, e, F, bb⟩ := T.ex
  exact pdt_cmp (OpR.or (op_neP (Room.units hr)) (op_neOwn e F bb (hr.mono hk) hG)) (SndR.or snd_ne (snd_own T.mono)) ha hb hm
end
end Pd
end
section
set_option autoImplicit false
set_option Elab.async false
set_option linter.all false
set_option autoImplicit false
set_option maxRecDepth 100000
set_option maxHeartbeats 4000000
/-! Pe1: how much room data take; tame data can be shown and compared. -/
namespace Pd
open PySem PySem.Spec PyProof.Rows L2
mutual
/-- at least as long as its repr; not below a million where there is none -/
def D.wt : D → Nat
  | .non => 4
  | .bl _ => 5
  | .int i => if i.natAbs.log2 < 1920 then (PyData.shown (.int i)).length else 1000000
  | .str x => max x.length (PyData.shown (.str x)).length
  | .lst ds => D.wtL ds + 2
  | .tup ds => D.wtL ds + 3
  | .ins _ _ _ => 1000000
  | .dk _ _ => 1000000
  | .dt _ _ => 1000000
  | .scr _ => 1000000
def D.wtL : List D → Nat
  | [] => 0
  | d :: ds => d.wt + 2 + D.wtL ds
end
mutual
def D.dep : D → Nat
  | .lst ds => D.depL ds + 1
  | .tup ds => D.depL ds + 1
  | _ => 0
def D.depL : List D → Nat
  | [] => 0
  | d :: ds => max d.dep (D.depL ds)
end
theorem textFrom_up : ∀ (ts : List Str) (k : Nat) (acc : Str) (n : Nat), (ts.map fun t => t.length + 2).sum ≤ n → (textFrom k acc ts).length ≤ acc.length + n
  | [], k, acc, n, h => by show acc.length ≤ _; omega
  | t :: r, k, acc, n, h => by
    rw [List.map_cons, List.sum_cons] at h
    have e : (acc ++ (if k > 0 then ", " else "" : String) ++ t).length = acc.length + (if k > 0 then 2 else 0) + t.length := by
      rw [strLen_append, strLen_append]
      split <;> rfl
    have ih := textFrom_up r (k + 1) (acc ++ (if k > 0 then ", " else "" : String) ++ t) (n - (t.length + 2)) (by omega)
    have ih2 : (textFrom k acc (t :: r)).length ≤ (acc ++ (if k > 0 then ", " else "" : String) ++ t).length + (n - (t.length + 2)) := ih
    rw [e] at ih2
    split at ih2 <;> omega
theorem join_up : ∀ ts : List Str, (Str.join ", " ts).length ≤ (ts.map fun t => t.length + 2).sum
  | [] => Nat.zero_le _
  | [x] => by show x.length ≤ _; simp
  | x :: y :: r => by
    have ih := join_up (y :: r)
    show (x ++ ", " ++ Str.join ", " (y :: r)).length ≤ _
    have e2 : ((", " : String) : Str).length = 2 := rfl
    rw [strLen_append, strLen_append, e2, List.map_cons, List.sum_cons]
    omega
/-- what tame data are -/
structure Tame (d : D) (p : PyData) : Prop where
  py : d.py = some p
  sh : p.showable = true
  dp : p.depth = d.dep
  ln : p.shown.length ≤ d.wt
structure TameL (ds : List D) (ps : List PyData) : Prop where
  py : D.pyL ds = some ps
  sh : PyData.showableAll ps = true
  dp : PyData.depthAll ps = D.depL ds
  ln : ((PyData.shownAll ps).map fun t => t.length + 2).sum ≤ D.wtL ds
mutual
theorem tame : ∀ d : D, d.wt < 1000000 → ∃ p, Tame d p
  | .non, h => ⟨.none, rfl, rfl, rfl, by decide⟩
  | .bl b, h => ⟨.bool b, rfl, rfl, rfl, by cases b <;> decide⟩
  | .int i, h => by
    simp only [D.wt] at h
    split at h
    · rename_i h1
      exact ⟨.int i, rfl, by simpa [PyData.showable] using h1, rfl, by simp only [D.wt, h1, if_true]; omega⟩
    · omega
  | .str x, h => ⟨.str x, rfl, rfl, rfl, by simp only [D.wt]; omega⟩
  | .lst ds, h => by
    simp only [D.wt] at h
    obtain ⟨ps, a, b, c, l⟩ := tameL ds (by omega)
    refine ⟨.list ps, by simp [D.py, a], by simpa [PyData.showable] using b, by simp [PyData.depth, D.dep, c], ?_⟩
    simp only [PyData.shown, D.wt]
    unfold listText
    rw [strLen_append]
    have e1 : ((("[" : String) : Str)).length = 1 := rfl
    have e2 : ((("]" : String) : Str)).length = 1 := rfl
    have u := textFrom_up (PyData.shownAll ps) 0 "[" _ l
    omega
  | .tup ds, h => by
    simp only [D.wt] at h
    obtain ⟨ps, a, b, c, l⟩ := tameL ds (by omega)
    refine ⟨.tuple ps, by simp [D.py, a], by simpa [PyData.showable] using b, by simp [PyData.depth, D.dep, c], ?_⟩
    simp only [PyData.shown, D.wt]
    unfold tupleText
    rw [strLen_append, strLen_append]
    have e1 : ((("(" : String) : Str)).length = 1 := rfl
    have e2 : (((if (PyData.shownAll ps).length == 1 then ",)" else ")" : String) : Str)).length ≤ 2 := by split <;> decide
    have u := join_up (PyData.shownAll ps)
    omega
  | .ins _ _ _, h => by simp only [D.wt] at h; omega
  | .dk _ _, h => by simp only [D.wt] at h; omega
  | .dt _ _, h => by simp only [D.wt] at h; omega
  | .scr _, h => by simp only [D.wt] at h; omega
theorem tameL : ∀ ds : List D, D.wtL ds < 1000000 → ∃ ps, TameL ds ps
  | [], h => ⟨[], rfl, rfl, rfl, by simp [PyData.shownAll, D.wtL]⟩
  | d :: ds, h => by
    simp only [D.wtL] at h
    obtain ⟨p, t⟩ := tame d (by omega)
    obtain ⟨ps, ts⟩ := tameL ds (by omega)
    refine ⟨p :: ps, by simp [D.pyL, t.py, ts.py], by simp [PyData.showableAll, t.sh, ts.sh], by simp [PyData.depthAll, D.depL, t.dp, ts.dp], ?_⟩
    have a := t.ln
    have b := ts.ln
    simp only [PyData.shownAll, List.map_cons, List.sum_cons, D.wtL]
    omega
end
theorem Tame.shows {d : D} {p : PyData} (t : Tame d p) (h : d.wt < 1000000) (h2 : d.dep ≤ 60) : Shows p := ⟨t.sh, by rw [t.dp]; exact h2, by have := t.ln; rw [sizeLine_eq]; omega⟩
theorem wt_str {s : Str} (h : (D.str s).wt < 1000000) : s.length ≤ sizeLine := by
  simp only [D.wt] at h
  rw [sizeLine_eq]
  omega
theorem wt_mem {d : D} : ∀ {ds : List D}, d ∈ ds → d.wt + 2 ≤ D.wtL ds
  | e :: ds, h => by
    simp only [D.wtL]
    rcases List.mem_cons.mp h with z | z
    · subst z; omega
    · have := wt_mem z; omega
theorem wtL_le {n : Nat} : ∀ ds : List D, (∀ d ∈ ds, d.wt ≤ n) → D.wtL ds ≤ ds.length * (n + 2)
  | [], _ => by simp [D.wtL]
  | d :: ds, h => by
    have a := h d List.mem_cons_self
    have b := wtL_le ds fun e he => h e (List.mem_cons_of_mem _ he)
    have e : (ds.length + 1) * (n + 2) = ds.length * (n + 2) + (n + 2) := Nat.succ_mul _ _
    simp only [D.wtL, List.length_cons, e]
    omega
theorem wtL_6 {ds : List D} (h : ds.length ≤ 5) (hw : ∀ d ∈ ds, d.wt < 100000) : D.wtL ds < 600000 := by
  have a := wtL_le ds fun d hd => Nat.le_of_lt (hw d hd)
  refine Nat.lt_of_le_of_lt (Nat.le_trans a (Nat.mul_le_mul_right _ h)) (by decide)
theorem dep_mem {d : D} : ∀ {ds : List D}, d ∈ ds → d.dep ≤ D.depL ds
  | e :: ds, h => by
    simp only [D.depL]
    rcases List.mem_cons.mp h with z | z
    · subst z; omega
    · have := dep_mem z; omega
/-- what == is worth between tame data -/
theorem eqv_self {p : PyData} (h : p.plain = true) : PyData.eqv p p = true := PySem.SeqAt.eqv_refl_plain p h
/-- == with a text -/
def D.isStr (d : D) (s : Str) : Bool := match d with
  | .str x => x == s
  | _ => false
theorem eqv_str {d : D} {p : PyData} {s : Str} (h : d.py = some p) : PyData.eqv p (.str s) = d.isStr s := by
  cases d with
  | lst ds =>
    simp only [D.py, Option.map_eq_some_iff] at h
    obtain ⟨ps, _, rfl⟩ := h
    rfl
  | tup ds =>
    simp only [D.py, Option.map_eq_some_iff] at h
    obtain ⟨ps, _, rfl⟩ := h
    rfl
  | ins _ _ _ => cases h
  | dk _ _ => cases h
  | dt _ _ => cases h
  | scr _ => cases h
  | _ => cases h; rfl
@[simp] theorem depth_int (i : Int) : (PyData.int i).depth = 0 := rfl
@[simp] theorem depth_bool (b : Bool) : (PyData.bool b).depth = 0 := rfl
@[simp] theorem depth_none : PyData.none.depth = 0 := rfl
@[simp] theorem depth_str (s : Str) : (PyData.str s).depth = 0 := rfl
@[simp] theorem eqv_int (i j : Int) : PyData.eqv (.int i) (.int j) = (i == j) := rfl
@[simp] theorem eqv_strs (x y : Str) : PyData.eqv (.str x) (.str y) = (x == y) := rfl
@[simp] theorem eqv_bools (x y : Bool) : PyData.eqv (.bool x) (.bool y) = (x == y) := rfl
theorem str_depth (s : Str) : (PyData.str s).depth = 0 := rfl
/-- == between tame data and a text -/
theorem gEq_str {d : D} {s : Str} {Q : D → Prop} (h : d.wt < 1000000) (q : Q (.bl (d.isStr s))) : gEq d (.str s) Q := by
  obtain ⟨p, t⟩ := tame d h
  exact ⟨p, .str s, t.py, rfl, by rw [str_depth]; omega, by rw [eqv_str t.py]; exact q⟩
theorem eqv_str' {d : D} {p : PyData} {s : Str} (h : d.py = some p) : PyData.eqv (.str s) p = d.isStr s := by
  cases d with
  | lst ds =>
    simp only [D.py, Option.map_eq_some_iff] at h
    obtain ⟨ps, _, rfl⟩ := h
    rfl
  | tup ds =>
    simp only [D.py, Option.map_eq_some_iff] at h
    obtain ⟨ps, _, rfl⟩ := h
    rfl
  | ins _ _ _ => cases h
  | dk _ _ => cases h
  | dt _ _ => cases h
  | scr _ => cases h
  | str x =>
    cases h
    show (s == x) = (x == s)
    by_cases e : s = x
    · subst e; rfl
    · rw [beq_eq_false_iff_ne.mpr e, beq_eq_false_iff_ne.mpr fun z => e z.symm]
  | _ => cases h; rfl
theorem pyL_strs : ∀ ss : List Str, D.pyL (ss.map .str) = some (ss.map .str)
  | [] => rfl
  | s :: ss => by
    rw [List.map_cons, D.pyL, pyL_strs ss]
    rfl
theorem depth_strs : ∀ ss : List Str, PyData.depthAll (ss.map .str) = 0
  | [] => rfl
  | s :: ss => by
    rw [List.map_cons, PyData.depthAll, depth_strs ss]
    rfl
/-- d in (texts) -/
theorem isIn_strs {d : D} {ss : List Str} {Q : Bool → Prop} (h : d.wt < 1000000) (q : Q (ss.any fun s => d.isStr s)) : isIn d (.tup (ss.map .str)) Q := by
  obtain ⟨p, t⟩ := tame d h
  refine ⟨p, _, t.py, pyL_strs ss, by rw [depth_strs]; omega, ?_⟩
  rw [List.any_map]
  rw [show ((fun z => PyData.eqv z p) ∘ PyData.str) = fun s => d.isStr s from funext fun s => eqv_str' t.py]
  exact q
/-! ### promises -/
/-- a promise by what is passed, what must hold of it, what may come back, what may be raised -/
def Ct.ex {τ : Type} (cost : Nat) (args : τ → DA) (pre : τ → Prop) (post : τ → D → Prop) (exc : τ → Xd → Prop) : Ct := ⟨cost, fun as Q E => ∃ t, as = args t ∧ pre t ∧ (∀ d, post t d → Q d) ∧ ∀ x, exc t x → E x⟩
theorem Ct.ex_mono {τ : Type} {cost : Nat} {args : τ → DA} {pre : τ → Prop} {post : τ → D → Prop} {exc : τ → Xd → Prop} : ∀ as Q Q' E E', (∀ d, Q d → Q' d) → (∀ x, E x → E' x) → (Ct.ex cost args pre post exc).c as Q E → (Ct.ex cost args pre post exc).c as Q' E' :=
  fun as Q Q' E E' h1 h2 ⟨t, e, p, q, x⟩ => ⟨t, e, p, fun d hd => h1 d (q d hd), fun y hy => h2 y (x y hy)⟩
theorem Ct.exI {τ : Type} {cost : Nat} {args : τ → DA} {pre : τ → Prop} {post : τ → D → Prop} {exc : τ → Xd → Prop} {as : DA} {Q : D → Prop} {E : Xd → Prop} (t : τ) (h : as = args t) (p : pre t) (q : ∀ d, post t d → Q d) (x : ∀ y, exc t y → E y) : (Ct.ex cost args pre post exc).c as Q E := ⟨t, h, p, q, x⟩
theorem map_erase {α β : Type} (f : α → β) : ∀ (l : List α) (n : Nat), (l.map f).eraseIdx n = (l.eraseIdx n).map f
  | [], n => by simp
  | a :: l, 0 => by simp
  | a :: l, n + 1 => by simp [map_erase f l n]
theorem erase_perm {α : Type} : ∀ {l : List α} {n : Nat} (h : n < l.length), (l[n] :: l.eraseIdx n).Perm l
  | a :: l, 0, _ => by simp
  | a :: l, n + 1, h => by
    have ih := erase_perm (l := l) (n := n) (by simpa using h)
    simp only [List.getElem_cons_succ, List.eraseIdx_cons_succ]
    exact (List.Perm.swap _ _ _).trans (ih.cons a)
theorem dSeq_i {f g : Ds} {sv : Sv} {D : Ed} (h : f sv { D with nx := fun sv1 => g sv1 D }) : dSeq f g sv D := h
/-- what a caller needs of a def that keeps a promise -/
theorem fnG_of {P : Program} {w : World} {K : PySem.W.Frag} {mg : Str → Option Value} {base : Heap} {x qual : Str} {params : Arguments} {body : List Stmt} {scope : Scope} {f : Addr} {fd : FuncData} {N ps : List Str} {k : Nat} {ct : Ct}
    (F : FunD K x qual params body scope [] [] f fd) (S : FnScope N ps scope) (hm : mg x = some (.ref f)) (hF : Fd P w K mg base k f fd ps (spC K ps.length ct)) (b : Binds K fd ps [])
    (mono : ∀ as Q Q' E E', (∀ d, Q d → Q' d) → (∀ x, E x → E' x) → ct.c as Q E → ct.c as Q' E') : FnG P w K mg base k x ps.length ct := ⟨mono, f, fd, ps, rfl, hF, hm, F.kp, b⟩
end Pd
end
section
set_option autoImplicit false
set_option Elab.async false
set_option linter.all false
set_option autoImplicit false
set_option maxRecDepth 100000
set_option maxHeartbeats 4000000
/-! Pe2: classes whose objects are data; what == of data is. -/
namespace Pd
open PySem PySem.Spec PyProof.Rows L2
def kTypes : List String := ["NoneType", "bool", "int", "str", "list", "tuple"]
/-- what the top says of a class whose objects are data with these fields -/
structure ClsD (K : PySem.W.Frag) (C : Addr) (fs : List Str) : Prop where
  ity : InsTy K C
  ok : ∀ f ∈ fs, OkF K C f
  no : ∀ T ∈ kTypes, PySem.W.kitOne K (.type T) (.ref C) = some false
theorem kit_self {K : PySem.W.Frag} {C : Addr} : PySem.W.kitOne K (.ref C) (.ref C) = some true := by
  unfold PySem.W.kitOne
  rw [if_pos (by simp)]
theorem kit_no {K : PySem.W.Frag} {C : Addr} {fs : List Str} (T : ClsD K C fs) {d : D} (h : d.wt < 1000000) : PySem.W.kitOne K d.ty (.ref C) = some false := by
  cases d with
  | ins _ _ _ => simp [D.wt] at h
  | dk _ _ => simp [D.wt] at h
  | dt _ _ => simp [D.wt] at h
  | scr _ => simp [D.wt] at h
  | _ => exact T.no _ (by simp [kTypes])
theorem okTy_tame {K : PySem.W.Frag} {d : D} (h : d.wt < 1000000) : D.okTy K d := by
  cases d with
  | ins _ _ _ => simp [D.wt] at h
  | scr _ => simp [D.wt] at h
  | _ => trivial
def isBlD : D → Bool
  | .bl _ => true
  | _ => false
def isIntD : D → Bool
  | .int _ => true
  | _ => false
theorem kit_bool {K : PySem.W.Frag} {d : D} (h : d.wt < 1000000) : PySem.W.kitOne K d.ty (.type "bool") = some (isBlD d) := by
  cases d with
  | ins _ _ _ => simp [D.wt] at h
  | dk _ _ => simp [D.wt] at h
  | dt _ _ => simp [D.wt] at h
  | scr _ => simp [D.wt] at h
  | _ => rfl
theorem kit_int {K : PySem.W.Frag} {d : D} (h : d.wt < 1000000) : PySem.W.kitOne K d.ty (.type "int") = some (isIntD d || isBlD d) := by
  cases d with
  | ins _ _ _ => simp [D.wt] at h
  | dk _ _ => simp [D.wt] at h
  | dt _ _ => simp [D.wt] at h
  | scr _ => simp [D.wt] at h
  | _ => rfl
/-- a == b of data -/
def eqD (a b : D) : Bool := match a.py, b.py with
  | some p, some q => PyData.eqv p q
  | _, _ => false
theorem eqD_self {a : D} (h : a.wt < 1000000) : eqD a a = true := by
  obtain ⟨p, t⟩ := tame a h
  unfold eqD
  rw [t.py]
  exact eqv_self (D.py_plain a p t.py)
theorem gEq_tame {a b : D} {Q : D → Prop} (ha : a.wt < 1000000) (hb : b.wt < 1000000) (hd : a.dep ≤ 60) (q : Q (.bl (eqD a b))) : gEq a b Q := by
  obtain ⟨p, t⟩ := tame a ha
  obtain ⟨p', t'⟩ := tame b hb
  refine ⟨p, p', t.py, t'.py, by rw [t.dp]; omega, ?_⟩
  unfold eqD at q
  rw [t.py, t'.py] at q
  exact q
theorem gNe_tame {a b : D} {Q : D → Prop} (ha : a.wt < 1000000) (hb : b.wt < 1000000) (hd : a.dep ≤ 60) (q : Q (.bl (!eqD a b))) : gNe a b Q := by
  obtain ⟨p, t⟩ := tame a ha
  obtain ⟨p', t'⟩ := tame b hb
  refine ⟨p, p', t.py, t'.py, by rw [t.dp]; omega, ?_⟩
  unfold eqD at q
  rw [t.py, t'.py] at q
  exact q
/-- repr of tame data -/
def shD (a : D) : Str := match a.py with
  | some p => p.shown
  | none => ""
theorem gRepr_tame {a : D} {Q : D → Prop} (ha : a.wt < 1000000) (hd : a.dep ≤ 60) (q : Q (.str (shD a))) : gRepr [a] Q := by
  obtain ⟨p, t⟩ := tame a ha
  refine ⟨a, rfl, p, t.py, t.shows ha hd, ?_⟩
  unfold shD at q
  rw [t.py] at q
  exact q
end Pd
end
section
set_option autoImplicit false
set_option Elab.async false
set_option linter.all false
set_option autoImplicit false
set_option maxRecDepth 100000
set_option maxHeartbeats 4000000
/-! Pe3: what the top says, as one test; the end of a law whose defs ask that nothing is being shown. -/
namespace Pd
open PySem PySem.Spec PyProof.Rows L2
/-! ### tests -/
def oexB (K : PySem.W.Frag) (C : Addr) (newId : String) (bm : List Value) : Bool := match K.lookup C with
  | some ⟨.type t, _, .cls c, sl⟩ => decide (t = "type") && (match c.mro, sl.toList with
    | .ref D :: r, [_, _, _, _, some (.builtin n), _] => decide (D = C) && (decide (n = newId) && (c.hasDict && (!c.hasDel && decide (r = bm))))
    | _, _ => false)
  | _ => false
def exB (K : PySem.W.Frag) (C : Addr) (newId : String) (bm : List Value) : Bool := oexB K C newId bm && (decide (PySem.W.findIn K (.ref C) "__setattr__" = some (some (.builtin "object.__setattr__"))) &&
  (decide (PySem.W.subIn K (.ref C) (.type "BaseException") = some true) && (decide (PySem.W.typeIn K (.ref C) = some (.type "type")) && PySem.W.keepIn K (.ref C))))
theorem bb {a b : Bool} (h : (a && b) = true) : a = true ∧ b = true := Bool.and_eq_true_iff.mp h
theorem exB_ok {K : PySem.W.Frag} {C : Addr} {B newId initId : String} {bm : List Value} (b : ExB B newId initId bm) (h : exB K C newId bm = true) : OexG K C B newId initId bm := by
  obtain ⟨h1, h⟩ := bb h
  obtain ⟨h2, h⟩ := bb h
  obtain ⟨h3, h⟩ := bb h
  obtain ⟨h4, h5⟩ := bb h
  refine ⟨?_, b, of_decide_eq_true h2, of_decide_eq_true h3, of_decide_eq_true h4, h5⟩
  unfold oexB at h1
  split at h1
  · rename_i t dd c sl ho
    obtain ⟨e0, m1⟩ := bb h1
    clear h1
    have q0 := of_decide_eq_true e0
    clear e0
    subst q0
    split at m1
    · rename_i D r k0 k1 k2 k3 n k5 hm hs
      obtain ⟨e1, m2⟩ := bb m1
      obtain ⟨e2, m3⟩ := bb m2
      obtain ⟨e3, m4⟩ := bb m3
      obtain ⟨e4, e5⟩ := bb m4
      have q1 := of_decide_eq_true e1
      have q2 := of_decide_eq_true e2
      have q4 : c.hasDel = false := by simpa using e4
      have q5 := of_decide_eq_true e5
      clear m1 m2 m3 m4 e1 e2 e4 e5
      obtain ⟨nm, bs, mro, ns, qn, hd, sn, sb, ab, col, del⟩ := c
      dsimp only at hm e3 q4
      subst q1 q2 e3 q4 q5 hm
      obtain ⟨l⟩ := sl
      dsimp only at hs
      subst hs
      exact ⟨nm, qn, ns, bs, sn, sb, ab, col, dd, k0, k1, k2, k3, k5, ho⟩
    · cases m1
  · cases h1
def xB (K : PySem.W.Frag) (D : Addr) : Bool := decide (PySem.W.findIn K (.ref D) "__getattribute__" = some (some (.builtin "BaseException.__getattribute__"))) && (decide (PySem.W.findIn K (.ref D) "__getattr__" = some none) &&
  (decide (PySem.W.subIn K (.ref D) (.type "BaseException") = some true) && (PySem.W.hasDictIn K D && (decide (PySem.W.findIn K (.ref D) "__class__" = some (some (.builtin "object.__class__"))) && (decide (PySem.W.specialIn K (.builtin "object.__class__") "__get__" = some (some (.builtin "getset_descriptor.__get__"))) &&
  (decide (PySem.W.takesIn K (.builtin "object.__class__") = some true) && decide (PySem.W.mroIn K D (.type "object") = some true)))))))
theorem xB_ok {K : PySem.W.Frag} {D : Addr} (h : xB K D = true) : XfC K D ∧ ExcC K D := by
  obtain ⟨h1, h⟩ := bb h
  obtain ⟨h2, h⟩ := bb h
  obtain ⟨h3, h⟩ := bb h
  obtain ⟨h4, h⟩ := bb h
  obtain ⟨h5, h⟩ := bb h
  obtain ⟨h6, h⟩ := bb h
  obtain ⟨h7, h8⟩ := bb h
  exact ⟨⟨of_decide_eq_true h1, of_decide_eq_true h2, of_decide_eq_true h3, h4⟩, ⟨of_decide_eq_true h1, of_decide_eq_true h2, of_decide_eq_true h3, h4, of_decide_eq_true h5, of_decide_eq_true h6, of_decide_eq_true h7, of_decide_eq_true h8⟩⟩
/-- the class's own __init__ is a def -/
def inB (K : PySem.W.Frag) (C f : Addr) : Bool := decide (PySem.W.findIn K (.ref C) "__init__" = some (some (.ref f))) && decide (PySem.W.typeIn K (.ref f) = some (.type "function"))
def noB (K : PySem.W.Frag) (C : Addr) (fs : List Str) : Bool := fs.all fun f => decide (PySem.W.findIn K (.ref C) f = some none)
theorem noB_ok {K : PySem.W.Frag} {C : Addr} {fs : List Str} (h : noB K C fs = true) {f : Str} (hf : f ∈ fs) : PySem.W.findIn K (.ref C) f = some none := of_decide_eq_true (List.all_eq_true.mp h f hf)
def clB (K : PySem.W.Frag) (C : Addr) : Bool := PySem.W.plainGet K C Str.empty && (PySem.W.hasDictIn K C && (PySem.W.plainOver K C && decide (PySem.W.findIn K (.ref C) "__setattr__" = some (some (.builtin "object.__setattr__")))))
theorem clB_ok {K : PySem.W.Frag} {C : Addr} (h : clB K C = true) : Cls K C := by
  obtain ⟨h1, h⟩ := bb h
  obtain ⟨h2, h⟩ := bb h
  obtain ⟨h3, h4⟩ := bb h
  exact ⟨h1, h2, h3, of_decide_eq_true h4⟩
def itB (K : PySem.W.Frag) (C : Addr) : Bool := clB K C && (decide (PySem.W.findIn K (.ref C) "__class__" = some (some (.builtin "object.__class__"))) && (decide (PySem.W.specialIn K (.builtin "object.__class__") "__get__" = some (some (.builtin "getset_descriptor.__get__"))) &&
  (decide (PySem.W.takesIn K (.builtin "object.__class__") = some true) && decide (PySem.W.mroIn K C (.type "object") = some true))))
theorem itB_ok {K : PySem.W.Frag} {C : Addr} (h : itB K C = true) : InsTy K C := by
  obtain ⟨h1, h⟩ := bb h
  obtain ⟨h2, h⟩ := bb h
  obtain ⟨h3, h⟩ := bb h
  obtain ⟨h4, h5⟩ := bb h
  exact ⟨clB_ok h1, of_decide_eq_true h2, of_decide_eq_true h3, of_decide_eq_true h4, of_decide_eq_true h5⟩
def cdB (K : PySem.W.Frag) (C : Addr) (fs : List Str) : Bool := itB K C && (noB K C fs && kTypes.all fun T => decide (PySem.W.kitOne K (.type T) (.ref C) = some false))
theorem cdB_ok {K : PySem.W.Frag} {C : Addr} {fs : List Str} (h : cdB K C fs = true) : ClsD K C fs := by
  obtain ⟨h1, h⟩ := bb h
  obtain ⟨h2, h3⟩ := bb h
  have i := itB_ok h1
  exact ⟨i, fun f hf => ⟨i.cl, noB_ok h2 hf⟩, fun T hT => of_decide_eq_true (List.all_eq_true.mp h3 T hT)⟩
def mkB (K : PySem.W.Frag) (C f : Addr) : Bool := PySem.W.makesIn K C && (decide (PySem.W.findIn K (.ref C) "__init__" = some (some (.ref f))) && (PySem.W.isFn K (.ref f) && PySem.W.keepIn K (.ref C)))
theorem mkB_ok {K : PySem.W.Frag} {C f : Addr} (h : mkB K C f = true) : Mk K C f := by
  obtain ⟨h1, h⟩ := bb h
  obtain ⟨h2, h⟩ := bb h
  obtain ⟨h3, h4⟩ := bb h
  exact ⟨h1, of_decide_eq_true h2, h3, h4⟩
def eqB (K : PySem.W.Frag) (C f : Addr) : Bool := decide (PySem.W.findIn K (.ref C) "__eq__" = some (some (.ref f))) && (PySem.W.isFn K (.ref f) && (decide (PySem.W.findIn K (.ref C) "__ne__" = some (some (.builtin "object.__ne__"))) && decide (PySem.W.mroIn K C (.type "object") = some true)))
theorem eqB_ok {K : PySem.W.Frag} {C f : Addr} (h : eqB K C f = true) : EqCls K C f := by
  obtain ⟨h1, h⟩ := bb h
  obtain ⟨h2, h⟩ := bb h
  obtain ⟨h3, h4⟩ := bb h
  exact ⟨of_decide_eq_true h1, h2, of_decide_eq_true h3, of_decide_eq_true h4⟩
/-- C.f is a tuple of texts -/
def ctB (K : PySem.W.Frag) (C : Addr) (f : Str) (ss : List Str) : Bool := PySem.W.readsIn K C (.type "type") && (decide (PySem.W.specialIn K (.ref C) "__getattribute__" = some (some (.builtin "type.__getattribute__"))) && (match PySem.W.findCls K (.ref C) (.type "type") f with
  | some (.val (.ref a)) => (match K.lookup a with
    | some ⟨.type c, _, .seq its _, _⟩ => decide (c = "tuple") && (decide (its.size ≤ sizeLine) && He.relAll (ss.map V.str) its.toList)
    | _ => false)
  | _ => false))
theorem ctB_ok {K : PySem.W.Frag} {C : Addr} {f : Str} {ss : List Str} (h : ctB K C f ss = true) : ClsT K C f ss := by
  obtain ⟨h1, g2⟩ := bb h
  obtain ⟨h2, g3⟩ := bb g2
  split at g3
  · rename_i a ea
    split at g3
    · rename_i c dd its n sl ho
      obtain ⟨e1, g4⟩ := bb g3
      obtain ⟨e2, g5⟩ := bb g4
      have q1 := of_decide_eq_true e1
      subst q1
      exact ⟨.type "type", a, ⟨h1, of_decide_eq_true h2⟩, ⟨ea, rfl⟩, fun P => .inr ⟨_, its, n, ho, rfl, rfl, of_decide_eq_true e2, He.relAll_ok g5⟩⟩
    · cases g3
  · cases g3
/-! ### the Hook: the facts by names, the defs, one more test -/
abbrev AlY : Type := He.AlD × Bool
/-- what is looked at: what the module's names lead to, and the statics -/
def asY (n : Nat) (g : Addr → Option Obj) : List Addr := cStatics :: He.asD g n
def obY (n : Nat) (fa : List He.Fa) (fn : List He.DefD) (ex : PySem.W.Frag → Bool) (g : Addr → Option Obj) : AlY := (He.obsD fa fn (He.frG g (asY n g)), ex (He.frG g (asY n g)))
def hookY (n : Nat) (fa : List He.Fa) (fn : List He.DefD) (ex : PySem.W.Frag → Bool) : PySem.W.Hook where
  α := AlY
  obs := fun z => obY n fa fn ex z.heap.get?
  val := fun _ => (He.valD fn, true)
  says := fun _ h => ∃ K : PySem.W.Frag, K.In h ∧ He.SaysD fa fn K ∧ ex K = true
  of := fun _ _ e => ⟨_, He.frG_in, congrArg (fun z : AlY => z.1) e, congrArg (fun z : AlY => z.2) e⟩
  keeps := fun _ _ _ ⟨K, i, c, x⟩ k => ⟨K, PySem.W.Frag.In.keeps i k, c, x⟩
theorem obY_eq {n : Nat} {fa : List He.Fa} {fn : List He.DefD} {ex : PySem.W.Frag → Bool} {g : Addr → Option Obj} {z : Shared} (h : ∀ a, g a = z.heap.get? a) : obY n fa fn ex g = (hookY n fa fn ex).obs z := by
  have e : g = z.heap.get? := funext h
  subst e; rfl
/-! ### the end -/
section
variable {P : Program} {w : World} {K : PySem.W.Frag} {mg mb : Str → Option Value} {k : Nat} {f a : Addr} {fd : FuncData} {x : Str} {sp : Sp} {s : Shared} {us : List Value} {ns : List Int}
abbrev scr (us : List Value) : Obj := { cls := .type "list", data := .seq us.toArray }
/-- over a heap H in which at most the script is known -/
theorem run_at (hr : Room k callerA) (KX : K.In s.heap) (g1 : s.heap.Ns mainGlobals mg) (g2 : s.heap.Ns builtinsNs mb) (g3 : ∀ y : Str, y ≠ "__name__" → mb y = bootBuiltins y) (g4 : s.heap.NoLimit) (g5 : s.gens = #[])
    (ha : s.heap.get? a = some (scr us)) (F : ∀ base : Heap, K.In base → base.Ns mainGlobals mg → Fd P w K mg base k f fd [x] sp) (hb : ∀ (z : Shared) (u : Value), BindsTo z fd ⟨[u], []⟩ [(x, u)])
    (H : Hp) (only : ∀ b u, H b = some u → b = a ∧ ∃ o xs, u = .frz o (.lst xs)) (ok : HOk P w H s.heap) (out : H a ≠ none → K.lookup a = none) (q : sp [.ref a] H (fun v _ => v = .bl true) fun _ _ _ => False) :
    codeAny (model P w) callerA (.call (.ref f) ⟨[.ref a], []⟩) (fun r z => r = .ok (.ret (.bool true)) ∧ OldK s.heap z.heap ∧ z.os = s.os ∧ AllBare z.gens) s := by
  have free : ∀ {b : Addr} {o : Obj}, s.heap.get? b = some o → (∀ v n, o.data ≠ .seq v n) → H b = none := fun {b o} e nd => by
    cases c : H b with
    | none => rfl
    | some u =>
      obtain ⟨rfl, _⟩ := only b u c
      rw [ha] at e
      cases e
      exact absurd rfl (nd _ _)
  have toB : ∀ {b : Addr} {o : Obj}, s.heap.get? b = some o → H b = none → (hidT s.heap H).get? b = some o := fun e n => hidT_get e n
  have nsB : ∀ {b : Addr} {m : Str → Option Value}, s.heap.Ns b m → (hidT s.heap H).Ns b m := fun {b m} ⟨o, es, ep, e, d, r⟩ => ⟨o, es, ep, toB e (free e fun v n z => by rw [z] at d; cases d), d, r⟩
  have KB : K.In (hidT s.heap H) := fun b o e => toB (KX b o e) (by
    cases c : H b with
    | none => rfl
    | some u =>
      obtain ⟨rfl, _⟩ := only b u c
      rw [out (by rw [c]; simp)] at e
      cases e)
  obtain ⟨mc, l1, l2⟩ := g4
  have M : Mod K mg (hidT s.heap H) := ⟨KB, nsB g1, ⟨mb, nsB g2, g3⟩, mc, nsB l1, l2⟩
  have E : Env0 P w K mg (hidT s.heap H) callerA [] s H := ⟨rfl, M, fun b o e => of_hidT e, Nat.le_of_eq (hidT_size _ _), trivial, (fun b z => nomatch (show b ∈ ([] : List Addr) from z)), ok, .of_eq g5⟩
  refine codeAny_mono ((F _ KB (nsB g1)).run callerA [] s H ⟨[.ref a], []⟩ [.ref a] [.ref a] _ (fun _ _ _ => False) hr rfl E (hb s (.ref a)) (.cons rfl .nil) q) fun r z h => ?_
  match r, h with
  | .error e, ⟨_, _, _, _, _, _, _, _, _, _, _, _, z⟩ => exact z.elim
  | .ok .next, h => exact h.elim
  | .ok .brk, h => exact h.elim
  | .ok .cont, h => exact h.elim
  | .ok (.ret u), ⟨v, H', os, bare, un, ok', rv, e⟩ =>
    have e : v = .bl true := e
    subst e
    obtain rfl : u = Value.bool true := rv
    refine ⟨rfl, OldK.of_keep fun b o e => ?_, os, bare⟩
    cases c : H b with
    | none => exact un.keep b o e c (fun y => nomatch (show b ∈ ([] : List Addr) from y)) (by simp)
    | some u =>
      obtain ⟨_, ob, xs, rfl⟩ := only b u c
      have e1 := (ok b _ c).1
      have e2 := (ok' b _ (un.frzs b ob _ c)).1
      rw [e] at e1
      cases e1
      exact e2
theorem run_law (hr : Room k callerA) (KX : K.In s.heap) (g1 : s.heap.Ns mainGlobals mg) (g2 : s.heap.Ns builtinsNs mb) (g3 : ∀ y : Str, y ≠ "__name__" → mb y = bootBuiltins y) (g4 : s.heap.NoLimit) (g5 : s.gens = #[])
    (ha : s.heap.get? a = some (scr us)) (hi : IntsAre us ns) (hl : ns.length ≤ sizeLine) (F : ∀ base : Heap, K.In base → base.Ns mainGlobals mg → Fd P w K mg base k f fd [x] sp) (hb : ∀ (z : Shared) (u : Value), BindsTo z fd ⟨[u], []⟩ [(x, u)])
    (q : ∀ H : Hp, SqL K H a (ns.map V.int) → sp [.ref a] H (fun v _ => v = .bl true) fun _ _ _ => False) :
    codeAny (model P w) callerA (.call (.ref f) ⟨[.ref a], []⟩) (fun r z => r = .ok (.ret (.bool true)) ∧ OldK s.heap z.heap ∧ z.os = s.os ∧ AllBare z.gens) s := by
  have rv := L2.vals_ints hi
  cases c : K.lookup a with
  | some o =>
    have e := KX a o c
    rw [ha] at e
    cases e
    refine run_at hr KX g1 g2 g3 g4 g5 ha F hb (fun _ => none) (fun b u z => nomatch (show (none : Option HO) = some u from z)) (fun b u z => nomatch (show (none : Option HO) = some u from z)) (fun z => absurd rfl z) (q _ (.inr ⟨_, us.toArray, _, c, rfl, rfl, rfl, by rw [List.size_toArray, hi.length]; exact hl, by simpa using rv⟩))
  | none =>
    let H : Hp := fun b => if b = a then some (.frz (scr us) (.lst (ns.map V.int))) else none
    have hH : ∀ b u, H b = some u → b = a ∧ u = .frz (scr us) (.lst (ns.map V.int)) := fun b u z => by
      by_cases h : b = a
      · have z : (if b = a then some (HO.frz (scr us) (.lst (ns.map V.int))) else none) = some u := z
        rw [if_pos h] at z
        cases z
        exact ⟨h, rfl⟩
      · have z : (if b = a then some (HO.frz (scr us) (.lst (ns.map V.int))) else none) = some u := z
        rw [if_neg h] at z
        cases z
    refine run_at hr KX g1 g2 g3 g4 g5 ha F hb H (fun b u z => ⟨(hH b u z).1, _, _, (hH b u z).2⟩) (fun b u z => ?_) (fun _ => c) (q H (.inl (.inr ⟨_, if_pos rfl⟩)))
    obtain ⟨rfl, rfl⟩ := hH b u z
    exact ⟨ha, by rw [List.length_map]; exact hl, us, _, rv, ha⟩
end
theorem walkG {l : PySem.W.OpenLaw} {n k : Nat} {q : Program} {loose : List Str} {XP : (Str → Option Value) → Heap → Prop} {YP : World → Heap → Prop} {d : DefRec} {x : Str} (hn : l.most = some n) (hz : n ≤ sizeLine) (hdf : d.params.defaults = []) (hr : Room k callerA)
    (F : ∀ (w : World) (mg : Str → Option Value) (f : Addr) (h : Heap), YP w h → h.Ns mainGlobals mg → mg d.name = some (.ref f) → ∃ (K : PySem.W.Frag) (fd : FuncData) (sp : Sp), K.In h ∧ (∀ (z : Shared) (u : Value), BindsTo z fd ⟨[u], []⟩ [(x, u)]) ∧
      (∀ (H : Hp) (a : Addr) (ns : List Int), ns.length ≤ n → SqL K H a (ns.map V.int) → sp [.ref a] H (fun v _ => v = .bl true) fun _ _ _ => False) ∧ ∀ base : Heap, K.In base → base.Ns mainGlobals mg → Fd l.prog w K mg base k f fd [x] sp) :
    PySem.W.WalkO q loose XP YP l.row.toRowW d [] (fun f vs => PySem.call f vs) :=
  Att.attach_call hn hdf fun w z0 z1 mg mb f o pm cd doc a us ns G Y h1 h2 h3 h4 h5 h6 h7 h8 => by
    obtain ⟨K, fd, sp, KX, b, s1, s2⟩ := F w mg f _ Y G.T.g h4
    exact run_law hr KX G.T.g G.T.b G.T.builtins G.T.nolimit h8 h5 h6 (Nat.le_trans h7 hz) s2 b fun H hS => s1 H a ns h7 hS
end Pd
end
section
set_option autoImplicit false
set_option Elab.async false
set_option linter.all false
set_option autoImplicit false
set_option maxRecDepth 100000
set_option maxHeartbeats 4000000
/-! Pd25: == of lists and of tuples item by item, true or false. -/
namespace PdB
open PySem PySem.SeqAt
open AutoSeq1 (wpAny_loadPart')
open MeetsSeq MeetsSeq2 MeetsSeq3 SeqRoads2
section
variable {prog : Program} {w : World} {A : Around} {R : Result → Shared → Prop}
/-- at each turn the two lists are read anew: N items each; the i-th two are equal, or it ends there -/
def TwoL (prog : Program) (w : World) (A : Around) (E : Value → Shared → Prop) (l b : Addr) (N : Nat) (I : Nat → Shared → Prop) (S : Shared → Prop) : Prop :=
  ∀ i s, I i s → ∃ (items items2 : Array Value) (n n2 : Nat), s.heap.get? l = some { cls := .type "list", data := .seq items n } ∧ s.heap.get? b = some { cls := .type "list", data := .seq items2 n2 } ∧ items.size = N ∧ items2.size = N ∧
    ∀ (h1 : i < items.size) (h2 : i < items2.size), wpAny (model prog w) A.in1 (eqBool items[i] items2[i]) (fun r s' => (r = true ∧ I (i + 1) s') ∨ (r = false ∧ S s')) E s
theorem loop2 (l b : Addr) (N : Nat) (I : Nat → Shared → Prop) (S : Shared → Prop) (hl : TwoL prog w A (fun e s' => R (.error e) s') l b N I S)
    (hS : ∀ s, S s → ∃ (items items2 : Array Value) (n n2 : Nat), s.heap.get? l = some { cls := .type "list", data := .seq items n } ∧ s.heap.get? b = some { cls := .type "list", data := .seq items2 n2 } ∧ items.size = N ∧ items2.size = N)
    (fin : ∀ s, I N s → R (.ok (.ret (.bool true))) s) (ff : ∀ s, S s → R (.ok (.ret (.bool false))) s) (k : Nat) :
    ∀ i : Nat, N - i = k → i ≤ N → ∀ s, I i s →
      wpAny (model prog w) A.in1 (Builtin.«list.__eq__.loop» ⟨[.ref l, .ref b, rawInt i, rawInt 2], []⟩) (GQ.FinOf prog w A R) (fun e s' => R (.error e) s') s := by
  induction k with
  | zero =>
    intro i hk hi s h
    obtain ⟨items, items2, n, n2, hl1, hb1, hs1, hs2, _⟩ := hl _ _ h
    have hi' : i = N := by omega
    have hR : R (.ok (.ret (.bool true))) s := fin s (hi' ▸ h)
    obtain ⟨hp, g, d, tk, os⟩ := s
    wp_walk using wpAny_loadPart' hl1, wpAny_loadPart' hb1
    have hi1 : items[((i : Nat) : Int).toNat]? = none := by simp; omega
    have hi2 : items2[((i : Nat) : Int).toNat]? = none := by simp; omega
    rw [hi1, hi2]
    wp_walk using wpAny_loadPart' hl1, wpAny_loadPart' hb1
    show R (.ok (.ret (.bool (items.size == items2.size)))) _
    rw [hs1, hs2]
    simpa using hR
  | succ k ih =>
    intro i hk hi s h
    obtain ⟨items, items2, n, n2, hl1, hb1, hs1, hs2, turn⟩ := hl _ _ h
    have hlt : i < items.size := by omega
    have hlt2 : i < items2.size := by omega
    have ht := turn hlt hlt2
    obtain ⟨hp, g, d, tk, os⟩ := s
    wp_walk using wpAny_loadPart' hl1, wpAny_loadPart' hb1
    have hi1 : items[((i : Nat) : Int).toNat]? = some items[i] := by simp [hlt]
    have hi2 : items2[((i : Nat) : Int).toNat]? = some items2[i] := by simp [hlt2]
    have hc : ((i : Int) + 1) = ((i + 1 : Nat) : Int) := by omega
    rw [hi1, hi2]
    refine wpAny_bind (wpAny_mono ht (fun r s2 h2 => ?_) fun _ _ x => x)
    rcases h2 with ⟨hr, h2⟩ | ⟨hr, h2⟩
    · subst hr
      have hrec := ih (i + 1) (by omega) (by omega) s2 h2
      obtain ⟨hp2, g2, d2, tk2, os2⟩ := s2
      wp_walk
      rw [hc]
      exact ⟨plainId_quiet plain_eq_loop _, codeAny_builtin entry_eq_loop (by
        rw [Around.under_plainId plain_eq_loop _]
        exact hrec)⟩
    · subst hr
      have hR := ff s2 h2
      obtain ⟨items3, items4, n3, n4, hl3, hb3, hs3, hs4⟩ := hS _ h2
      obtain ⟨hp2, g2, d2, tk2, os2⟩ := s2
      wp_walk using wpAny_loadPart' hl3, wpAny_loadPart' hb3
      have hi1 : items3[((i : Nat) : Int).toNat]? = some (items3[i]'(by omega)) := by simp
      have hi2 : items4[((i : Nat) : Int).toNat]? = some (items4[i]'(by omega)) := by simp
      rw [hi1, hi2]
      wp_walk
      exact hR
theorem list2 (l b : Addr) (N : Nat) (I : Nat → Shared → Prop) (S : Shared → Prop) (hl : TwoL prog w A (fun e s' => R (.error e) s') l b N I S)
    (hS : ∀ s, S s → ∃ (items items2 : Array Value) (n n2 : Nat), s.heap.get? l = some { cls := .type "list", data := .seq items n } ∧ s.heap.get? b = some { cls := .type "list", data := .seq items2 n2 } ∧ items.size = N ∧ items2.size = N)
    (fin : ∀ s, I N s → R (.ok (.ret (.bool true))) s) (ff : ∀ s, S s → R (.ok (.ret (.bool false))) s) {s : Shared} (h : I 0 s) :
    wpAny (model prog w) A.in1 (Builtin.«list.__eq__» ⟨[.ref l, .ref b], []⟩) (GQ.FinOf prog w A R) (fun e s' => R (.error e) s') s := by
  obtain ⟨items, items2, n, n2, hl1, hb1, hs1, hs2, _⟩ := hl _ _ h
  have hrec := loop2 (A := A) (R := R) l b N I S hl hS fin ff _ 0 rfl (Nat.zero_le _) s h
  obtain ⟨hp, g, d, tk, os⟩ := s
  have f3 := AutoSeq1.sub_list_list
  have hne : ¬ (items.size != items2.size) = true := by simp [hs1, hs2]
  wp_walk using wpAny_loadPart' hl1, wpAny_loadPart' hb1
  exact ⟨plainId_quiet plain_eq_loop _, codeAny_builtin entry_eq_loop (by
    rw [Around.under_plainId plain_eq_loop _]
    exact hrec)⟩
theorem list0 (l b : Addr) (items items2 : Array Value) (n n2 : Nat) (hsz : items.size ≠ items2.size) {s : Shared} (hl1 : s.heap.get? l = some { cls := .type "list", data := .seq items n }) (hb1 : s.heap.get? b = some { cls := .type "list", data := .seq items2 n2 })
    (ff : R (.ok (.ret (.bool false))) s) :
    wpAny (model prog w) A.in1 (Builtin.«list.__eq__» ⟨[.ref l, .ref b], []⟩) (GQ.FinOf prog w A R) (fun e s' => R (.error e) s') s := by
  obtain ⟨hp, g, d, tk, os⟩ := s
  have f3 := AutoSeq1.sub_list_list
  have hne : (items.size != items2.size) = true := by simpa using hsz
  wp_walk using wpAny_loadPart' hl1, wpAny_loadPart' hb1
  exact ff
theorem tup2 (l b : Addr) (items items2 : Array Value) (n n2 : Nat) (dd dd2 : Option Addr) (sl sl2 : Array (Option Value)) (I : Nat → Shared → Prop) (S : Shared → Prop)
    (turn : ∀ i (h1 : i < items.size) (h2 : i < items2.size) s, I i s → wpAny (model prog w) A.in1 (eqBool items[i] items2[i]) (fun r s' => (r = true ∧ I (i + 1) s') ∨ (r = false ∧ S s')) (fun e s' => R (.error e) s') s)
    (fin : ∀ s, I (min items.size items2.size) s → R (.ok (.ret (.bool (items.size == items2.size)))) s) (ff : ∀ s, S s → R (.ok (.ret (.bool false))) s) {s : Shared} (hl1 : s.heap.get? l = some { cls := .type "tuple", dict := dd, data := .seq items n, slots := sl }) (hb1 : s.heap.get? b = some { cls := .type "tuple", dict := dd2, data := .seq items2 n2, slots := sl2 }) (h : I 0 s) :
    wpAny (model prog w) A.in1 (Builtin.«tuple.__eq__» ⟨[.ref l, .ref b], []⟩) (GQ.FinOf prog w A R) (fun e s' => R (.error e) s') s := by
  have f2 := AutoSeq1.sub_tuple_tuple
  have hZ : (items.toList.zip items2.toList).length = min items.size items2.size := by simp
  have h0 := h
  obtain ⟨hp, g, d, tk, os⟩ := s
  wp_walk using wpAny_loadPart' hl1, wpAny_loadPart' hb1, wpAny_forIn_list _ (fun rest b s' => b.1 = none ∧ ∃ i, rest = (items.toList.zip items2.toList).drop i ∧ i ≤ min items.size items2.size ∧ I i s') _
  case turn =>
    rintro ⟨y, x⟩ rest b s' ⟨hb', i, hz, hi, hI⟩
    have hlt : i < (items.toList.zip items2.toList).length := by
      rcases Nat.lt_or_ge i (items.toList.zip items2.toList).length with h' | h'
      · exact h'
      · rw [List.drop_of_length_le h'] at hz; cases hz
    have h1 : i < items.size := by omega
    have h2 : i < items2.size := by omega
    rw [List.drop_eq_getElem_cons hlt] at hz
    injection hz with hyx hrest
    have hy : y = items[i] := by have := congrArg Prod.fst hyx; simpa using this
    have hx : x = items2[i] := by have := congrArg Prod.snd hyx; simpa using this
    subst hy hx
    refine wpAny_bind (wpAny_mono (turn i h1 h2 s' hI) (fun r s2 q2 => ?_) fun _ _ x => x)
    rcases q2 with ⟨hr, q2⟩ | ⟨hr, q2⟩
    · subst hr
      wp_walk
      exact ⟨rfl, i + 1, hrest, by omega, q2⟩
    · subst hr
      have hR := ff s2 q2
      wp_walk
      exact hR
  case fin =>
    rintro ⟨b1, b2⟩ s' ⟨hb', i, hz, hi, hI⟩
    simp only at hb'
    subst hb'
    have hge : min items.size items2.size ≤ i := by
      rcases Nat.lt_or_ge i (items.toList.zip items2.toList).length with h' | h'
      · rw [List.drop_eq_getElem_cons h'] at hz; cases hz
      · omega
    have hi' : i = min items.size items2.size := by omega
    have hR := fin s' (hi' ▸ hI)
    wp_walk
    exact hR
  case h => exact ⟨rfl, 0, rfl, Nat.zero_le _, h0⟩
end
section
variable {prog : Program} {w : World} {A : Around} {E : Value → Shared → Prop} {s : Shared}
theorem rc_list2 {l b : Addr} {N : Nat} {Q : Value → Shared → Prop} (hu : A.units < cLine) (I : Nat → Shared → Prop) (S : Shared → Prop) (hl : TwoL prog w A E l b N I S)
    (hS : ∀ s, S s → ∃ (items items2 : Array Value) (n n2 : Nat), s.heap.get? l = some { cls := .type "list", data := .seq items n } ∧ s.heap.get? b = some { cls := .type "list", data := .seq items2 n2 } ∧ items.size = N ∧ items2.size = N)
    (fin : ∀ s, I N s → Q (.bool true) s) (ff : ∀ s, S s → Q (.bool false) s) (h : I 0 s) : wpAny (model prog w) A (richCompare .Eq (.ref l) (.ref b)) Q E s := by
  obtain ⟨items, items2, n, n2, hl1, hb1, _, _, _⟩ := hl _ _ h
  refine wpAny_richCompare_same_room (op := .Eq) ⟨_, hl1, rfl⟩ ⟨_, hb1, rfl⟩ F.slot_list_eq (GQ.call_here F.slot_list_eq ⟨_, hl1, rfl⟩ F.entry_list_eq (F.args_list_eq_2 _ _) ?_) hu
  exact list2 (R := wants (fun v s' => v ≠ .notImplemented ∧ Q v s') E) l b N I S hl hS (fun s' q => ⟨(fun x => nomatch x), fin s' q⟩) (fun s' q => ⟨(fun x => nomatch x), ff s' q⟩) h
theorem rc_list0 {l b : Addr} {items items2 : Array Value} {n n2 : Nat} {Q : Value → Shared → Prop} (hu : A.units < cLine) (hl1 : s.heap.get? l = some { cls := .type "list", data := .seq items n }) (hb1 : s.heap.get? b = some { cls := .type "list", data := .seq items2 n2 }) (hsz : items.size ≠ items2.size)
    (h : Q (.bool false) s) : wpAny (model prog w) A (richCompare .Eq (.ref l) (.ref b)) Q E s := by
  refine wpAny_richCompare_same_room (op := .Eq) ⟨_, hl1, rfl⟩ ⟨_, hb1, rfl⟩ F.slot_list_eq (GQ.call_here F.slot_list_eq ⟨_, hl1, rfl⟩ F.entry_list_eq (F.args_list_eq_2 _ _) ?_) hu
  exact list0 (R := wants (fun v s' => v ≠ .notImplemented ∧ Q v s') E) l b items items2 n n2 hsz hl1 hb1 ⟨(fun x => nomatch x), h⟩
theorem rc_tup2 {l b : Addr} {items items2 : Array Value} {Q : Value → Shared → Prop} (hu : A.units < cLine) (I : Nat → Shared → Prop) (S : Shared → Prop)
    (hl : s.heap.IsTuple l items) (hb : s.heap.IsTuple b items2)
    (turn : ∀ i (h1 : i < items.size) (h2 : i < items2.size) s, I i s → wpAny (model prog w) A.in1 (eqBool items[i] items2[i]) (fun r s' => (r = true ∧ I (i + 1) s') ∨ (r = false ∧ S s')) E s)
    (fin : ∀ s, I (min items.size items2.size) s → Q (.bool (items.size == items2.size)) s) (ff : ∀ s, S s → Q (.bool false) s) (h : I 0 s) : wpAny (model prog w) A (richCompare .Eq (.ref l) (.ref b)) Q E s := by
  obtain ⟨⟨cls, dd, data, sl⟩, ho, hc, n, hd⟩ := id hl
  obtain ⟨⟨cls2, dd2, data2, sl2⟩, ho2, hc2, n2, hd2⟩ := id hb
  simp only at hc hd hc2 hd2
  subst hc hd hc2 hd2
  refine wpAny_richCompare_same_room (op := .Eq) ⟨_, ho, rfl⟩ ⟨_, ho2, rfl⟩ F.slot_tuple_eq (GQ.call_here F.slot_tuple_eq ⟨_, ho, rfl⟩ F.entry_tuple_eq (F.args_tuple_eq_2 _ _) ?_) hu
  exact tup2 (R := wants (fun v s' => v ≠ .notImplemented ∧ Q v s') E) l b items items2 n n2 dd dd2 sl sl2 I S turn (fun s' q => ⟨(fun x => nomatch x), fin s' q⟩) (fun s' q => ⟨(fun x => nomatch x), ff s' q⟩) ho ho2 h
end
end PdB
end
section
set_option autoImplicit false
set_option Elab.async false
set_option linter.all false
set_option autoImplicit false
set_option maxRecDepth 100000
set_option maxHeartbeats 4000000
/-! Pd26: == of data deep down, instances with their own __eq__ among it. -/
namespace Pd
open PySem PySem.Spec PyProof.Rows L2
mutual
@[simp] def D.nsc : D → Bool
  | .lst ds => D.nscL ds
  | .tup ds => D.nscL ds
  | .ins _ _ xs => D.nscL xs
  | .dk _ _ => false
  | .dt _ _ => false
  | .scr _ => false
  | _ => true
@[simp] def D.nscL : List D → Bool
  | [] => true
  | d :: ds => d.nsc && D.nscL ds
end
section
variable {X : Cx} {pins : List (Addr × Obj)} {σ : L2.St} {H P : Hp} {s : Shared} {a : Addr}
theorem no_lt (I : Inv X pins σ H s) {xs ys : List V} (h : H a = some (.lst xs)) (g : SqT X.K H a ys) : False := by
  obtain ⟨its, r, ⟨o, e, c, _⟩, _⟩ := I.tuple g
  obtain ⟨_, its2, n, _, e2⟩ := I.hok a _ h
  rw [e] at e2
  cases e2
  exact absurd c (by simp)
theorem no_it (I : Inv X pins σ H s) {C dx : Addr} {fs : List (Str × V)} {ys : List V} (h : H a = some (.ins C dx fs)) (g : SqT X.K H a ys) : False := by
  obtain ⟨its, r, ⟨o, e, c, _⟩, _⟩ := I.tuple g
  obtain ⟨_, _, _, e2, _⟩ := I.hok a _ h
  rw [e] at e2
  cases e2
  exact absurd c (by simp [PySem.W.instObj])
theorem zip_inj {α β : Type} : ∀ {ns ms : List α} {xs ys : List β}, xs.length = ns.length → ys.length = ms.length → ns.zip xs = ms.zip ys → ns = ms ∧ xs = ys
  | [], [], xs, ys, h, g, _ => by
    cases xs <;> cases ys <;> simp_all
  | [], m :: ms, xs, ys, h, g, e => by
    cases ys with
    | nil => simp at g
    | cons y ys => cases xs <;> simp at e
  | n :: ns, [], xs, ys, h, g, e => by
    cases xs with
    | nil => simp at h
    | cons x xs => cases ys <;> simp at e
  | n :: ns, m :: ms, xs, ys, h, g, e => by
    cases xs with
    | nil => simp at h
    | cons x xs =>
      cases ys with
      | nil => simp at g
      | cons y ys =>
        simp only [List.zip_cons_cons, List.cons.injEq, Prod.mk.injEq] at e
        obtain ⟨⟨rfl, rfl⟩, e⟩ := e
        obtain ⟨rfl, rfl⟩ := zip_inj (by simpa using h) (by simpa using g) e
        exact ⟨rfl, rfl⟩
mutual
/-- what stands at a place is one thing -/
theorem Rp.inj (I : Inv X pins σ H s) (S : Sub P H) : ∀ (d e : D) (v : V), d.nsc = true → e.nsc = true → Rp X.K P d v → Rp X.K P e v → d = e
  | .non, e, v, _, he, h1, h2 => by
    cases h1
    cases e <;> simp_all [Rp]
  | .bl _, e, v, _, he, h1, h2 => by
    cases h1
    cases e <;> simp_all [Rp]
  | .int _, e, v, _, he, h1, h2 => by
    cases h1
    cases e <;> simp_all [Rp]
  | .str _, e, v, _, he, h1, h2 => by
    cases h1
    cases e <;> simp_all [Rp]
  | .lst ds, e, v, hd, he, h1, h2 => by
    obtain ⟨a, xs, rfl, ha, hl⟩ := h1
    cases e with
    | lst es =>
      obtain ⟨b, ys, e1, hb, hl2⟩ := h2
      cases e1
      rw [ha] at hb
      cases hb
      rw [RpL.inj I S ds es xs hd he hl hl2]
    | tup es =>
      obtain ⟨b, ys, e1, hb, hl2⟩ := h2
      cases e1
      exact (no_lt I (S _ _ ha) (sub_t S hb)).elim
    | ins C ns es =>
      obtain ⟨b, dx, ys, e1, hb, _⟩ := h2
      cases e1
      rw [ha] at hb
      cases hb
    | dk _ _ => simp at he
    | dt _ _ => simp at he
    | scr _ => simp at he
    | _ => simp [Rp] at h2
  | .tup ds, e, v, hd, he, h1, h2 => by
    obtain ⟨a, xs, rfl, ha, hl⟩ := h1
    cases e with
    | lst es =>
      obtain ⟨b, ys, e1, hb, hl2⟩ := h2
      cases e1
      exact (no_lt I (S _ _ hb) (sub_t S ha)).elim
    | tup es =>
      obtain ⟨b, ys, e1, hb, hl2⟩ := h2
      cases e1
      have e2 := I.tuple_inj (sub_t S ha) (sub_t S hb)
      subst e2
      rw [RpL.inj I S ds es xs hd he hl hl2]
    | ins C ns es =>
      obtain ⟨b, dx, ys, e1, hb, _⟩ := h2
      cases e1
      exact (no_it I (S _ _ hb) (sub_t S ha)).elim
    | dk _ _ => simp at he
    | dt _ _ => simp at he
    | scr _ => simp at he
    | _ => simp [Rp] at h2
  | .ins C ns ds, e, v, hd, he, h1, h2 => by
    obtain ⟨a, dx, xs, rfl, ha, hn, hl⟩ := h1
    cases e with
    | lst es =>
      obtain ⟨b, ys, e1, hb, hl2⟩ := h2
      cases e1
      rw [ha] at hb
      cases hb
    | tup es =>
      obtain ⟨b, ys, e1, hb, hl2⟩ := h2
      cases e1
      exact (no_it I (S _ _ ha) (sub_t S hb)).elim
    | ins C' ns' es =>
      obtain ⟨b, dx', ys, e1, hb, hn', hl2⟩ := h2
      cases e1
      rw [ha] at hb
      injection hb with hb
      injection hb with h1 h2 h3
      subst h1
      obtain ⟨rfl, rfl⟩ := zip_inj hn hn' h3
      rw [RpL.inj I S ds es xs hd he hl hl2]
    | dk _ _ => simp at he
    | dt _ _ => simp at he
    | scr _ => simp at he
    | _ => simp [Rp] at h2
  | .dk _ _, e, v, hd, he, h1, h2 => by simp at hd
  | .dt _ _, e, v, hd, he, h1, h2 => by simp at hd
  | .scr _, e, v, hd, he, h1, h2 => by simp at hd
theorem RpL.inj (I : Inv X pins σ H s) (S : Sub P H) : ∀ (ds es : List D) (vs : List V), D.nscL ds = true → D.nscL es = true → RpL X.K P ds vs → RpL X.K P es vs → ds = es
  | [], es, vs, _, he, h1, h2 => by
    cases h1
    cases es with
    | nil => rfl
    | cons e es =>
      obtain ⟨v, r, e1, _⟩ := h2
      cases e1
  | d :: ds, es, vs, hd, he, h1, h2 => by
    obtain ⟨v, r, rfl, g1, g2⟩ := h1
    cases es with
    | nil => cases h2
    | cons e es =>
      obtain ⟨v', r', e1, k1, k2⟩ := h2
      cases e1
      simp at hd he
      rw [Rp.inj I S d e v hd.1 he.1 g1 k1, RpL.inj I S ds es r hd.2 he.2 g2 k2]
end
end
/-! ### == by data -/
mutual
/-- == of d and e is b; G tells it of instances; n levels are left -/
inductive EqD (G : Nat → D → D → Bool → Prop) : Nat → D → D → Bool → Prop
  | plain {n : Nat} {d e : D} {p q : PyData} : d.py = some p → e.py = some q → min p.depth q.depth ≤ 60 → EqD G n d e (PyData.eqv p q)
  | own {n : Nat} {d e : D} {b : Bool} : G n d e b → EqD G n d e b
  | lst {n : Nat} {ds es : List D} {b : Bool} : ds.length = es.length → EqT G n ds es b → EqD G (n + 1) (.lst ds) (.lst es) b
  | len {n : Nat} {ds es : List D} : ds.length ≠ es.length → EqD G n (.lst ds) (.lst es) false
  | tup {n : Nat} {ds es : List D} {b : Bool} : EqT G n ds es b → EqD G (n + 1) (.tup ds) (.tup es) b
inductive EqT (G : Nat → D → D → Bool → Prop) : Nat → List D → List D → Bool → Prop
  | nn {n : Nat} : EqT G n [] [] true
  | nc {n : Nat} {e : D} {es : List D} : EqT G n [] (e :: es) false
  | cn {n : Nat} {d : D} {ds : List D} : EqT G n (d :: ds) [] false
  | ff {n : Nat} {d e : D} {ds es : List D} : EqD G n d e false → EqT G n (d :: ds) (e :: es) false
  | tt {n : Nat} {d e : D} {ds es : List D} {b : Bool} : EqD G n d e true → EqT G n ds es b → EqT G n (d :: ds) (e :: es) b
end
section
variable {G : Nat → D → D → Bool → Prop}
mutual
theorem EqD.refl (hG : ∀ n d b, G n d d b → b = true) : ∀ {n : Nat} {d e : D} {b : Bool}, EqD G n d e b → d = e → b = true
  | _, _, _, _, .plain (p := p) (q := q) h1 h2 _, e => by
    subst e
    rw [h1] at h2
    cases h2
    exact PySem.SeqAt.eqv_refl_plain p (D.py_plain _ p h1)
  | _, _, _, _, .own h, e => by
    subst e
    exact hG _ _ _ h
  | _, _, _, _, .lst _ h, e => by
    injection e with e
    exact EqT.refl hG h e
  | _, _, _, _, .len h, e => by
    injection e with e
    exact absurd (congrArg List.length e) h
  | _, _, _, _, .tup h, e => by
    injection e with e
    exact EqT.refl hG h e
theorem EqT.refl (hG : ∀ n d b, G n d d b → b = true) : ∀ {n : Nat} {ds es : List D} {b : Bool}, EqT G n ds es b → ds = es → b = true
  | _, _, _, _, .nn, _ => rfl
  | _, _, _, _, .nc, e => by cases e
  | _, _, _, _, .cn, e => by cases e
  | _, _, _, _, .ff h, e => by
    injection e with e1 e2
    exact EqD.refl hG h e1
  | _, _, _, _, .tt h g, e => by
    injection e with e1 e2
    exact EqT.refl hG g e2
end
end
end Pd
end
section
set_option autoImplicit false
set_option Elab.async false
set_option linter.all false
set_option autoImplicit false
set_option maxRecDepth 100000
set_option maxHeartbeats 4000000
/-! Pd27: a == b, a != b where instances with their own __eq__ stand deep inside of lists and tuples. -/
namespace Pd
open PySem PySem.Spec PyProof.Rows L2
/-- somewhere below the running body, with room -/
structure Dn (X : Cx) (n : Nat) (A : Around) : Prop where
  room : Room n A
  fr : A.frames = X.A.frames
  gd : A.guards = some []
theorem Dn.in1 {X : Cx} {n : Nat} {A : Around} (h : Dn X (n + 1) A) : Dn X n A.in1 := ⟨h.room.in1, h.fr, h.gd⟩
/-- what is told of instances: each class has its promise -/
def GOf (K : PySem.W.Frag) (k : Nat) (l : List (Addr × Ct)) (n : Nat) (d e : D) (b : Bool) : Prop :=
  k ≤ n ∧ d.nsc = true ∧ e.nsc = true ∧ ∃ C ct ns xs, (C, ct) ∈ l ∧ d = .ins C ns xs ∧ D.okTy K e ∧ PySem.W.notFirst K C e.ty = true ∧ ct.c [some d, some e] (fun z => z = .bl b) fun _ => False
/-- classes with own __eq__ that keep their promises, an instance is equal to itself -/
structure Gs (P : Program) (w : World) (K : PySem.W.Frag) (mg : Str → Option Value) (base : Heap) (k : Nat) (l : List (Addr × Ct)) : Prop where
  eq : ∀ C ct, (C, ct) ∈ l → EqG P w K mg base k C ct
  same : ∀ C ct, (C, ct) ∈ l → ∀ ns xs b, ct.c [some (.ins C ns xs), some (.ins C ns xs)] (fun z => z = .bl b) (fun _ => False) → b = true
section
variable {X : Cx} {k : Nat} {l : List (Addr × Ct)} {pins : List (Addr × Obj)} {σ : L2.St} {s : Shared} {H P : Hp}
theorem GOf.refl {K : PySem.W.Frag} {w : World} {Pr : Program} {mg : Str → Option Value} {base : Heap} (T : Gs Pr w K mg base k l) : ∀ n d b, GOf K k l n d d b → b = true := fun n d b ⟨_, _, _, C, ct, ns, xs, h1, e, _, _, h⟩ => by
  subst e
  exact T.same C ct h1 ns xs b h
/-- in a builtin: the same thing, or by the rich comparison -/
theorem eqBool_of {A : Around} {a : Addr} {v : Value} {b : Bool} {Q : Bool → Shared → Prop} {E : Value → Shared → Prop} {pr : Program} {w : World} (q0 : Value.ref a = v → Q true s) (h : wpAny (model pr w) A (richCompare .Eq (.ref a) v) (fun r s' => r = .bool b ∧ Q b s') E s) :
    wpAny (model pr w) A (eqBool (.ref a) v) Q E s := by
  by_cases e : (Value.ref a == v) = true
  · have e' := eq_of_beq e
    subst e'
    exact SeqAt.EqAt.same (A := A) (s := s) (.ref a) pr w E _ (q0 rfl)
  · unfold eqBool
    refine wpAny_holding ?_
    refine wpAny_ite_split (fun hab => absurd hab e) (fun _ => ?_)
    have fin : wpAny (model pr w) A (do let r ← richCompare .Eq (.ref a) v; truthOfDropped r) Q E s := by
      refine wpAny_bind (wpAny_mono h (fun v s' hv => ?_) fun _ _ x => x)
      obtain ⟨rfl, q⟩ := hv
      exact wpAny_truthy_bool q
    cases v <;> exact fin
/-- what the loop over the items keeps -/
def Lp (X : Cx) (pins : List (Addr × Obj)) (σ : L2.St) (H : Hp) (s : Shared) : Prop := ∃ H', Inv X pins σ H' s ∧ Sub H H'
theorem rc_own (T : Gs X.prog X.w X.K X.mg X.base k l) {n : Nat} {d e : D} {b : Bool} (h : GOf X.K k l n d e b) {A : Around} (D' : Dn X n A) (I : Inv X pins σ H s) (S : Sub P H) {x y : V} {u v : Value} (rx : RelV x u) (ry : RelV y v) (hx : Rp X.K P d x) (hy : Rp X.K P e y) :
    wpAny (model X.prog X.w) A (richCompare .Eq u v) (fun r s' => r = .bool b ∧ Lp X pins σ H s') X.xe s := by
  obtain ⟨hk, _, _, C, ct, ns, xs, hm, rfl, ot, hn, q⟩ := h
  have TE := T.eq C ct hm
  obtain ⟨f, fd, ps, te, F, bb⟩ := TE.ex
  obtain ⟨a, dx, vs, rfl, h1, h2, h3⟩ := id hx
  obtain rfl : u = Value.ref a := rx
  have ha := S _ _ h1
  obtain ⟨mA, J, _⟩ := ins_get I.hok ha
  obtain ⟨od, J, _⟩ := J.look
  obtain ⟨m, hF⟩ := I.fr
  obtain ⟨Pq, KX, hP, _⟩ := kit_of I ry (tyx_of (Rp.mono S e y hy) ot)
  have hu : A.units < cLine := by have := D'.room.units; omega
  have sp : spC X.K 2 ct [.ref a, y] H (fun z H' => z = .bl b ∧ Sub H H') (fun _ _ _ => False) := by
    refine ⟨P, fun _ => False, 0, [some (.ins C ns xs), some e], S, by decide, ⟨_, _, rfl, hx, _, _, rfl, hy, rfl⟩, rfl, trivial, fun a z => z.elim, ?_⟩
    exact TE.mono _ _ _ _ _ (fun z qz v H' P' po rv => by
      subst qz
      exact ⟨rv, fun a o e => po.keep a o e fun z => z⟩) (fun _ z => z.elim) q
  refine PySem.W.cmp_K (op := .Eq) hu hF I.ok.mod.kin J (KX.ty _ _ I.kIn hP) hn te.eq te.fn (thn (run_own D'.fr (D'.room.mono hk) D'.gd F bb I (.cons (show RelV (V.ref a) (Value.ref a) from rfl) (.cons ry .nil)) sp) fun r s' q => ?_)
  obtain ⟨w, H', I', rw', ew, q⟩ := q
  subst ew
  cases rw'
  exact ⟨rfl, H', I', q⟩
end
end Pd
end
section
set_option autoImplicit false
set_option Elab.async false
set_option linter.all false
set_option autoImplicit false
set_option maxRecDepth 100000
set_option maxHeartbeats 4000000
/-! Pd28: the loops of == over data. -/
namespace Pd
open PySem PySem.Spec PyProof.Rows L2
theorem nscL_get : ∀ {ds : List D} {i : Nat} {d : D}, D.nscL ds = true → ds[i]? = some d → d.nsc = true
  | [], _, _, _, e => by simp at e
  | d :: ds, 0, _, h, e => by
    simp at e h
    subst e
    exact h.1
  | d :: ds, i + 1, _, h, e => by
    simp at h
    exact nscL_get h.2 (by simpa using e)
/-- where a loop over two lists ends -/
theorem EqT.ends {G : Nat → D → D → Bool → Prop} {n : Nat} : ∀ {ds es : List D} {b : Bool}, EqT G n ds es b →
    ∃ m : Nat, m ≤ min ds.length es.length ∧ (∀ (i : Nat) (d e : D), i < m → ds[i]? = some d → es[i]? = some e → EqD G n d e true) ∧
      ((b = true ∧ m = ds.length ∧ ds.length = es.length) ∨ (b = false ∧ m = min ds.length es.length ∧ ds.length ≠ es.length) ∨ (b = false ∧ ∃ d e, ds[m]? = some d ∧ es[m]? = some e ∧ EqD G n d e false))
  | _, _, _, .nn => ⟨0, by simp, fun i d e h => by omega, .inl ⟨rfl, rfl, rfl⟩⟩
  | _, _, _, .nc => ⟨0, by simp, fun i d e h => by omega, .inr (.inl ⟨rfl, by simp, by simp⟩)⟩
  | _, _, _, .cn => ⟨0, by simp, fun i d e h => by omega, .inr (.inl ⟨rfl, by simp, by simp⟩)⟩
  | _, _, _, .ff h => ⟨0, by simp, fun i d e h => by omega, .inr (.inr ⟨rfl, _, _, rfl, rfl, h⟩)⟩
  | _, _, _, .tt (ds := ds) (es := es) h g => by
    obtain ⟨m, h1, h2, h3⟩ := EqT.ends g
    refine ⟨m + 1, by simp; omega, fun i d e hi e1 e2 => ?_, ?_⟩
    · cases i with
      | zero =>
        simp at e1 e2
        subst e1 e2
        exact h
      | succ i => exact h2 i d e (by omega) (by simpa using e1) (by simpa using e2)
    · rcases h3 with ⟨a, b, c⟩ | ⟨a, b, c⟩ | ⟨a, d, e, b, c, z⟩
      · exact .inl ⟨a, by simp [b], by simp [c]⟩
      · exact .inr (.inl ⟨a, by simp; omega, by simpa using c⟩)
      · exact .inr (.inr ⟨a, d, e, by simpa using b, by simpa using c, z⟩)
section
variable {X : Cx} {k : Nat} {l : List (Addr × Ct)} {pins : List (Addr × Obj)} {σ : L2.St}
/-- == in a builtin, of data, at the n-th level -/
def Bq (X : Cx) (G : Nat → D → D → Bool → Prop) (n : Nat) : Prop := ∀ (d e : D) (b : Bool), EqD G n d e b → ∀ (A : Around) (pins : List (Addr × Obj)) (σ : L2.St) (s : Shared) (H P : Hp) (x y : V) (u v : Value), Dn X n A → Inv X pins σ H s → Sub P H → RelV x u → RelV y v → Rp X.K P d x → Rp X.K P e y → d.nsc = true → e.nsc = true →
  wpAny (model X.prog X.w) A (eqBool u v) (fun r s' => r = b ∧ Lp X pins σ H s') X.xe s
def Rq (X : Cx) (G : Nat → D → D → Bool → Prop) (n : Nat) : Prop := ∀ (d e : D) (b : Bool), EqD G n d e b → ∀ (A : Around) (pins : List (Addr × Obj)) (σ : L2.St) (s : Shared) (H P : Hp) (x y : V) (u v : Value), Dn X n A → Inv X pins σ H s → Sub P H → RelV x u → RelV y v → Rp X.K P d x → Rp X.K P e y → d.nsc = true → e.nsc = true →
  wpAny (model X.prog X.w) A (richCompare .Eq u v) (fun r s' => r = .bool b ∧ Lp X pins σ H s') X.xe s
theorem turnD {G : Nat → D → D → Bool → Prop} {n : Nat} (B : Bq X G n) {A : Around} (dn : Dn X (n + 1) A) {H P : Hp} {ds es : List D} {xs ys : List V} {its its2 : List Value} {b : Bool} {m : Nat} (S : Sub P H) (h1 : RpL X.K P ds xs) (h2 : RpL X.K P es ys) (n1 : D.nscL ds = true) (n2 : D.nscL es = true)
    (r1 : Vals xs its) (r2 : Vals ys its2) (h3 : ∀ (i : Nat) (d e : D), i < m → ds[i]? = some d → es[i]? = some e → EqD G n d e true)
    (h4 : (b = true ∧ m = ds.length ∧ ds.length = es.length) ∨ (b = false ∧ m = min ds.length es.length ∧ ds.length ≠ es.length) ∨ (b = false ∧ ∃ d e, ds[m]? = some d ∧ es[m]? = some e ∧ EqD G n d e false))
    (i : Nat) (k1 : i < its.toArray.size) (k2 : i < its2.toArray.size) (s' : Shared) (q : i ≤ m ∧ Lp X pins σ H s') :
    wpAny (model X.prog X.w) A.in1 (eqBool its.toArray[i] its2.toArray[i]) (fun r s2 => (r = true ∧ (i + 1 ≤ m ∧ Lp X pins σ H s2)) ∨ (r = false ∧ (b = false ∧ Lp X pins σ H s2))) X.xe s' := by
  obtain ⟨hi, H1, I1, e1⟩ := q
  have g1 : its[i]? = some its.toArray[i] := by
    have h1' : i < its.length := by simpa using k1
    rw [List.getElem?_eq_getElem h1'] <;> simp
  have g2 : its2[i]? = some its2.toArray[i] := by
    have h2' : i < its2.length := by simpa using k2
    rw [List.getElem?_eq_getElem h2'] <;> simp
  have l1 := h1.length
  have l2 := h2.length
  have j1 : i < xs.length := by rw [r1.length]; simpa using k1
  have j2 : i < ys.length := by rw [r2.length]; simpa using k2
  obtain ⟨u, hu, ru⟩ := r1.get (List.getElem?_eq_getElem j1)
  obtain ⟨v, hv, rv⟩ := r2.get (List.getElem?_eq_getElem j2)
  obtain ⟨d, hd, rd⟩ := h1.get (List.getElem?_eq_getElem j1)
  obtain ⟨e, he, re⟩ := h2.get (List.getElem?_eq_getElem j2)
  rw [g1] at hu
  rw [g2] at hv
  rw [Option.some.inj hu, Option.some.inj hv]
  have c1 := nscL_get n1 hd
  have c2 := nscL_get n2 he
  by_cases z : i < m
  · refine wpAny_mono (B d e true (h3 i d e z hd he) A.in1 pins σ s' H1 P _ _ u v dn.in1 I1 (S.trans e1) ru rv rd re c1 c2) (fun r s2 q => ?_) fun _ _ x => x
    obtain ⟨hr, H2, I2, e2⟩ := q
    exact .inl ⟨hr, z, H2, I2, e1.trans e2⟩
  · have em : i = m := by omega
    subst em
    rcases h4 with ⟨_, c, _⟩ | ⟨_, c, _⟩ | ⟨hb, d', e', hd', he', hq⟩
    · omega
    · omega
    · rw [hd] at hd'
      rw [he] at he'
      cases hd'
      cases he'
      refine wpAny_mono (B d e false hq A.in1 pins σ s' H1 P _ _ u v dn.in1 I1 (S.trans e1) ru rv rd re c1 c2) (fun r s2 q => ?_) fun _ _ x => x
      obtain ⟨hr, H2, I2, e2⟩ := q
      exact .inr ⟨hr, hb, H2, I2, e1.trans e2⟩
theorem list_at {s : Shared} {H : Hp} {a : Addr} {xs : List V} (I : Inv X pins σ H s) (h : H a = some (.lst xs)) : ∃ (its : List Value) (n : Nat), Vals xs its ∧ s.heap.get? a = some { cls := .type "list", data := .seq its.toArray n } := by
  obtain ⟨z, its, n, r, e⟩ := I.hok a _ h
  exact ⟨its, n, r, e⟩
theorem rq_lst {G : Nat → D → D → Bool → Prop} {n : Nat} (B : Bq X G n) {A : Around} (dn : Dn X (n + 1) A) {s : Shared} {H P : Hp} {ds es : List D} {b : Bool} (hl : ds.length = es.length) (ht : EqT G n ds es b) (I : Inv X pins σ H s) (S : Sub P H) {x y : V} {u v : Value} (rx : RelV x u) (ry : RelV y v) (hx : Rp X.K P (.lst ds) x) (hy : Rp X.K P (.lst es) y) (n1 : D.nscL ds = true) (n2 : D.nscL es = true) :
    wpAny (model X.prog X.w) A (richCompare .Eq u v) (fun r s' => r = .bool b ∧ Lp X pins σ H s') X.xe s := by
  obtain ⟨a, xs, rfl, ha, h1⟩ := hx
  obtain ⟨c, ys, rfl, hc, h2⟩ := hy
  cases rx
  cases ry
  obtain ⟨m, hm, h3, h4⟩ := ht.ends
  have hu : A.units < cLine := by have := dn.room.units; omega
  have l1 := h1.length
  have l2 := h2.length
  refine PdB.rc_list2 (N := ds.length) hu (fun i s' => i ≤ m ∧ Lp X pins σ H s') (fun s' => b = false ∧ Lp X pins σ H s') (fun i s' q => ?_) (fun s' q => ?_) (fun s' q => ?_) (fun s' q => ?_) ⟨Nat.zero_le _, H, I, fun _ _ h => h⟩
  · obtain ⟨hi, H1, I1, e1⟩ := id q
    obtain ⟨its, k, r, e⟩ := list_at I1 (e1 _ _ (S _ _ ha))
    obtain ⟨its2, k2, r2, e2⟩ := list_at I1 (e1 _ _ (S _ _ hc))
    refine ⟨its.toArray, its2.toArray, k, k2, e, e2, by rw [List.size_toArray, ← r.length, l1], by rw [List.size_toArray, ← r2.length, l2, hl], fun k1 k2 => ?_⟩
    exact turnD B dn S h1 h2 n1 n2 r r2 h3 h4 i k1 k2 s' q
  · obtain ⟨hb, H1, I1, e1⟩ := q
    obtain ⟨its, k, r, e⟩ := list_at I1 (e1 _ _ (S _ _ ha))
    obtain ⟨its2, k2, r2, e2⟩ := list_at I1 (e1 _ _ (S _ _ hc))
    exact ⟨its.toArray, its2.toArray, k, k2, e, e2, by rw [List.size_toArray, ← r.length, l1], by rw [List.size_toArray, ← r2.length, l2, hl]⟩
  · rcases h4 with ⟨hb, _, _⟩ | ⟨_, _, c⟩ | ⟨_, d, e, c1, _, _⟩
    · exact ⟨by rw [hb], q.2⟩
    · exact absurd hl c
    · have := (List.getElem?_eq_some_iff.mp c1).1
      have := q.1
      omega
  · exact ⟨by rw [q.1], q.2⟩
theorem rq_tup {G : Nat → D → D → Bool → Prop} {n : Nat} (B : Bq X G n) {A : Around} (dn : Dn X (n + 1) A) {s : Shared} {H P : Hp} {ds es : List D} {b : Bool} (ht : EqT G n ds es b) (I : Inv X pins σ H s) (S : Sub P H) {x y : V} {u v : Value} (rx : RelV x u) (ry : RelV y v) (hx : Rp X.K P (.tup ds) x) (hy : Rp X.K P (.tup es) y) (n1 : D.nscL ds = true) (n2 : D.nscL es = true) :
    wpAny (model X.prog X.w) A (richCompare .Eq u v) (fun r s' => r = .bool b ∧ Lp X pins σ H s') X.xe s := by
  obtain ⟨a, xs, rfl, ha, h1⟩ := hx
  obtain ⟨c, ys, rfl, hc, h2⟩ := hy
  cases rx
  cases ry
  obtain ⟨m, hm, h3, h4⟩ := ht.ends
  have hu : A.units < cLine := by have := dn.room.units; omega
  have l1 := h1.length
  have l2 := h2.length
  obtain ⟨its, r, e, z⟩ := I.tuple (sub_t S ha)
  obtain ⟨its2, r2, e2, z2⟩ := I.tuple (sub_t S hc)
  have q1 : its.toArray.size = ds.length := by rw [List.size_toArray, ← r.length, l1]
  have q2 : its2.toArray.size = es.length := by rw [List.size_toArray, ← r2.length, l2]
  refine PdB.rc_tup2 hu (fun i s' => i ≤ m ∧ Lp X pins σ H s') (fun s' => b = false ∧ Lp X pins σ H s') e e2 (fun i k1 k2 s' q => turnD B dn S h1 h2 n1 n2 r r2 h3 h4 i k1 k2 s' q) (fun s' q => ?_) (fun s' q => ?_) ⟨Nat.zero_le _, H, I, fun _ _ h => h⟩
  · rw [q1, q2] at q ⊢
    rcases h4 with ⟨hb, _, c⟩ | ⟨hb, _, c⟩ | ⟨_, d, e, c1, c2, _⟩
    · exact ⟨by rw [hb, c]; simp, q.2⟩
    · exact ⟨by rw [hb]; simpa using c, q.2⟩
    · have := (List.getElem?_eq_some_iff.mp c1).1
      have := (List.getElem?_eq_some_iff.mp c2).1
      have := q.1
      omega
  · exact ⟨by rw [q.1], q.2⟩
theorem rq_len {A : Around} {n : Nat} (dn : Dn X n A) {s : Shared} {H P : Hp} {ds es : List D} (hl : ds.length ≠ es.length) (I : Inv X pins σ H s) (S : Sub P H) {x y : V} {u v : Value} (rx : RelV x u) (ry : RelV y v) (hx : Rp X.K P (.lst ds) x) (hy : Rp X.K P (.lst es) y) :
    wpAny (model X.prog X.w) A (richCompare .Eq u v) (fun r s' => r = .bool false ∧ Lp X pins σ H s') X.xe s := by
  obtain ⟨a, xs, rfl, ha, h1⟩ := hx
  obtain ⟨c, ys, rfl, hc, h2⟩ := hy
  cases rx
  cases ry
  have hu : A.units < cLine := by have := dn.room.units; omega
  have l1 := h1.length
  have l2 := h2.length
  obtain ⟨its, k, r, e⟩ := list_at I (S _ _ ha)
  obtain ⟨its2, k2, r2, e2⟩ := list_at I (S _ _ hc)
  have q1 : its.toArray.size = ds.length := by rw [List.size_toArray, ← r.length, l1]
  have q2 : its2.toArray.size = es.length := by rw [List.size_toArray, ← r2.length, l2]
  exact PdB.rc_list0 hu e e2 (by rw [q1, q2]; exact hl) ⟨rfl, H, I, fun _ _ h => h⟩
theorem rq_of (T : Gs X.prog X.w X.K X.mg X.base k l) {n : Nat} (B : ∀ m, m < n → Bq X (GOf X.K k l) m) : Rq X (GOf X.K k l) n := by
  intro d e b h A pins σ s H P x y u v dn I S rx ry hx hy n1 n2
  cases h with
  | plain h1 h2 h3 =>
    rename_i p q
    obtain ⟨as, r1⟩ := Dp.reads I p x u (Rp.dp d p x h1 (Rp.mono S d x hx)) rx
    obtain ⟨bs, r2⟩ := Dp.reads I q y v (Rp.dp e q y h2 (Rp.mono S e y hy)) ry
    have hu := dn.room.units
    exact PySem.SeqAt.eq_plain r1 r2 (D.py_plain _ _ h1) (D.py_plain _ _ h2) (by omega) ⟨rfl, H, I, fun _ _ h => h⟩
  | own h => exact rc_own T h dn I S rx ry hx hy
  | lst hl h => exact rq_lst (B _ (Nat.lt_succ_self _)) dn hl h I S rx ry hx hy (by simpa using n1) (by simpa using n2)
  | len hl => exact rq_len dn hl I S rx ry hx hy
  | tup h => exact rq_tup (B _ (Nat.lt_succ_self _)) dn h I S rx ry hx hy (by simpa using n1) (by simpa using n2)
theorem bq_of (T : Gs X.prog X.w X.K X.mg X.base k l) {n : Nat} (R : Rq X (GOf X.K k l) n) : Bq X (GOf X.K k l) n := by
  intro d e b h A pins σ s H P x y u v dn I S rx ry hx hy n1 n2
  have main : (∃ a, u = .ref a) → wpAny (model X.prog X.w) A (eqBool u v) (fun r s' => r = b ∧ Lp X pins σ H s') X.xe s := fun ⟨a, ea⟩ => by
    subst ea
    refine eqBool_of (b := b) (fun ev => ⟨?_, H, I, fun _ _ h => h⟩) (wpAny_mono (R d e b h A pins σ s H P x y _ v dn I S rx ry hx hy n1 n2) (fun r s' q => ⟨q.1, rfl, q.2⟩) fun _ _ z => z)
    have exy : x = y := rx.inj (by rw [ev]; exact ry)
    subst exy
    exact (h.refl (GOf.refl T) (Rp.inj I S d e x n1 n2 hx hy)).symm
  cases h with
  | plain h1 h2 h3 =>
    rename_i p q
    obtain ⟨as, r1⟩ := Dp.reads I p x u (Rp.dp d p x h1 (Rp.mono S d x hx)) rx
    obtain ⟨bs, r2⟩ := Dp.reads I q y v (Rp.dp e q y h2 (Rp.mono S e y hy)) ry
    have hu := dn.room.units
    exact PySem.SeqAt.eqAt_plain p q A s u v as bs r1 r2 (D.py_plain _ _ h1) (D.py_plain _ _ h2) (by omega) X.prog X.w X.xe _ ⟨rfl, H, I, fun _ _ h => h⟩
  | own h =>
    obtain ⟨_, _, _, C, ct, ns, xs, _, rfl, _⟩ := h
    obtain ⟨a, dx, vs, rfl, _⟩ := hx
    exact main ⟨a, rx⟩
  | lst hl h =>
    obtain ⟨a, xs, rfl, _⟩ := hx
    exact main ⟨a, rx⟩
  | len hl =>
    obtain ⟨a, xs, rfl, _⟩ := hx
    exact main ⟨a, rx⟩
  | tup h =>
    obtain ⟨a, xs, rfl, _⟩ := hx
    exact main ⟨a, rx⟩
theorem bq_all (T : Gs X.prog X.w X.K X.mg X.base k l) : ∀ n, ∀ m, m < n → Bq X (GOf X.K k l) m
  | 0, m, h => absurd h (Nat.not_lt_zero _)
  | n + 1, m, h => bq_of T (rq_of T fun j hj => bq_all T n j (by omega))
theorem rq_all (T : Gs X.prog X.w X.K X.mg X.base k l) (n : Nat) : Rq X (GOf X.K k l) n := rq_of T (bq_all T n)
end
end Pd
end
section
set_option autoImplicit false
set_option Elab.async false
set_option linter.all false
set_option autoImplicit false
set_option maxRecDepth 100000
set_option maxHeartbeats 4000000
/-! Pd29: the same of !=. -/
namespace PdN
open PySem PySem.SeqAt
open AutoSeq1 (wpAny_loadPart')
open MeetsSeq MeetsSeq2 MeetsSeq3 SeqRoads2
section
variable {prog : Program} {w : World} {A : Around} {R : Result → Shared → Prop}
theorem loop2 (l b : Addr) (N : Nat) (I : Nat → Shared → Prop) (S : Shared → Prop) (hl : PdB.TwoL prog w A (fun e s' => R (.error e) s') l b N I S)
    (hS : ∀ s, S s → ∃ (items items2 : Array Value) (n n2 : Nat), s.heap.get? l = some { cls := .type "list", data := .seq items n } ∧ s.heap.get? b = some { cls := .type "list", data := .seq items2 n2 } ∧ items.size = N ∧ items2.size = N)
    (fin : ∀ s, I N s → R (.ok (.ret (.bool false))) s) (ff : ∀ s, S s → R (.ok (.ret (.bool true))) s) (k : Nat) :
    ∀ i : Nat, N - i = k → i ≤ N → ∀ s, I i s →
      wpAny (model prog w) A.in1 (Builtin.«list.__eq__.loop» ⟨[.ref l, .ref b, rawInt i, rawInt 3], []⟩) (GQ.FinOf prog w A R) (fun e s' => R (.error e) s') s := by
  induction k with
  | zero =>
    intro i hk hi s h
    obtain ⟨items, items2, n, n2, hl1, hb1, hs1, hs2, _⟩ := hl _ _ h
    have hi' : i = N := by omega
    have hR : R (.ok (.ret (.bool false))) s := fin s (hi' ▸ h)
    obtain ⟨hp, g, d, tk, os⟩ := s
    wp_walk using wpAny_loadPart' hl1, wpAny_loadPart' hb1
    have hi1 : items[((i : Nat) : Int).toNat]? = none := by simp; omega
    have hi2 : items2[((i : Nat) : Int).toNat]? = none := by simp; omega
    rw [hi1, hi2]
    wp_walk using wpAny_loadPart' hl1, wpAny_loadPart' hb1
    show R (.ok (.ret (.bool (items.size != items2.size)))) _
    rw [hs1, hs2]
    simpa using hR
  | succ k ih =>
    intro i hk hi s h
    obtain ⟨items, items2, n, n2, hl1, hb1, hs1, hs2, turn⟩ := hl _ _ h
    have hlt : i < items.size := by omega
    have hlt2 : i < items2.size := by omega
    have ht := turn hlt hlt2
    obtain ⟨hp, g, d, tk, os⟩ := s
    wp_walk using wpAny_loadPart' hl1, wpAny_loadPart' hb1
    have hi1 : items[((i : Nat) : Int).toNat]? = some items[i] := by simp [hlt]
    have hi2 : items2[((i : Nat) : Int).toNat]? = some items2[i] := by simp [hlt2]
    have hc : ((i : Int) + 1) = ((i + 1 : Nat) : Int) := by omega
    rw [hi1, hi2]
    refine wpAny_bind (wpAny_mono ht (fun r s2 h2 => ?_) fun _ _ x => x)
    rcases h2 with ⟨hr, h2⟩ | ⟨hr, h2⟩
    · subst hr
      have hrec := ih (i + 1) (by omega) (by omega) s2 h2
      obtain ⟨hp2, g2, d2, tk2, os2⟩ := s2
      wp_walk
      rw [hc]
      exact ⟨plainId_quiet plain_eq_loop _, codeAny_builtin entry_eq_loop (by
        rw [Around.under_plainId plain_eq_loop _]
        exact hrec)⟩
    · subst hr
      have hR := ff s2 h2
      obtain ⟨items3, items4, n3, n4, hl3, hb3, hs3, hs4⟩ := hS _ h2
      obtain ⟨hp2, g2, d2, tk2, os2⟩ := s2
      wp_walk using wpAny_loadPart' hl3, wpAny_loadPart' hb3
      have hi1 : items3[((i : Nat) : Int).toNat]? = some (items3[i]'(by omega)) := by simp
      have hi2 : items4[((i : Nat) : Int).toNat]? = some (items4[i]'(by omega)) := by simp
      rw [hi1, hi2]
      wp_walk
      exact hR
theorem list2 (l b : Addr) (N : Nat) (I : Nat → Shared → Prop) (S : Shared → Prop) (hl : PdB.TwoL prog w A (fun e s' => R (.error e) s') l b N I S)
    (hS : ∀ s, S s → ∃ (items items2 : Array Value) (n n2 : Nat), s.heap.get? l = some { cls := .type "list", data := .seq items n } ∧ s.heap.get? b = some { cls := .type "list", data := .seq items2 n2 } ∧ items.size = N ∧ items2.size = N)
    (fin : ∀ s, I N s → R (.ok (.ret (.bool false))) s) (ff : ∀ s, S s → R (.ok (.ret (.bool true))) s) {s : Shared} (h : I 0 s) :
    wpAny (model prog w) A.in1 (Builtin.«list.__ne__» ⟨[.ref l, .ref b], []⟩) (GQ.FinOf prog w A R) (fun e s' => R (.error e) s') s := by
  obtain ⟨items, items2, n, n2, hl1, hb1, hs1, hs2, _⟩ := hl _ _ h
  have hrec := loop2 (A := A) (R := R) l b N I S hl hS fin ff _ 0 rfl (Nat.zero_le _) s h
  obtain ⟨hp, g, d, tk, os⟩ := s
  have f3 := AutoSeq1.sub_list_list
  have hne : ¬ (items.size != items2.size) = true := by simp [hs1, hs2]
  wp_walk using wpAny_loadPart' hl1, wpAny_loadPart' hb1
  exact ⟨plainId_quiet plain_eq_loop _, codeAny_builtin entry_eq_loop (by
    rw [Around.under_plainId plain_eq_loop _]
    exact hrec)⟩
theorem list0 (l b : Addr) (items items2 : Array Value) (n n2 : Nat) (hsz : items.size ≠ items2.size) {s : Shared} (hl1 : s.heap.get? l = some { cls := .type "list", data := .seq items n }) (hb1 : s.heap.get? b = some { cls := .type "list", data := .seq items2 n2 })
    (ff : R (.ok (.ret (.bool true))) s) :
    wpAny (model prog w) A.in1 (Builtin.«list.__ne__» ⟨[.ref l, .ref b], []⟩) (GQ.FinOf prog w A R) (fun e s' => R (.error e) s') s := by
  obtain ⟨hp, g, d, tk, os⟩ := s
  have f3 := AutoSeq1.sub_list_list
  have hne : (items.size != items2.size) = true := by simpa using hsz
  wp_walk using wpAny_loadPart' hl1, wpAny_loadPart' hb1
  exact ff
theorem tup2 (l b : Addr) (items items2 : Array Value) (n n2 : Nat) (dd dd2 : Option Addr) (sl sl2 : Array (Option Value)) (I : Nat → Shared → Prop) (S : Shared → Prop)
    (turn : ∀ i (h1 : i < items.size) (h2 : i < items2.size) s, I i s → wpAny (model prog w) A.in1 (eqBool items[i] items2[i]) (fun r s' => (r = true ∧ I (i + 1) s') ∨ (r = false ∧ S s')) (fun e s' => R (.error e) s') s)
    (fin : ∀ s, I (min items.size items2.size) s → R (.ok (.ret (.bool (items.size != items2.size)))) s) (ff : ∀ s, S s → R (.ok (.ret (.bool true))) s) {s : Shared} (hl1 : s.heap.get? l = some { cls := .type "tuple", dict := dd, data := .seq items n, slots := sl }) (hb1 : s.heap.get? b = some { cls := .type "tuple", dict := dd2, data := .seq items2 n2, slots := sl2 }) (h : I 0 s) :
    wpAny (model prog w) A.in1 (Builtin.«tuple.__ne__» ⟨[.ref l, .ref b], []⟩) (GQ.FinOf prog w A R) (fun e s' => R (.error e) s') s := by
  have f2 := AutoSeq1.sub_tuple_tuple
  have hZ : (items.toList.zip items2.toList).length = min items.size items2.size := by simp
  have h0 := h
  obtain ⟨hp, g, d, tk, os⟩ := s
  wp_walk using wpAny_loadPart' hl1, wpAny_loadPart' hb1, wpAny_forIn_list _ (fun rest b s' => b.1 = none ∧ ∃ i, rest = (items.toList.zip items2.toList).drop i ∧ i ≤ min items.size items2.size ∧ I i s') _
  case turn =>
    rintro ⟨y, x⟩ rest b s' ⟨hb', i, hz, hi, hI⟩
    have hlt : i < (items.toList.zip items2.toList).length := by
      rcases Nat.lt_or_ge i (items.toList.zip items2.toList).length with h' | h'
      · exact h'
      · rw [List.drop_of_length_le h'] at hz; cases hz
    have h1 : i < items.size := by omega
    have h2 : i < items2.size := by omega
    rw [List.drop_eq_getElem_cons hlt] at hz
    injection hz with hyx hrest
    have hy : y = items[i] := by have := congrArg Prod.fst hyx; simpa using this
    have hx : x = items2[i] := by have := congrArg Prod.snd hyx; simpa using this
    subst hy hx
    refine wpAny_bind (wpAny_mono (turn i h1 h2 s' hI) (fun r s2 q2 => ?_) fun _ _ x => x)
    rcases q2 with ⟨hr, q2⟩ | ⟨hr, q2⟩
    · subst hr
      wp_walk
      exact ⟨rfl, i + 1, hrest, by omega, q2⟩
    · subst hr
      have hR := ff s2 q2
      wp_walk
      exact hR
  case fin =>
    rintro ⟨b1, b2⟩ s' ⟨hb', i, hz, hi, hI⟩
    simp only at hb'
    subst hb'
    have hge : min items.size items2.size ≤ i := by
      rcases Nat.lt_or_ge i (items.toList.zip items2.toList).length with h' | h'
      · rw [List.drop_eq_getElem_cons h'] at hz; cases hz
      · omega
    have hi' : i = min items.size items2.size := by omega
    have hR := fin s' (hi' ▸ hI)
    wp_walk
    exact hR
  case h => exact ⟨rfl, 0, rfl, Nat.zero_le _, h0⟩
end
section
variable {prog : Program} {w : World} {A : Around} {E : Value → Shared → Prop} {s : Shared}
theorem rc_list2 {l b : Addr} {N : Nat} {Q : Value → Shared → Prop} (hu : A.units < cLine) (I : Nat → Shared → Prop) (S : Shared → Prop) (hl : PdB.TwoL prog w A E l b N I S)
    (hS : ∀ s, S s → ∃ (items items2 : Array Value) (n n2 : Nat), s.heap.get? l = some { cls := .type "list", data := .seq items n } ∧ s.heap.get? b = some { cls := .type "list", data := .seq items2 n2 } ∧ items.size = N ∧ items2.size = N)
    (fin : ∀ s, I N s → Q (.bool false) s) (ff : ∀ s, S s → Q (.bool true) s) (h : I 0 s) : wpAny (model prog w) A (richCompare .NotEq (.ref l) (.ref b)) Q E s := by
  obtain ⟨items, items2, n, n2, hl1, hb1, _, _, _⟩ := hl _ _ h
  refine wpAny_richCompare_same_room (op := .NotEq) ⟨_, hl1, rfl⟩ ⟨_, hb1, rfl⟩ F.slot_list_ne (GQ.call_here F.slot_list_ne ⟨_, hl1, rfl⟩ F.entry_list_ne (F.args_list_ne_2 _ _) ?_) hu
  exact list2 (R := wants (fun v s' => v ≠ .notImplemented ∧ Q v s') E) l b N I S hl hS (fun s' q => ⟨(fun x => nomatch x), fin s' q⟩) (fun s' q => ⟨(fun x => nomatch x), ff s' q⟩) h
theorem rc_list0 {l b : Addr} {items items2 : Array Value} {n n2 : Nat} {Q : Value → Shared → Prop} (hu : A.units < cLine) (hl1 : s.heap.get? l = some { cls := .type "list", data := .seq items n }) (hb1 : s.heap.get? b = some { cls := .type "list", data := .seq items2 n2 }) (hsz : items.size ≠ items2.size)
    (h : Q (.bool true) s) : wpAny (model prog w) A (richCompare .NotEq (.ref l) (.ref b)) Q E s := by
  refine wpAny_richCompare_same_room (op := .NotEq) ⟨_, hl1, rfl⟩ ⟨_, hb1, rfl⟩ F.slot_list_ne (GQ.call_here F.slot_list_ne ⟨_, hl1, rfl⟩ F.entry_list_ne (F.args_list_ne_2 _ _) ?_) hu
  exact list0 (R := wants (fun v s' => v ≠ .notImplemented ∧ Q v s') E) l b items items2 n n2 hsz hl1 hb1 ⟨(fun x => nomatch x), h⟩
theorem rc_tup2 {l b : Addr} {items items2 : Array Value} {Q : Value → Shared → Prop} (hu : A.units < cLine) (I : Nat → Shared → Prop) (S : Shared → Prop)
    (hl : s.heap.IsTuple l items) (hb : s.heap.IsTuple b items2)
    (turn : ∀ i (h1 : i < items.size) (h2 : i < items2.size) s, I i s → wpAny (model prog w) A.in1 (eqBool items[i] items2[i]) (fun r s' => (r = true ∧ I (i + 1) s') ∨ (r = false ∧ S s')) E s)
    (fin : ∀ s, I (min items.size items2.size) s → Q (.bool (items.size != items2.size)) s) (ff : ∀ s, S s → Q (.bool true) s) (h : I 0 s) : wpAny (model prog w) A (richCompare .NotEq (.ref l) (.ref b)) Q E s := by
  obtain ⟨⟨cls, dd, data, sl⟩, ho, hc, n, hd⟩ := id hl
  obtain ⟨⟨cls2, dd2, data2, sl2⟩, ho2, hc2, n2, hd2⟩ := id hb
  simp only at hc hd hc2 hd2
  subst hc hd hc2 hd2
  refine wpAny_richCompare_same_room (op := .NotEq) ⟨_, ho, rfl⟩ ⟨_, ho2, rfl⟩ F.slot_tuple_ne (GQ.call_here F.slot_tuple_ne ⟨_, ho, rfl⟩ F.entry_tuple_ne (F.args_tuple_ne_2 _ _) ?_) hu
  exact tup2 (R := wants (fun v s' => v ≠ .notImplemented ∧ Q v s') E) l b items items2 n n2 dd dd2 sl sl2 I S turn (fun s' q => ⟨(fun x => nomatch x), fin s' q⟩) (fun s' q => ⟨(fun x => nomatch x), ff s' q⟩) ho ho2 h
end
end PdN
end
section
set_option autoImplicit false
set_option Elab.async false
set_option linter.all false
set_option autoImplicit false
set_option maxRecDepth 100000
set_option maxHeartbeats 4000000
/-! Pd30: the words: a == b, a != b of any data with instances inside. -/
namespace Pd
open PySem PySem.Spec PyProof.Rows L2
section
variable {X : Cx} {k : Nat} {l : List (Addr × Ct)} {pins : List (Addr × Obj)} {σ : L2.St}
theorem rn_lst {G : Nat → D → D → Bool → Prop} {n : Nat} (B : Bq X G n) {A : Around} (dn : Dn X (n + 1) A) {s : Shared} {H P : Hp} {ds es : List D} {b : Bool} (hl : ds.length = es.length) (ht : EqT G n ds es b) (I : Inv X pins σ H s) (S : Sub P H) {x y : V} {u v : Value} (rx : RelV x u) (ry : RelV y v) (hx : Rp X.K P (.lst ds) x) (hy : Rp X.K P (.lst es) y) (n1 : D.nscL ds = true) (n2 : D.nscL es = true) :
    wpAny (model X.prog X.w) A (richCompare .NotEq u v) (fun r s' => r = .bool (!b) ∧ Lp X pins σ H s') X.xe s := by
  obtain ⟨a, xs, rfl, ha, h1⟩ := hx
  obtain ⟨c, ys, rfl, hc, h2⟩ := hy
  cases rx
  cases ry
  obtain ⟨m, hm, h3, h4⟩ := ht.ends
  have hu : A.units < cLine := by have := dn.room.units; omega
  have l1 := h1.length
  have l2 := h2.length
  refine PdN.rc_list2 (N := ds.length) hu (fun i s' => i ≤ m ∧ Lp X pins σ H s') (fun s' => b = false ∧ Lp X pins σ H s') (fun i s' q => ?_) (fun s' q => ?_) (fun s' q => ?_) (fun s' q => ?_) ⟨Nat.zero_le _, H, I, fun _ _ h => h⟩
  · obtain ⟨hi, H1, I1, e1⟩ := id q
    obtain ⟨its, k, r, e⟩ := list_at I1 (e1 _ _ (S _ _ ha))
    obtain ⟨its2, k2, r2, e2⟩ := list_at I1 (e1 _ _ (S _ _ hc))
    refine ⟨its.toArray, its2.toArray, k, k2, e, e2, by rw [List.size_toArray, ← r.length, l1], by rw [List.size_toArray, ← r2.length, l2, hl], fun k1 k2 => ?_⟩
    exact turnD B dn S h1 h2 n1 n2 r r2 h3 h4 i k1 k2 s' q
  · obtain ⟨hb, H1, I1, e1⟩ := q
    obtain ⟨its, k, r, e⟩ := list_at I1 (e1 _ _ (S _ _ ha))
    obtain ⟨its2, k2, r2, e2⟩ := list_at I1 (e1 _ _ (S _ _ hc))
    exact ⟨its.toArray, its2.toArray, k, k2, e, e2, by rw [List.size_toArray, ← r.length, l1], by rw [List.size_toArray, ← r2.length, l2, hl]⟩
  · rcases h4 with ⟨hb, _, _⟩ | ⟨_, _, c⟩ | ⟨_, d, e, c1, _, _⟩
    · exact ⟨by rw [hb]; rfl, q.2⟩
    · exact absurd hl c
    · have := (List.getElem?_eq_some_iff.mp c1).1
      have := q.1
      omega
  · exact ⟨by rw [q.1]; rfl, q.2⟩
theorem rn_tup {G : Nat → D → D → Bool → Prop} {n : Nat} (B : Bq X G n) {A : Around} (dn : Dn X (n + 1) A) {s : Shared} {H P : Hp} {ds es : List D} {b : Bool} (ht : EqT G n ds es b) (I : Inv X pins σ H s) (S : Sub P H) {x y : V} {u v : Value} (rx : RelV x u) (ry : RelV y v) (hx : Rp X.K P (.tup ds) x) (hy : Rp X.K P (.tup es) y) (n1 : D.nscL ds = true) (n2 : D.nscL es = true) :
    wpAny (model X.prog X.w) A (richCompare .NotEq u v) (fun r s' => r = .bool (!b) ∧ Lp X pins σ H s') X.xe s := by
  obtain ⟨a, xs, rfl, ha, h1⟩ := hx
  obtain ⟨c, ys, rfl, hc, h2⟩ := hy
  cases rx
  cases ry
  obtain ⟨m, hm, h3, h4⟩ := ht.ends
  have hu : A.units < cLine := by have := dn.room.units; omega
  have l1 := h1.length
  have l2 := h2.length
  obtain ⟨its, r, e, z⟩ := I.tuple (sub_t S ha)
  obtain ⟨its2, r2, e2, z2⟩ := I.tuple (sub_t S hc)
  have q1 : its.toArray.size = ds.length := by rw [List.size_toArray, ← r.length, l1]
  have q2 : its2.toArray.size = es.length := by rw [List.size_toArray, ← r2.length, l2]
  refine PdN.rc_tup2 hu (fun i s' => i ≤ m ∧ Lp X pins σ H s') (fun s' => b = false ∧ Lp X pins σ H s') e e2 (fun i k1 k2 s' q => turnD B dn S h1 h2 n1 n2 r r2 h3 h4 i k1 k2 s' q) (fun s' q => ?_) (fun s' q => ?_) ⟨Nat.zero_le _, H, I, fun _ _ h => h⟩
  · rw [q1, q2] at q ⊢
    rcases h4 with ⟨hb, _, c⟩ | ⟨hb, _, c⟩ | ⟨_, d, e, c1, c2, _⟩
    · exact ⟨by rw [hb, c]; simp, q.2⟩
    · exact ⟨by rw [hb]; simpa using c, q.2⟩
    · have := (List.getElem?_eq_some_iff.mp c1).1
      have := (List.getElem?_eq_some_iff.mp c2).1
      have := q.1
      omega
  · exact ⟨by rw [q.1]; rfl, q.2⟩
theorem rn_len {A : Around} {n : Nat} (dn : Dn X n A) {s : Shared} {H P : Hp} {ds es : List D} (hl : ds.length ≠ es.length) (I : Inv X pins σ H s) (S : Sub P H) {x y : V} {u v : Value} (rx : RelV x u) (ry : RelV y v) (hx : Rp X.K P (.lst ds) x) (hy : Rp X.K P (.lst es) y) :
    wpAny (model X.prog X.w) A (richCompare .NotEq u v) (fun r s' => r = .bool true ∧ Lp X pins σ H s') X.xe s := by
  obtain ⟨a, xs, rfl, ha, h1⟩ := hx
  obtain ⟨c, ys, rfl, hc, h2⟩ := hy
  cases rx
  cases ry
  have hu : A.units < cLine := by have := dn.room.units; omega
  have l1 := h1.length
  have l2 := h2.length
  obtain ⟨its, k, r, e⟩ := list_at I (S _ _ ha)
  obtain ⟨its2, k2, r2, e2⟩ := list_at I (S _ _ hc)
  have q1 : its.toArray.size = ds.length := by rw [List.size_toArray, ← r.length, l1]
  have q2 : its2.toArray.size = es.length := by rw [List.size_toArray, ← r2.length, l2]
  exact PdN.rc_list0 hu e e2 (by rw [q1, q2]; exact hl) ⟨rfl, H, I, fun _ _ h => h⟩
theorem rn_own (T : Gs X.prog X.w X.K X.mg X.base k l) {n : Nat} {d e : D} {b : Bool} (h : GOf X.K k l n d e b) {A : Around} {s : Shared} {H P : Hp} (D' : Dn X (n + 1) A) (I : Inv X pins σ H s) (S : Sub P H) {x y : V} {u v : Value} (rx : RelV x u) (ry : RelV y v) (hx : Rp X.K P d x) (hy : Rp X.K P e y) :
    wpAny (model X.prog X.w) A (richCompare .NotEq u v) (fun r s' => r = .bool (!b) ∧ Lp X pins σ H s') X.xe s := by
  obtain ⟨hk, _, _, C, ct, ns, xs, hm, rfl, ot, hn, q⟩ := h
  have TE := T.eq C ct hm
  obtain ⟨f, fd, ps, te, F, bb⟩ := TE.ex
  obtain ⟨a, dx, vs, rfl, h1, h2, h3⟩ := id hx
  obtain rfl : u = Value.ref a := rx
  have ha := S _ _ h1
  obtain ⟨mA, J, _⟩ := ins_get I.hok ha
  obtain ⟨od, J, _⟩ := J.look
  obtain ⟨Pq, KX, hP, _⟩ := kit_of I ry (tyx_of (Rp.mono S e y hy) ot)
  have hu : A.units + 1 < cLine := by have := D'.room.units; omega
  have sp : spC X.K 2 ct [.ref a, y] H (fun z H' => z = .bl b ∧ Sub H H') (fun _ _ _ => False) := by
    refine ⟨P, fun _ => False, 0, [some (.ins C ns xs), some e], S, by decide, ⟨_, _, rfl, hx, _, _, rfl, hy, rfl⟩, rfl, trivial, fun a z => z.elim, ?_⟩
    exact TE.mono _ _ _ _ _ (fun z qz v H' P' po rv => by
      subst qz
      exact ⟨rv, fun a o e => po.keep a o e fun z => z⟩) (fun _ z => z.elim) q
  refine rc_ne_own hu I.kIn J te (KX.ty _ _ I.kIn hP) hn (thn (run_own D'.in1.fr (D'.in1.room.mono hk) D'.in1.gd F bb I (.cons (show RelV (V.ref a) (Value.ref a) from rfl) (.cons ry .nil)) sp) fun r s' q => ?_)
  obtain ⟨w, H', I', rw', ew, q⟩ := q
  subst ew
  cases rw'
  exact ⟨b, rfl, rfl, H', I', q⟩
theorem rn_of (T : Gs X.prog X.w X.K X.mg X.base k l) {n : Nat} {d e : D} {b : Bool} (h : EqD (GOf X.K k l) n d e b) {A : Around} {s : Shared} {H P : Hp} {x y : V} {u v : Value} (dn : Dn X (n + 1) A) (I : Inv X pins σ H s) (S : Sub P H) (rx : RelV x u) (ry : RelV y v) (hx : Rp X.K P d x) (hy : Rp X.K P e y) (n1 : d.nsc = true) (n2 : e.nsc = true) :
    wpAny (model X.prog X.w) A (richCompare .NotEq u v) (fun r s' => r = .bool (!b) ∧ Lp X pins σ H s') X.xe s := by
  have dn' : Dn X n A := ⟨dn.room.mono (Nat.le_succ n), dn.fr, dn.gd⟩
  cases h with
  | plain h1 h2 h3 =>
    rename_i p q
    obtain ⟨as, r1⟩ := Dp.reads I p x u (Rp.dp d p x h1 (Rp.mono S d x hx)) rx
    obtain ⟨bs, r2⟩ := Dp.reads I q y v (Rp.dp e q y h2 (Rp.mono S e y hy)) ry
    have hu := dn.room.units
    exact PySem.SeqAt.ne_plain r1 r2 (D.py_plain _ _ h1) (D.py_plain _ _ h2) (by omega) ⟨rfl, H, I, fun _ _ h => h⟩
  | own h => exact rn_own T h dn I S rx ry hx hy
  | lst hl h => exact rn_lst (bq_all T _ _ (Nat.lt_succ_self _)) dn' hl h I S rx ry hx hy (by simpa using n1) (by simpa using n2)
  | len hl => exact rn_len dn' hl I S rx ry hx hy
  | tup h => exact rn_tup (bq_all T _ _ (Nat.lt_succ_self _)) dn' h I S rx ry hx hy (by simpa using n1) (by simpa using n2)
/-! ### words -/
/-- x == y by what they stand for -/
def rDeep (K : PySem.W.Frag) (k : Nat) (l : List (Addr × Ct)) (n : Nat) (g : Bool → Bool) : R2 := fun x y H Q => ∃ P d e b, Sub P H ∧ Rp K P d x ∧ Rp K P e y ∧ d.nsc = true ∧ e.nsc = true ∧ EqD (GOf K k l) n d e b ∧ ∀ H', Sub H H' → Q (.bl (g b)) H'
def gDeep (K : PySem.W.Frag) (k : Nat) (l : List (Addr × Ct)) (n : Nat) (g : Bool → Bool) : G2 := fun d e Q => d.nsc = true ∧ e.nsc = true ∧ ∃ b, EqD (GOf K k l) n d e b ∧ Q (.bl (g b))
theorem op_eqDeep (T : Gs X.prog X.w X.K X.mg X.base k l) {n : Nat} (hr : Room n X.A) (hG : X.A.guards = some []) : OpR X (compareOp .Eq) (rDeep X.K k l n id) := by
  intro pins s σ H x y v u Q I rx ry h
  obtain ⟨P, d, e, b, S, hx, hy, n1, n2, q, z⟩ := h
  show wpAny (model X.prog X.w) X.A (richCompare .Eq v u) (EP X pins σ Q) X.xe s
  refine wpAny_mono (rq_all T n d e b q X.A pins σ s H P x y v u ⟨hr, rfl, hG⟩ I S rx ry hx hy n1 n2) (fun r s' q => ?_) fun _ _ x => x
  obtain ⟨rfl, H', I', e'⟩ := q
  exact ⟨.bl b, H', I', rfl, z H' e'⟩
theorem op_neDeep (T : Gs X.prog X.w X.K X.mg X.base k l) {n : Nat} (hr : Room (n + 1) X.A) (hG : X.A.guards = some []) : OpR X (compareOp .NotEq) (rDeep X.K k l n not) := by
  intro pins s σ H x y v u Q I rx ry h
  obtain ⟨P, d, e, b, S, hx, hy, n1, n2, q, z⟩ := h
  show wpAny (model X.prog X.w) X.A (richCompare .NotEq v u) (EP X pins σ Q) X.xe s
  refine wpAny_mono (rn_of T q ⟨hr, rfl, hG⟩ I S rx ry hx hy n1 n2) (fun r s' q => ?_) fun _ _ x => x
  obtain ⟨rfl, H', I', e'⟩ := q
  exact ⟨.bl (!b), H', I', rfl, z H' e'⟩
theorem snd_deep {K : PySem.W.Frag} {n : Nat} {g : Bool → Bool} : SndR K (rDeep K k l n g) (gDeep K k l n g) := fun F P H σ sv x y d e Q R re rx ry kk q => by
  obtain ⟨n1, n2, b, h, q⟩ := q
  exact ⟨P, d, e, b, re.sub, rx, ry, n1, n2, h, fun H' S => kk (.bl (g b)) H' P (.bl (g b)) (re.grow (Sub.refl P) (fun _ _ e => .inl e) S (re.sub.trans S)) (Sub.refl P) rfl q⟩
variable {W : Wz} {pos : Pos}
theorem deqD {P : Program} {w : World} {K : PySem.W.Frag} {mg : Str → Option Value} {base : Heap} {k' : Nat} {a b : Expr} {f1 f2 : De} (n : Nat) (T : Gs P w K mg base k l) (hr : Room k' X.A) (hk : n + 1 ≤ k') (hG : X.A.guards = some []) (ha : PD X W a f1) (hb : PD X W b f2)
    (h1 : X.prog = P := by rfl) (h2 : X.w = w := by rfl) (h3 : X.K = K := by rfl) (h4 : X.mg = mg := by rfl) (h5 : X.base = base := by rfl) (hm : behindInMarks .Eq b = false := by rfl) : PD X W (.Compare a [.Eq] [b] pos) (dOp (gDeep K k l n id) f1 f2) := by
  subst h1 h2 h3 h4 h5
  exact pd_cmp (op_eqDeep T (hr.mono (Nat.le_of_succ_le hk)) hG) snd_deep ha hb hm
theorem dneD {P : Program} {w : World} {K : PySem.W.Frag} {mg : Str → Option Value} {base : Heap} {k' : Nat} {a b : Expr} {f1 f2 : De} (n : Nat) (T : Gs P w K mg base k l) (hr : Room k' X.A) (hk : n + 1 ≤ k') (hG : X.A.guards = some []) (ha : PD X W a f1) (hb : PD X W b f2)
    (h1 : X.prog = P := by rfl) (h2 : X.w = w := by rfl) (h3 : X.K = K := by rfl) (h4 : X.mg = mg := by rfl) (h5 : X.base = base := by rfl) (hm : behindInMarks .NotEq b = false := by rfl) : PD X W (.Compare a [.NotEq] [b] pos) (dOp (gDeep K k l n not) f1 f2) := by
  subst h1 h2 h3 h4 h5
  exact pd_cmp (op_neDeep T (hr.mono hk) hG) snd_deep ha hb hm
theorem pdt_eqD {P : Program} {w : World} {K : PySem.W.Frag} {mg : Str → Option Value} {base : Heap} {k' : Nat} {a b : Expr} {f1 f2 : De} (n : Nat) (T : Gs P w K mg base k l) (hr : Room k' X.A) (hk : n + 1 ≤ k') (hG : X.A.guards = some []) (ha : PD X W a f1) (hb : PD X W b f2)
    (h1 : X.prog = P := by rfl) (h2 : X.w = w := by rfl) (h3 : X.K = K := by rfl) (h4 : X.mg = mg := by rfl) (h5 : X.base = base := by rfl) (hm : behindInMarks .Eq b = false := by rfl) : PDT X W (.Compare a [.Eq] [b] pos) (dTest (dOp (gDeep K k l n id) f1 f2)) := by
  subst h1 h2 h3 h4 h5
  exact pdt_cmp (op_eqDeep T (hr.mono (Nat.le_of_succ_le hk)) hG) snd_deep ha hb hm
theorem pdt_neD {P : Program} {w : World} {K : PySem.W.Frag} {mg : Str → Option Value} {base : Heap} {k' : Nat} {a b : Expr} {f1 f2 : De} (n : Nat) (T : Gs P w K mg base k l) (hr : Room k' X.A) (hk : n + 1 ≤ k') (hG : X.A.guards = some []) (ha : PD X W a f1) (hb : PD X W b f2)
    (h1 : X.prog = P := by rfl) (h2 : X.w = w := by rfl) (h3 : X.K = K := by rfl) (h4 : X.mg = mg := by rfl) (h5 : X.base = base := by rfl) (hm : behindInMarks .NotEq b = false := by rfl) : PDT X W (.Compare a [.NotEq] [b] pos) (dTest (dOp (gDeep K k l n not) f1 f2)) := by
  subst h1 h2 h3 h4 h5
  exact pdt_cmp (op_neDeep T (hr.mono hk) hG) snd_deep ha hb hm
end
end Pd
end
section
set_option autoImplicit false
set_option Elab.async false
set_option linter.all false
set_option autoImplicit false
set_option maxRecDepth 100000
set_option maxHeartbeats 4000000
/-! Pd31: isinstance(e, (A, B, C)) of the caught error. -/
namespace Pd
open PySem PySem.Spec PyProof.Rows L2
section
variable {X : Cx} {a : Addr} {oe : Obj} {cls : Value} {dd : Option Addr} {pn : List (Addr × Obj)}
def rIsXT (K : PySem.W.Frag) (a : Addr) (cls : Value) (dd : Option Addr) : List V → Hp → VK → Prop := fun xs H Q => ∃ (D tp : Addr) (cs : List V) (us : List Value) (b : Bool), xs = [.ref a, .ref tp] ∧ H tp = some (.tup cs) ∧ Paired ClsV cs us ∧ cls = .ref D ∧ ExcC K D ∧ (dd = none ∨ ∃ d fs, dd = some d ∧ H d = some (.xd fs)) ∧ PySem.W.kitAny K (.ref D) us = some b ∧ Q (.bl b) H
theorem call_isXT (hz : Zc cls dd oe) (hf : ∃ vs, oe.data = .fields vs) : CallR (X.suite a ((a, oe) :: pn)) (.builtin "isinstance") (rIsXT X.K a cls dd) := by
  intro pins s σ H xs us Q I r h
  obtain ⟨D, tp, cs, ws, b, rfl, hT, hcv, ecl, C, hd, e, q⟩ := h
  subst ecl
  obtain ⟨u1, u2, rfl, r1, r2⟩ := vals2 r
  cases r1
  cases (show u2 = Value.ref tp from r2)
  obtain ⟨hget, _⟩ := I.pin (a, oe) (List.mem_append.mpr (.inl List.mem_cons_self))
  obtain ⟨vs, hv⟩ := hf
  have J : ∃ od, PySem.W.InstAt s.heap a oe D od := by
    obtain ⟨oc, od, oda, osl⟩ := oe
    obtain ⟨h1, h2⟩ := hz
    dsimp only at h1 h2 hv
    subst h1 h2 hv
    rcases hd with rfl | ⟨d, fs, rfl, hd⟩
    · exact ⟨none, hget, rfl, rfl, trivial⟩
    · obtain ⟨mA, ⟨o, es, ep, ho, _⟩, _⟩ := (show ObjOk X.prog X.w H s.heap d (.xd fs) from I.hok d _ hd)
      exact ⟨some o, hget, rfl, rfl, ho⟩
  obtain ⟨_, its, rv, o, h1, h2, n, h3⟩ := (show ObjOk X.prog X.w H s.heap tp (.tup cs) from I.hok tp _ hT)
  have e3 := ClsV.all hcv rv
  subst e3
  obtain ⟨oc, od, dt, sl⟩ := o
  simp only at h2 h3
  subst h2 h3
  exact PySem.W.kia_tup (kitx_excO C oe) I.kIn J h1 e (fun z => nomatch z) fun tk => ⟨.bl b, H, I.kept (t' := tk) fun _ _ z => z, rfl, q⟩
@[simp] def dXi3 (K : PySem.W.Frag) (i : Nat) (c1 c2 c3 : Addr) : De := fun sv Q _ => ∃ x, sv[i]? = some (.exc x) ∧ ExcC K x.C ∧ ∃ b, PySem.W.kitAny K (.ref x.C) [.ref c1, .ref c2, .ref c3] = some b ∧ Q (.bl b) sv
theorem snd_xi3 {K : PySem.W.Frag} {w : WX} {i : Nat} {c1 c2 c3 : Addr} : SndE K ⟨w, some (a, cls, dd)⟩ (tCB (rIsXT K a cls dd) (tCons (tVar i) (tCons (tTup (tCons (tC (.ref c1)) (tCons (tC (.ref c2)) (tCons (tC (.ref c3)) tNil)))) tNil))) (dXi3 K i c1 c2 c3) := fun F P H σ sv Q E R re k _ q => by
  obtain ⟨x, e, hC, b, eb, q⟩ := q
  obtain ⟨o, ho, a', cls', dd', hX, rfl, h1, h2⟩ := rel_get re e
  cases hX
  refine ⟨_, ho, (by decide : (3 : Nat) ≤ sizeLine), fun p hp => ⟨x.C, p, _, _, b, rfl, upd_same, .cons (.own c1) (.cons (.own c2) (.cons (.own c3) .nil)), h1, hC, ?_, eb, k _ _ P (.bl b) sv (re.layH hp) (Sub.refl P) rfl q⟩⟩
  rcases h2 with ⟨_, h2⟩ | ⟨d, fs, h2, h3, _⟩
  · exact .inl h2
  · exact .inr ⟨d, fs, h2, sub_upd hp _ _ (re.sub _ _ h3)⟩
section
variable {w : WX} {n x1 x2 x3 : Str} {p p2 p3 p4 p5 p6 pos : Pos} {kk : Nat} {c1 c2 c3 : Addr}
theorem dxi3 (K : PySem.W.Frag) (i : Nat) (m1 : X.mg x1 = some (.ref c1)) (m2 : X.mg x2 = some (.ref c2)) (m3 : X.mg x3 = some (.ref c3)) (hm : X.mg "isinstance" = none) (hz : Zc cls dd oe) (hf : ∃ vs, oe.data = .fields vs) (hN : X.N[i]? = some n := by rfl) (hv : Vis X.env.scope n := by first | exact Or.inl rfl | exact Or.inr (Or.inl rfl) | exact Or.inr (Or.inr rfl)) (hK : X.K = K := by rfl) (hg : Gl X "isinstance" := by rfl)
    (g1 : Gl X x1 := by rfl) (g2 : Gl X x2 := by rfl) (g3 : Gl X x3 := by rfl) (d1 : (x1 == ("__debug__" : Str)) = false := by decide) (d2 : (x2 == ("__debug__" : Str)) = false := by decide) (d3 : (x3 == ("__debug__" : Str)) = false := by decide)
    (hd : (n == ("__debug__" : Str)) = false := by decide) (hcd : (n == ("__classdict__" : Str)) = false := by decide)
    (e1 : starEach [.Name x1 p4, .Name x2 p5, .Name x3 p6] X.env = (false, eval (.Name x1 p4) X.env) :: starEach [.Name x2 p5, .Name x3 p6] X.env := by rfl) (e2 : starEach [.Name x2 p5, .Name x3 p6] X.env = (false, eval (.Name x2 p5) X.env) :: starEach [.Name x3 p6] X.env := by rfl) (e3 : starEach [.Name x3 p6] X.env = (false, eval (.Name x3 p6) X.env) :: starEach [] X.env := by rfl)
    (he : starEach [.Name n p2, .Tuple [.Name x1 p4, .Name x2 p5, .Name x3 p6] kk p3] X.env = (false, eval (.Name n p2) X.env) :: starEach [.Tuple [.Name x1 p4, .Name x2 p5, .Name x3 p6] kk p3] X.env := by rfl) (he2 : starEach [.Tuple [.Name x1 p4, .Name x2 p5, .Name x3 p6] kk p3] X.env = (false, eval (.Tuple [.Name x1 p4, .Name x2 p5, .Name x3 p6] kk p3) X.env) :: starEach [] X.env := by rfl) (hpl : (backTo pos (starEach [.Tuple [.Name x1 p4, .Name x2 p5, .Name x3 p6] kk p3] X.env)).any (·.1) = false := by rfl) :
    PD (X.suite a ((a, oe) :: pn)) ⟨w, some (a, cls, dd)⟩ (.Call (.Name "isinstance" p) [.Name n p2, .Tuple [.Name x1 p4, .Name x2 p5, .Name x3 p6] kk p3] [] pos) (dXi3 K i c1 c2 c3) := by
  subst hK
  exact ⟨_, pe_callB (X := X.suite a ((a, oe) :: pn)) (call_isXT hz hf) hg hm boot_isi' (pa_cons (pe_var (X := X.suite a ((a, oe) :: pn)) hN hv hd hcd) (pa_cons (pe_tup (pa_cons (pe_glob (X := X.suite a ((a, oe) :: pn)) (v := .ref c1) g1 m1 rfl d1) (pa_cons (pe_glob (X := X.suite a ((a, oe) :: pn)) (v := .ref c2) g2 m2 rfl d2) (pa_cons (pe_glob (X := X.suite a ((a, oe) :: pn)) (v := .ref c3) g3 m3 rfl d3) pa_nil e3) e2) e1)) pa_nil he2) he) (by decide) (by decide) he hpl, snd_xi3⟩
end
end
end Pd
end
section
set_option autoImplicit false
set_option Elab.async false
set_option linter.all false
set_option autoImplicit false
set_option maxRecDepth 100000
set_option maxHeartbeats 4000000
/-! Pd32: t + u and t[lo:hi] of tuples. -/
namespace Pd
open PySem PySem.Spec PyProof.Rows L2
section
variable {X : Cx} {W : Wz} {pos : Pos}
@[simp] def gCatT : G2 := fun d e Q => ∃ xs ys, d = .tup xs ∧ e = .tup ys ∧ xs.length + ys.length ≤ 100000 ∧ Q (.tup (xs ++ ys))
theorem snd_catT {K : PySem.W.Frag} : SndR K (rCatA K) gCatT := fun F P H σ sv x y d e Q R re rx ry k q => by
  obtain ⟨ds, es, rfl, rfl, hl, q⟩ := q
  obtain ⟨a, xs, rfl, ha, h1⟩ := id rx
  obtain ⟨b, ys, rfl, hb, h2⟩ := id ry
  have l1 := h1.length
  have l2 := h2.length
  refine ⟨a, b, xs, ys, rfl, rfl, sub_t re.sub ha, sub_t re.sub hb, small_line (by omega), fun hx => ?_, fun hx hy => ?_, fun hx hy p hp => ?_⟩
  · subst hx
    obtain rfl : ds = [] := List.eq_nil_of_length_eq_zero (by simpa using l1.symm)
    exact k _ H P _ re (Sub.refl P) ry q
  · subst hy
    obtain rfl : es = [] := List.eq_nil_of_length_eq_zero (by simpa using l2.symm)
    rw [List.append_nil] at q
    exact k _ H P _ re (Sub.refl P) rx q
  · exact k (.ref p) _ _ (.tup (ds ++ es)) (re.lay hp) (sub_upd (re.free hp)) ⟨p, xs ++ ys, rfl, .inl (.inl upd_same), RpL.mono (sub_upd (re.free hp)) _ _ (h1.append h2)⟩ q
theorem pd_addT {a b : Expr} {f1 f2 : De} (h1 : PD X W a f1) (h2 : PD X W b f2) : PD X W (.BinOp a .Add b pos) (dOp gCatT f1 f2) := pd_op op_catA snd_catT h1 h2
@[simp] def dSlT (f : De) (lo hi : Do) : De := fun sv Q E => f sv (fun d sv1 => lo sv1 (fun l sv2 => hi sv2 (fun u sv3 => ∃ ds, d = .tup ds ∧ Q (.tup (cutD ds l u)) sv3) E) E) E
theorem pd_slT {e : Expr} {lo hi : Option Expr} {p2 : Pos} {f : De} {g h : Do} (h1 : PD X W e f) (h2 : PDO X W lo g) (h3 : PDO X W hi h) : PD X W (.Subscript e (.Slice lo hi none p2) pos) (dSlT f g h) := by
  obtain ⟨ta, p1, s1⟩ := h1
  obtain ⟨tb, p2, s2⟩ := h2
  obtain ⟨tc, p3, s3⟩ := h3
  refine ⟨_, pe_slice sl_tupA p1 p2 p3, fun F P H σ sv Q E R re k kx q => s1 F P H σ sv _ E _ re (fun v H1 P1 d sv1 r1 s1' rv q1 => s2 F P1 H1 σ sv1 _ E _ r1 (fun l H2 P2 sv2 r2 s2' q2 => s3 F P2 H2 σ sv2 _ E _ r2 (fun u H3 P3 sv3 r3 s3' q3 => ?_) kx q2) kx q1) kx q⟩
  obtain ⟨ds, rfl, q3⟩ := q3
  have rv' := Rp.mono (s2'.trans s3') (.tup ds) v rv
  obtain ⟨a, vs, rfl, e1, rl⟩ := id rv'
  have ll := rl.length
  refine ⟨a, vs, rfl, sub_t r3.sub e1, fun hw => ?_, fun _ p hp => ?_⟩
  · have ec : cutD ds l u = ds := by
      unfold cutD
      rw [← ll, hw.1, hw.2, ll]
      simp
    rw [ec] at q3
    exact k _ H3 P3 _ sv3 r3 ((s1'.trans s2').trans s3') rv' q3
  · exact k (.ref p) _ _ (.tup (cutD ds l u)) sv3 (r3.lay hp) (((s1'.trans s2').trans s3').trans (sub_upd (r3.free hp))) ⟨p, _, rfl, .inl (.inl upd_same), RpL.mono (sub_upd (r3.free hp)) _ _ (cut_rel l u rl)⟩ q3
end
end Pd
end
section
set_option autoImplicit true
set_option Elab.async false
set_option linter.all false
set_option maxRecDepth 100000
set_option maxHeartbeats 4000000
namespace K2
open PySem PySem.Spec PyProof.Rows L2 Pd
def top (i : Nat) : Stmt := PySem.Challenge.pw_keyactions_k02_tables_made.main.body.getD i (.Pass ⟨0, 0, 0, 0⟩)
def letters : Str := "abcdefghijklmnopqrstuvwxyz"
def isNameD : D → Bool
  | .str s => decide (1 ≤ s.length) && decide (s.length ≤ 8) && s.cps.toList.all fun c => decide (c ∈ letters.cps.toList)
  | _ => false
def isLinkD : D → Bool
  | .tup [a, b] => isNameD a
  | _ => false
def acts : List Str := ["cascade", "set_null", "set_default", "restrict", "no_action"]
def mayD (v : D) (nb : Bool) (df : D) : Bool := if v.isStr "set_null" then nb else if v.isStr "set_default" then nb || !df.isNon else acts.any fun s => v.isStr s
def sndD : D → D
  | .tup [a, b] => b
  | _ => .non
def badL (nb : Bool) (df : D) (l : D) : Bool := !(isLinkD l && mayD (sndD l) nb df)
theorem qb {Q : D → Prop} {a b : Bool} (q : Q (.bl a)) (e : a = b) : Q (.bl b) := e ▸ q
abbrev s_is_integer : Stmt := top 12
abbrev N_is_integer : List Str := ["value"]
theorem sc_is_integer : FnScope N_is_integer ["value"] (defScope s_is_integer) := ⟨rfl, rfl, rfl, by decide +kernel, rfl, by decide +kernel, by decide +kernel⟩
def ct_is_integer : Ct := Ct.ex 0 (fun d : D => [some d]) (fun d => d.wt < 1000000) (fun d z => z = .bl (isIntD d)) (fun _ _ => False)
theorem ok_is_integer {P : Program} {w : World} {K : PySem.W.Frag} {mg : Str → Option Value} {base : Heap} {f : Addr} {fd : FuncData} (F : FunD K "is_integer" "is_integer" (defArgs s_is_integer) (defBody s_is_integer) (defScope s_is_integer) [] [] f fd) (m_bool : mg "bool" = none) (m_int : mg "int" = none) (m_isinstance : mg "isinstance" = none) : Fd P w K mg base 1 f fd ["value"] (spC K 1 (ct_is_integer )) := by
  have nd := sc_is_integer.nd
  refine fd_body (N := N_is_integer) (ct := ct_is_integer ) F sc_is_integer (fun cdv A outer s H E hr hG tk pw => have hu := Room.units hr; have hv := room_u hr; (pdss_one (pds_ret (pd_and (disiT K boot_int'' m_int m_isinstance (dv 0)) (pd_one (pd_not (disiT K boot_bool'' m_bool m_isinstance (dv 0)))))))) ?_
  rintro as Q E hl ⟨d, rfl, hw, q, -⟩
  have q := q _ rfl
  cases d <;> simp_all [isIntD, D.wt]
theorem fg_is_integer {P : Program} {w : World} {K : PySem.W.Frag} {mg : Str → Option Value} {base : Heap} {f : Addr} {fd : FuncData} (F : FunD K "is_integer" "is_integer" (defArgs s_is_integer) (defBody s_is_integer) (defScope s_is_integer) [] [] f fd) (hm : mg "is_integer" = some (.ref f)) (m_bool : mg "bool" = none) (m_int : mg "int" = none) (m_isinstance : mg "isinstance" = none) : FnG P w K mg base 1 "is_integer" 1 (ct_is_integer ) :=
  fnG_of F sc_is_integer hm (ok_is_integer F m_bool m_int m_isinstance) (F.bindsN fun _ _ _ _ _ _ us hl => match us, hl with | [_], _ => rfl) Ct.ex_mono
abbrev s_is_name : Stmt := top 13
abbrev N_is_name : List Str := ["value", "letter"]
theorem sc_is_name : FnScope N_is_name ["value"] (defScope s_is_name) := ⟨rfl, rfl, rfl, by decide +kernel, rfl, by decide +kernel, by decide +kernel⟩
def ct_is_name : Ct := Ct.ex 0 (fun d : D => [some d]) (fun d => d.wt < 1000000) (fun d z => z = .bl (isNameD d)) (fun _ _ => False)
theorem ok_is_name {P : Program} {w : World} {K : PySem.W.Frag} {mg : Str → Option Value} {base : Heap} {f : Addr} {fd : FuncData} (F : FunD K "is_name" "is_name" (defArgs s_is_name) (defBody s_is_name) (defScope s_is_name) [] [] f fd) (m_LETTERS : ∃ t, mg "LETTERS" = some (.str "abcdefghijklmnopqrstuvwxyz" t)) (m_MOST_LETTERS : ∃ t, mg "MOST_LETTERS" = some (.int 8 t)) (m_all : mg "all" = none) (m_isinstance : mg "isinstance" = none) (m_len : mg "len" = none) (m_str : mg "str" = none) : Fd P w K mg base 1 f fd ["value"] (spC K 1 (ct_is_name )) := by
  have nd := sc_is_name.nd
  refine fd_body (N := N_is_name) (ct := ct_is_name ) F sc_is_name (fun cdv A outer s H E hr hG tk pw => have hu := Room.units hr; have hv := room_u hr; (pdss_cons (pds_if (pdt_w (pdw_or (pdt_not (pdt_tru (disiT K boot_str'' m_str m_isinstance (dv 0)))) (pdw_or1 (pdt_not (pdt_chain op_le snd_le op_le snd_le pd_int (pd_lenV (i := 0) rfl (by first | exact .inl rfl | exact .inr (.inl rfl) | exact .inr (.inr rfl)) (by rfl) m_len) (pd_globI (by rfl) m_MOST_LETTERS)))))) (pdss_one (pds_ret pd_bl)) pdss_nil)
    (pdss_one (pds_ret (pd_all rfl (by rfl) m_all (pda_cons (pd_L (pdl_lc (own := [("letter", 1)]) rfl nd (blkOk_by (by kernel_rfl)) (pdi_any (dv 0)) (fun i => (pdgw_name (i := 1) nd rfl (.inl rfl) (by decide))) (fun i => pdts_nil) (fun i => (pd_cmp (op_inA hv) snd_in (dv 1) (pd_globS (by rfl) m_LETTERS))))) pda_nil)))))) ?_
  rintro as Q E hl ⟨d, rfl, hw, q, -⟩
  have q := q _ rfl
  cases d with
  | str s =>
    have hz := wt_str hw
    have hz2 : s.cps.toList.length = s.length := by simp [Str.length]
    simp
    refine ⟨hz, ?_⟩
    split
    · rename_i h1
      split
      · rename_i h2
        refine goLc_mapl _ (fun c => .bl (decide (c ∈ letters.cps.toList))) (by simp [hz2]; omega) (fun c hc T N hT => by simpa [letters] using hT) ?_
        refine ⟨_, asB_map _ _, qb q ?_⟩
        have e1 : 1 ≤ s.length := by omega
        have e2 : s.length ≤ 8 := by omega
        simp [isNameD, e1, e2, List.all_map, Function.comp_def]
      · exact qb q (by simp [isNameD]; omega)
    · exact qb q (by simp [isNameD]; omega)
  | _ => simp_all [isNameD, D.wt]
theorem fg_is_name {P : Program} {w : World} {K : PySem.W.Frag} {mg : Str → Option Value} {base : Heap} {f : Addr} {fd : FuncData} (F : FunD K "is_name" "is_name" (defArgs s_is_name) (defBody s_is_name) (defScope s_is_name) [] [] f fd) (hm : mg "is_name" = some (.ref f)) (m_LETTERS : ∃ t, mg "LETTERS" = some (.str "abcdefghijklmnopqrstuvwxyz" t)) (m_MOST_LETTERS : ∃ t, mg "MOST_LETTERS" = some (.int 8 t)) (m_all : mg "all" = none) (m_isinstance : mg "isinstance" = none) (m_len : mg "len" = none) (m_str : mg "str" = none) : FnG P w K mg base 1 "is_name" 1 (ct_is_name ) :=
  fnG_of F sc_is_name hm (ok_is_name F m_LETTERS m_MOST_LETTERS m_all m_isinstance m_len m_str) (F.bindsN fun _ _ _ _ _ _ us hl => match us, hl with | [_], _ => rfl) Ct.ex_mono
abbrev s_is_link : Stmt := top 26
abbrev N_is_link : List Str := ["value"]
theorem sc_is_link : FnScope N_is_link ["value"] (defScope s_is_link) := ⟨rfl, rfl, rfl, by decide +kernel, rfl, by decide +kernel, by decide +kernel⟩
def ct_is_link : Ct := Ct.ex 0 (fun d : D => [some d]) (fun d => d.wt < 1000000) (fun d z => z = .bl (isLinkD d)) (fun _ _ => False)
theorem ok_is_link {P : Program} {w : World} {K : PySem.W.Frag} {mg : Str → Option Value} {base : Heap} {f : Addr} {fd : FuncData} (F : FunD K "is_link" "is_link" (defArgs s_is_link) (defBody s_is_link) (defScope s_is_link) [] [] f fd) (F_is_name : FnG P w K mg base 1 "is_name" 1 (ct_is_name )) (m_isinstance : mg "isinstance" = none) (m_len : mg "len" = none) (m_tuple : mg "tuple" = none) : Fd P w K mg base 2 f fd ["value"] (spC K 1 (ct_is_link )) := by
  have nd := sc_is_link.nd
  refine fd_body (N := N_is_link) (ct := ct_is_link ) F sc_is_link (fun cdv A outer s H E hr hG tk pw => have hu := Room.units hr; have hv := room_u hr; (pdss_one (pds_ret (pd_and (disiT K boot_tuple'' m_tuple m_isinstance (dv 0)) (pd_and (pd_cmp (op_eqP hu) snd_eq (pd_lenV (i := 0) rfl (by first | exact .inl rfl | exact .inr (.inl rfl) | exact .inr (.inr rfl)) (by rfl) m_len) pd_int) (pd_one (dcall F_is_name hr (by decide) hG tk (pda_cons (pd_ix (dv 0) pd_int) pda_nil)))))))) ?_
  rintro as Q E hl ⟨d, rfl, hw, q, -⟩
  have q := q _ rfl
  match d, hw, q with
  | .tup [], hw, q => simpa [isLinkD, ct_is_name, Ct.ex, PyData.eqv] using q
  | .tup [a], hw, q => simpa [isLinkD, ct_is_name, Ct.ex, PyData.eqv] using q
  | .tup [a, b], hw, q =>
    have h1 : a.wt < 1000000 := by simp only [D.wt, D.wtL] at hw; omega
    simpa [isLinkD, ct_is_name, Ct.ex, PyData.eqv, atI, ixN, h1] using q
  | .tup (a :: b :: c :: r), hw, q =>
    have e : ¬ ((r.length : Int) + 1 + 1 + 1 = 2) := by omega
    simpa [isLinkD, ct_is_name, Ct.ex, PyData.eqv, e] using q
  | .non, hw, q => simpa [isLinkD] using q
  | .bl _, hw, q => simpa [isLinkD] using q
  | .int _, hw, q => simpa [isLinkD] using q
  | .str _, hw, q => simpa [isLinkD] using q
  | .lst _, hw, q => simpa [isLinkD] using q
  | .ins _ _ _, hw, q => simp [D.wt] at hw
  | .dk _ _, hw, q => simp [D.wt] at hw
  | .dt _ _, hw, q => simp [D.wt] at hw
  | .scr _, hw, q => simp [D.wt] at hw
theorem fg_is_link {P : Program} {w : World} {K : PySem.W.Frag} {mg : Str → Option Value} {base : Heap} {f : Addr} {fd : FuncData} (F : FunD K "is_link" "is_link" (defArgs s_is_link) (defBody s_is_link) (defScope s_is_link) [] [] f fd) (hm : mg "is_link" = some (.ref f)) (F_is_name : FnG P w K mg base 1 "is_name" 1 (ct_is_name )) (m_isinstance : mg "isinstance" = none) (m_len : mg "len" = none) (m_tuple : mg "tuple" = none) : FnG P w K mg base 2 "is_link" 1 (ct_is_link ) :=
  fnG_of F sc_is_link hm (ok_is_link F F_is_name m_isinstance m_len m_tuple) (F.bindsN fun _ _ _ _ _ _ us hl => match us, hl with | [_], _ => rfl) Ct.ex_mono
abbrev s_may_have : Stmt := top 27
abbrev N_may_have : List Str := ["value", "nullable", "default"]
theorem sc_may_have : FnScope N_may_have ["value", "nullable", "default"] (defScope s_may_have) := ⟨rfl, rfl, rfl, by decide +kernel, rfl, by decide +kernel, by decide +kernel⟩
def ct_may_have : Ct := Ct.ex 0 (fun t : D × Bool × D => [some t.1, some (.bl t.2.1), some t.2.2]) (fun t => t.1.wt < 1000000 ∧ t.2.2.wt < 1000000) (fun t z => z = .bl (mayD t.1 t.2.1 t.2.2)) (fun _ _ => False)
theorem ok_may_have {P : Program} {w : World} {K : PySem.W.Frag} {mg : Str → Option Value} {base : Heap} {f : Addr} {fd : FuncData} {cc_Schema : Addr} (F : FunD K "may_have" "may_have" (defArgs s_may_have) (defBody s_may_have) (defScope s_may_have) [] [] f fd) (m_Schema : mg "Schema" = some (.ref cc_Schema)) (T_Schema_ACTIONS : ClsT K cc_Schema "ACTIONS" ["cascade", "set_null", "set_default", "restrict", "no_action"]) : Fd P w K mg base 1 f fd ["value", "nullable", "default"] (spC K 3 (ct_may_have )) := by
  have nd := sc_may_have.nd
  refine fd_body (N := N_may_have) (ct := ct_may_have ) F sc_may_have (fun cdv A outer s H E hr hG tk pw => have hu := Room.units hr; have hv := room_u hr; (pdss_cons (pds_if (pdt_cmp (op_eqP hu) snd_eq (dv 0) pd_str) (pdss_one (pds_ret (dv 1))) pdss_nil)
    (pdss_cons (pds_if (pdt_cmp (op_eqP hu) snd_eq (dv 0) pd_str) (pdss_one (pds_ret (pd_or (dv 1) (pd_one (pd_cmp op_notN1 snd_notN (dv 2) pd_non))))) pdss_nil)
    (pdss_one (pds_ret (pd_cmp (op_inA hv) snd_in (dv 0) (dclsT T_Schema_ACTIONS m_Schema))))))) ?_
  rintro as Q E hl ⟨⟨v, nb, df⟩, rfl, ⟨hw, hd⟩, q, -⟩
  have q := q _ rfl
  dsimp only at hw hd q
  obtain ⟨p, t⟩ := tame v hw
  simp [t.py, eqv_str t.py, eqv_str' t.py, str_depth, PyData.depthAll]
  unfold mayD at q
  by_cases h1 : v.isStr "set_null" = true
  · simpa [h1] using q
  · by_cases h2 : v.isStr "set_default" = true
    · cases nb
      · simpa [h1, h2] using q
      · simpa [h1, h2] using q
    · simpa [h1, h2, acts] using q
theorem fg_may_have {P : Program} {w : World} {K : PySem.W.Frag} {mg : Str → Option Value} {base : Heap} {f : Addr} {fd : FuncData} {cc_Schema : Addr} (F : FunD K "may_have" "may_have" (defArgs s_may_have) (defBody s_may_have) (defScope s_may_have) [] [] f fd) (hm : mg "may_have" = some (.ref f)) (m_Schema : mg "Schema" = some (.ref cc_Schema)) (T_Schema_ACTIONS : ClsT K cc_Schema "ACTIONS" ["cascade", "set_null", "set_default", "restrict", "no_action"]) : FnG P w K mg base 1 "may_have" 3 (ct_may_have ) :=
  fnG_of F sc_may_have hm (ok_may_have F m_Schema T_Schema_ACTIONS) (F.bindsN fun _ _ _ _ _ _ us hl => match us, hl with | [_, _, _], _ => rfl) Ct.ex_mono
abbrev s_check_links : Stmt := top 25
abbrev N_check_links : List Str := ["links", "nullable", "default", "link"]
theorem sc_check_links : FnScope N_check_links ["links", "nullable", "default"] (defScope s_check_links) := ⟨rfl, rfl, rfl, by decide +kernel, rfl, by decide +kernel, by decide +kernel⟩
def ct_check_links (c_BadAction : Addr) : Ct := Ct.ex 0 (fun t : List D × Bool × D => [some (.tup t.1), some (.bl t.2.1), some t.2.2]) (fun t => (D.tup t.1).wt < 1000000 ∧ t.2.2.wt < 1000000) (fun t z => t.1.find? (badL t.2.1 t.2.2) = none ∧ z = .non) (fun t x => ∃ l, t.1.find? (badL t.2.1 t.2.2) = some l ∧ x = ⟨c_BadAction, ["value"], [l]⟩)
theorem ok_check_links {P : Program} {w : World} {K : PySem.W.Frag} {mg : Str → Option Value} {base : Heap} {f : Addr} {fd : FuncData} {c_BadAction : Addr} (F : FunD K "check_links" "check_links" (defArgs s_check_links) (defBody s_check_links) (defScope s_check_links) [] [] f fd) (F_is_link : FnG P w K mg base 2 "is_link" 1 (ct_is_link )) (F_may_have : FnG P w K mg base 1 "may_have" 3 (ct_may_have )) (E_BadAction : ExG P w K mg base 1 "BadAction" c_BadAction ["value"]) : Fd P w K mg base 3 f fd ["links", "nullable", "default"] (spC K 3 (ct_check_links c_BadAction)) := by
  have nd := sc_check_links.nd
  refine fd_body (N := N_check_links) (ct := ct_check_links c_BadAction) F sc_check_links (fun cdv A outer s H E hr hG tk pw => have hu := Room.units hr; have hv := room_u hr; (pdss_one (pds_for pw rfl (pdi_any (dv 0)) (pdg_name (i := 3) nd rfl (.inl rfl)) (pdss_one (pds_if (pdt_w (pdw_or (pdt_not (pdt_tru (dcall F_is_link hr (by decide) hG tk (av 3 pda_nil)))) (pdw_or1 (pdt_not (pdt_tru (dcall F_may_have hr (by decide) hG tk (pda_cons (pd_ix (dv 3) pd_int) (av 1 (av 2 pda_nil))))))))) (pdss_one (draise E_BadAction hr (by decide) tk (av 3 pda_nil))) pdss_nil))))) ?_
  rintro as Q E hl ⟨⟨ls, nb, df⟩, rfl, ⟨hw, hd⟩, q, qe⟩
  dsimp only at hw hd q qe
  simp
  have hw2 : ∀ l ∈ ls, l.wt < 1000000 := fun l hl => by
    have := wt_mem hl
    simp only [D.wt] at hw
    omega
  refine loopD_inv (fun ds sv => (∃ s, sv = [.dat (.tup ls), .dat (.bl nb), .dat df, s]) ∧ ls.find? (badL nb df) = ds.find? (badL nb df) ∧ ∀ l ∈ ds, l.wt < 1000000) ⟨⟨_, rfl⟩, rfl, hw2⟩ (fun sv' ⟨_, e, _⟩ => q _ ⟨by simpa using e, rfl⟩) ?_
  rintro l r sv' ⟨⟨s, rfl⟩, e, hr⟩ nx hnx
  have h1 := hr l List.mem_cons_self
  have h3 : ∀ l ∈ r, l.wt < 1000000 := fun l hl => hr l (List.mem_cons_of_mem _ hl)
  simp [-Bool.exists_bool, ct_is_link, ct_may_have, Ct.ex, h1, hd]
  by_cases c : isLinkD l = true
  · obtain ⟨a, b, rfl⟩ : ∃ a b, l = .tup [a, b] := by
      unfold isLinkD at c
      split at c
      · exact ⟨_, _, rfl⟩
      · cases c
    have h4 : b.wt < 1000000 := by simp only [D.wt, D.wtL] at h1; omega
    by_cases c2 : mayD b nb df = true
    · have nb' : badL nb df (.tup [a, b]) = false := by simp [badL, c, sndD, c2]
      simp [-Bool.exists_bool, c, atI, ixN]
      refine ⟨b, nb, df, ⟨rfl, rfl, rfl⟩, ⟨h4, hd⟩, ?_⟩
      simp [c2]
      exact hnx _ ⟨⟨_, rfl⟩, by rw [e, List.find?_cons, nb'], h3⟩
    · have nb' : badL nb df (.tup [a, b]) = true := by simp [badL, c, sndD, c2]
      simp [-Bool.exists_bool, c, atI, ixN]
      refine ⟨b, nb, df, ⟨rfl, rfl, rfl⟩, ⟨h4, hd⟩, ?_⟩
      simp [c2]
      exact qe _ ⟨_, by rw [e, List.find?_cons, nb'], rfl⟩
  · have nb' : badL nb df l = true := by simp [badL, c]
    simp [c]
    exact qe _ ⟨_, by rw [e, List.find?_cons, nb'], rfl⟩
theorem fg_check_links {P : Program} {w : World} {K : PySem.W.Frag} {mg : Str → Option Value} {base : Heap} {f : Addr} {fd : FuncData} {c_BadAction : Addr} (F : FunD K "check_links" "check_links" (defArgs s_check_links) (defBody s_check_links) (defScope s_check_links) [] [] f fd) (hm : mg "check_links" = some (.ref f)) (F_is_link : FnG P w K mg base 2 "is_link" 1 (ct_is_link )) (F_may_have : FnG P w K mg base 1 "may_have" 3 (ct_may_have )) (E_BadAction : ExG P w K mg base 1 "BadAction" c_BadAction ["value"]) : FnG P w K mg base 3 "check_links" 3 (ct_check_links c_BadAction) :=
  fnG_of F sc_check_links hm (ok_check_links F F_is_link F_may_have E_BadAction) (F.bindsN fun _ _ _ _ _ _ us hl => match us, hl with | [_, _, _], _ => rfl) Ct.ex_mono
abbrev s_targets_of : Stmt := top 29
abbrev N_targets_of : List Str := ["links", "target", "_"]
theorem sc_targets_of : FnScope N_targets_of ["links"] (defScope s_targets_of) := ⟨rfl, rfl, rfl, by decide +kernel, rfl, by decide +kernel, by decide +kernel⟩
def ct_targets_of : Ct := Ct.ex 0 (fun ps : List (D × D) => [some (.tup (ps.map fun p => .tup [p.1, p.2]))]) (fun ps => ps.length ≤ 1000) (fun ps z => z = .lst (ps.map (·.1))) (fun _ _ => False)
theorem ok_targets_of {P : Program} {w : World} {K : PySem.W.Frag} {mg : Str → Option Value} {base : Heap} {f : Addr} {fd : FuncData} (F : FunD K "targets_of" "targets_of" (defArgs s_targets_of) (defBody s_targets_of) (defScope s_targets_of) [] [] f fd)  : Fd P w K mg base 1 f fd ["links"] (spC K 1 (ct_targets_of )) := by
  have nd := sc_targets_of.nd
  refine fd_body (N := N_targets_of) (ct := ct_targets_of ) F sc_targets_of (fun cdv A outer s H E hr hG tk pw => have hu := Room.units hr; have hv := room_u hr; (pdss_one (pds_ret (pd_L (pdl_lc (own := [("target", 1), ("_", 2)]) rfl nd (blkOk_by (by kernel_rfl)) (pdi_any (dv 0)) (fun i => (pdgw_tup (n := 2) rfl (pdgsw_cons (pdgw_name (i := 1) nd rfl (.inl rfl) (by decide)) (pdgsw_cons (pdgw_name (i := 2) nd rfl (.inl rfl) (by decide)) pdgsw_nil)))) (fun i => pdts_nil) (fun i => (dv 1))))))) ?_
  rintro as Q E hl ⟨ps, rfl, hw, q, -⟩
  have q := q _ rfl
  simp
  refine goLc_mapl _ (fun p : D × D => p.1) (by simp; omega) (fun p hp T N hT => by simp; exact ⟨_, _, ⟨rfl, rfl⟩, _, _, rfl, rfl, hT⟩) (by simpa using q)
theorem fg_targets_of {P : Program} {w : World} {K : PySem.W.Frag} {mg : Str → Option Value} {base : Heap} {f : Addr} {fd : FuncData} (F : FunD K "targets_of" "targets_of" (defArgs s_targets_of) (defBody s_targets_of) (defScope s_targets_of) [] [] f fd) (hm : mg "targets_of" = some (.ref f))  : FnG P w K mg base 1 "targets_of" 1 (ct_targets_of ) :=
  fnG_of F sc_targets_of hm (ok_targets_of F ) (F.bindsN fun _ _ _ _ _ _ us hl => match us, hl with | [_], _ => rfl) Ct.ex_mono
abbrev s_have_one_target_twice : Stmt := top 30
abbrev N_have_one_target_twice : List Str := ["links"]
theorem sc_have_one_target_twice : FnScope N_have_one_target_twice ["links"] (defScope s_have_one_target_twice) := ⟨rfl, rfl, rfl, by decide +kernel, rfl, by decide +kernel, by decide +kernel⟩
def ct_have_one_target_twice : Ct := Ct.ex 0 (fun ps : List (Str × D) => [some (.tup (ps.map fun p => .tup [.str p.1, p.2]))]) (fun ps => ps.length ≤ 1000) (fun ps z => z = .bl (!decide (ps.map (·.1)).Nodup)) (fun _ _ => False)
theorem ok_have_one_target_twice {P : Program} {w : World} {K : PySem.W.Frag} {mg : Str → Option Value} {base : Heap} {f : Addr} {fd : FuncData} (F : FunD K "have_one_target_twice" "have_one_target_twice" (defArgs s_have_one_target_twice) (defBody s_have_one_target_twice) (defScope s_have_one_target_twice) [] [] f fd) (F_targets_of : FnG P w K mg base 1 "targets_of" 1 (ct_targets_of )) (m_len : mg "len" = none) (m_set : mg "set" = none) : Fd P w K mg base 2 f fd ["links"] (spC K 1 (ct_have_one_target_twice )) := by
  have nd := sc_have_one_target_twice.nd
  refine fd_body (N := N_have_one_target_twice) (ct := ct_have_one_target_twice ) F sc_have_one_target_twice (fun cdv A outer s H E hr hG tk pw => have hu := Room.units hr; have hv := room_u hr; (pdss_one (pds_ret (pd_cmp op_lt snd_lt (pd_lenSet rfl m_len m_set (dcall F_targets_of hr (by decide) hG tk (av 0 pda_nil))) (pd_lenV (i := 0) rfl (by first | exact .inl rfl | exact .inr (.inl rfl) | exact .inr (.inr rfl)) (by rfl) m_len))))) ?_
  rintro as Q E hl ⟨ps, rfl, hw, q, -⟩
  have q := q _ rfl
  simp [dLenSet, ct_targets_of, Ct.ex]
  refine ⟨ps.map fun p => (.str p.1, p.2), by simp, by simpa using hw, ps.map (·.1), by simp, by simp; omega, ?_⟩
  have lt := Sx.many_lt (ps.map (·.1))
  rw [List.length_map] at lt
  refine qb q ?_
  by_cases c : (ps.map (·.1)).Nodup
  · have : ¬ Sx.many (ps.map (·.1)) ps.length < ps.length := fun z => lt.mp z c
    simp [c]
    omega
  · have : Sx.many (ps.map (·.1)) ps.length < ps.length := lt.mpr c
    simp [c]
    omega
theorem fg_have_one_target_twice {P : Program} {w : World} {K : PySem.W.Frag} {mg : Str → Option Value} {base : Heap} {f : Addr} {fd : FuncData} (F : FunD K "have_one_target_twice" "have_one_target_twice" (defArgs s_have_one_target_twice) (defBody s_have_one_target_twice) (defScope s_have_one_target_twice) [] [] f fd) (hm : mg "have_one_target_twice" = some (.ref f)) (F_targets_of : FnG P w K mg base 1 "targets_of" 1 (ct_targets_of )) (m_len : mg "len" = none) (m_set : mg "set" = none) : FnG P w K mg base 2 "have_one_target_twice" 1 (ct_have_one_target_twice ) :=
  fnG_of F sc_have_one_target_twice hm (ok_have_one_target_twice F F_targets_of m_len m_set) (F.bindsN fun _ _ _ _ _ _ us hl => match us, hl with | [_], _ => rfl) Ct.ex_mono
/-- the fields of a column -/
def colNs : List Str := ["name", "links", "nullable", "default"]
def colD (C : Addr) (t : D × D × D × D) : D := .ins C colNs [t.1, t.2.1, t.2.2.1, t.2.2.2]
def tame4 (t : D × D × D × D) : Prop := (t.1.wt < 1000000 ∧ t.1.dep ≤ 60) ∧ (t.2.1.wt < 1000000 ∧ t.2.1.dep ≤ 60) ∧ (t.2.2.1.wt < 1000000 ∧ t.2.2.1.dep ≤ 60) ∧ (t.2.2.2.wt < 1000000 ∧ t.2.2.2.dep ≤ 60)
def eq4 (a b : D × D × D × D) : Bool := eqD a.1 b.1 && (eqD a.2.1 b.2.1 && (eqD a.2.2.1 b.2.2.1 && eqD a.2.2.2 b.2.2.2))
/-- the other side of ==: a column, or tame data -/
def OkO (C : Addr) (d : D) : Prop := d.wt < 1000000 ∨ ∃ b, tame4 b ∧ d = colD C b
def eqO (C : Addr) (a : D × D × D × D) (d : D) (r : Bool) : Prop := (d.wt < 1000000 ∧ r = false) ∨ ∃ b, d = colD C b ∧ r = eq4 a b
abbrev s_Column___eq__ : Stmt := inClass (top 19) 1
abbrev N_Column___eq__ : List Str := ["self", "other"]
theorem sc_Column___eq__ : FnScope N_Column___eq__ ["self", "other"] (defScope s_Column___eq__) := ⟨rfl, rfl, rfl, by decide +kernel, rfl, by decide +kernel, by decide +kernel⟩
def ct_Column___eq__ (cc_Column : Addr) : Ct := Ct.ex 0 (fun t : (D × D × D × D) × D => [some (colD cc_Column t.1), some t.2]) (fun t => tame4 t.1 ∧ OkO cc_Column t.2) (fun t z => ∃ r, z = .bl r ∧ eqO cc_Column t.1 t.2 r) (fun _ _ => False)
theorem ok_Column___eq__ {P : Program} {w : World} {K : PySem.W.Frag} {mg : Str → Option Value} {base : Heap} {f : Addr} {fd : FuncData} {cc_Column : Addr} (F : FunD K "__eq__" "Column.__eq__" (defArgs s_Column___eq__) (defBody s_Column___eq__) (defScope s_Column___eq__) [] [] f fd) (m_Column : mg "Column" = some (.ref cc_Column)) (m_isinstance : mg "isinstance" = none) (T_Column : ClsD K cc_Column colNs) : Fd P w K mg base 1 f fd ["self", "other"] (spC K 2 (ct_Column___eq__ cc_Column)) := by
  have nd := sc_Column___eq__.nd
  refine fd_body (N := N_Column___eq__) (ct := ct_Column___eq__ cc_Column) F sc_Column___eq__ (fun cdv A outer s H E hr hG tk pw => have hu := Room.units hr; have hv := room_u hr; (pdss_one (pds_ret (pd_and (disiC K m_Column m_isinstance (dv 1)) (pd_and (pd_cmp (op_eqP hu) snd_eq (dfld K (dv 0)) (dfld K (dv 1))) (pd_and (pd_cmp (op_eqP hu) snd_eq (dfld K (dv 0)) (dfld K (dv 1))) (pd_and (pd_cmp (op_eqP hu) snd_eq (dfld K (dv 0)) (dfld K (dv 1))) (pd_one (pd_cmp (op_eqP hu) snd_eq (dfld K (dv 0)) (dfld K (dv 1))))))))))) ?_
  rintro as Q E hl ⟨⟨⟨a1, a2, a3, a4⟩, d⟩, rfl, ⟨⟨⟨h1, h1'⟩, ⟨h2, h2'⟩, ⟨h3, h3'⟩, ⟨h4, h4'⟩⟩, ho⟩, q, -⟩
  dsimp only at h1 h1' h2 h2' h3 h3' h4 h4' ho q
  have o1 := T_Column.ok "name" (by simp [colNs])
  have o2 := T_Column.ok "links" (by simp [colNs])
  have o3 := T_Column.ok "nullable" (by simp [colNs])
  have o4 := T_Column.ok "default" (by simp [colNs])
  rcases ho with hd | ⟨⟨b1, b2, b3, b4⟩, ⟨⟨g1, g1'⟩, ⟨g2, g2'⟩, ⟨g3, g3'⟩, ⟨g4, g4'⟩⟩, rfl⟩
  · have q := q _ ⟨false, rfl, .inl ⟨hd, rfl⟩⟩
    have kn := kit_no T_Column hd
    have ot := okTy_tame (K := K) hd
    simp only [dRet, dAndV, dIsi, dVar, sv0, sl0, gIsi, List.map_cons, List.map_nil, List.getElem?_cons_succ, List.getElem?_cons_zero, List.cons_append]
    exact ⟨ot, false, kn, false, rfl, by simpa using q⟩
  · have q := q (.bl (eq4 (a1, a2, a3, a4) (b1, b2, b3, b4))) ⟨_, rfl, .inr ⟨_, rfl, rfl⟩⟩
    have ks := kit_self (K := K) (C := cc_Column)
    simp only [dRet, dAndV, dIsi, dVar, sv0, sl0, gIsi, List.map_cons, List.map_nil, List.getElem?_cons_succ, List.getElem?_cons_zero, List.cons_append, colD]
    refine ⟨T_Column.ity, true, ks, true, rfl, ?_⟩
    rw [if_pos rfl]
    refine ⟨o1, a1, rfl, o1, b1, rfl, gEq_tame h1 g1 h1' ⟨_, rfl, ?_⟩⟩
    cases e1 : eqD a1 b1 with
    | false => simpa [eq4, e1] using q
    | true =>
      refine ⟨o2, a2, rfl, o2, b2, rfl, gEq_tame h2 g2 h2' ⟨_, rfl, ?_⟩⟩
      cases e2 : eqD a2 b2 with
      | false => simpa [eq4, e1, e2] using q
      | true =>
        refine ⟨o3, a3, rfl, o3, b3, rfl, gEq_tame h3 g3 h3' ⟨_, rfl, ?_⟩⟩
        cases e3 : eqD a3 b3 with
        | false => simpa [eq4, e1, e2, e3] using q
        | true =>
          refine ⟨o4, a4, rfl, o4, b4, rfl, gEq_tame h4 g4 h4' ?_⟩
          simpa [eq4, e1, e2, e3] using q
theorem fg_Column___eq__ {P : Program} {w : World} {K : PySem.W.Frag} {mg : Str → Option Value} {base : Heap} {f : Addr} {fd : FuncData} {cc_Column : Addr} (F : FunD K "__eq__" "Column.__eq__" (defArgs s_Column___eq__) (defBody s_Column___eq__) (defScope s_Column___eq__) [] [] f fd) (hm : mg "__eq__" = some (.ref f)) (m_Column : mg "Column" = some (.ref cc_Column)) (m_isinstance : mg "isinstance" = none) (T_Column : ClsD K cc_Column colNs) : FnG P w K mg base 1 "__eq__" 2 (ct_Column___eq__ cc_Column) :=
  fnG_of F sc_Column___eq__ hm (ok_Column___eq__ F m_Column m_isinstance T_Column) (F.bindsN fun _ _ _ _ _ _ us hl => match us, hl with | [_, _], _ => rfl) Ct.ex_mono
end K2
end
section
set_option autoImplicit true
set_option Elab.async false
set_option linter.all false
set_option maxRecDepth 100000
set_option maxHeartbeats 4000000
namespace K2
open PySem PySem.Spec PyProof.Rows L2 Pd
inductive Out where
  | ok | name | col | act (l : D)
def blOf : D → Bool
  | .bl b => b
  | _ => false
def fstS : D → Str
  | .tup [.str s, _] => s
  | _ => ""
def colOut (t : D) (ls : List D) (nb df : D) : Out :=
  if !isNameD t || t.isStr "id" then .name
  else if !isBlD nb || !(df.isNon || isIntD df) then .col
  else match ls.find? (badL (blOf nb) df) with
    | some l => .act l
    | none => if !decide (ls.map fstS).Nodup || decide (4 < ls.length) then .col else .ok
def ciCol (cn cb ca : Addr) : Ci := fun ds Q E => ∃ (t nb df : D) (ls : List D), ds = [t, nb, df, .tup ls] ∧ (t.wt < 1000000 ∧ nb.wt < 1000000 ∧ df.wt < 1000000 ∧ (D.tup ls).wt < 1000000 ∧ ls.length ≤ 1000) ∧
  match colOut t ls nb df with
  | .ok => Q [t, .tup ls, nb, df]
  | .name => E ⟨cn, ["value"], [t]⟩
  | .col => E ⟨cb, ["name"], [t]⟩
  | .act l => E ⟨ca, ["value"], [l]⟩
theorem ciCol_mono {cn cb ca : Addr} : ∀ ds Q Q' E E', (∀ d, Q d → Q' d) → (∀ x, E x → E' x) → ciCol cn cb ca ds Q E → ciCol cn cb ca ds Q' E' := by
  rintro ds Q Q' E E' h1 h2 ⟨t, nb, df, ls, e, hw, h⟩
  refine ⟨t, nb, df, ls, e, hw, ?_⟩
  cases c : colOut t ls nb df with
  | ok => rw [c] at h; exact h1 _ h
  | name => rw [c] at h; exact h2 _ h
  | col => rw [c] at h; exact h2 _ h
  | act l => rw [c] at h; exact h2 _ h
theorem links_of {nb : Bool} {df : D} : ∀ {ls : List D}, ls.find? (badL nb df) = none → ∃ ps : List (Str × D), ls = ps.map (fun p => .tup [.str p.1, p.2]) ∧ ls.map fstS = ps.map (·.1)
  | [], _ => ⟨[], rfl, rfl⟩
  | l :: ls, h => by
    rw [List.find?_cons] at h
    cases c : badL nb df l with
    | true => rw [c] at h; cases h
    | false =>
      rw [c] at h
      obtain ⟨ps, e1, e2⟩ := links_of h
      have c1 : isLinkD l = true := by
        unfold badL at c
        simp at c
        exact c.1
      unfold isLinkD at c1
      split at c1
      · rename_i a b
        cases a with
        | str s => exact ⟨(s, b) :: ps, by simp [e1], by simp [fstS, e2]⟩
        | _ => cases c1
      · cases c1
def BodyI (P : Program) (w : World) (K : PySem.W.Frag) (mg : Str → Option Value) (base : Heap) (f : Addr) (k : Nat) (N : List Str) (qual : Str) (body : List Stmt) (scope : Scope) (sp : Sp) : Prop :=
  ∀ (cdv : Value) (A : Around) (outer : List Env) (s : Shared) (H : Hp) (vs : List V) (Q : VK) (E : XK), Room k (A.deeper (envOfC qual scope s.heap.objs.size f cdv)) → A.guards = some [] → sp vs H Q E →
      ∃ t, PSs (cxOf (L2.CX P w) P w K mg base N qual scope f cdv A outer s H E) body t ∧ t { nx := fun _ H' => Q .non H', rt := Q } (L2.start N vs) H
abbrev kwsC : List (Str × V) := [("nullable", .bl false), ("default", .non)]
abbrev s_Column___init__ : Stmt := inClass (top 19) 0
abbrev N_Column___init__ : List Str := ["self", "name", "nullable", "default", "references"]
theorem sc_Column___init__ : FnScope N_Column___init__ ["self", "name", "nullable", "default", "references"] (defScope s_Column___init__) := ⟨rfl, rfl, rfl, by decide +kernel, rfl, by decide +kernel, by decide +kernel⟩
theorem bd_Column {P : Program} {w : World} {K : PySem.W.Frag} {mg : Str → Option Value} {base : Heap} {f : Addr} {fd : FuncData} {c_BadAction c_BadColumn c_BadName cc_Column : Addr} (m_MOST_LINKS : ∃ t, mg "MOST_LINKS" = some (.int 4 t)) (m_bool : mg "bool" = none) (F_check_links : FnG P w K mg base 3 "check_links" 3 (ct_check_links c_BadAction)) (F_have_one_target_twice : FnG P w K mg base 2 "have_one_target_twice" 1 (ct_have_one_target_twice )) (F_is_integer : FnG P w K mg base 1 "is_integer" 1 (ct_is_integer )) (F_is_name : FnG P w K mg base 1 "is_name" 1 (ct_is_name )) (E_BadColumn : ExG P w K mg base 1 "BadColumn" c_BadColumn ["name"]) (E_BadName : ExG P w K mg base 1 "BadName" c_BadName ["value"]) (m_isinstance : mg "isinstance" = none) (m_len : mg "len" = none) (T_Column : ClsD K cc_Column colNs) : BodyI P w K mg base f (4 - 1) N_Column___init__ "Column.__init__" (defBody s_Column___init__) (defScope s_Column___init__) (spI K cc_Column 4 colNs (ciCol c_BadName c_BadColumn c_BadAction)) := by
  have nd := sc_Column___init__.nd
  refine init_body (N := N_Column___init__) (ps := ["self", "name", "nullable", "default", "references"]) (by decide) (fun cdv A outer s H E hr hG tk pw => have hu := Room.units hr; have hv := room_u hr; (pdss_cons (pds_if (pdt_w (pdw_or (pdt_not (pdt_tru (dcall F_is_name hr (by decide) hG tk (av 1 pda_nil)))) (pdw_or1 (pdt_cmp (op_eqP hu) snd_eq (dv 1) pd_str)))) (pdss_one (draise E_BadName hr (by decide) tk (av 1 pda_nil))) pdss_nil)
    (pdss_cons (pds_if (pdt_w (pdw_or (pdt_not (pdt_tru (disiT K boot_bool'' m_bool m_isinstance (dv 2)))) (pdw_or1 (pdt_not (pdt_w (pdw_or (pdt_cmp op_isN1 snd_isN (dv 3) pd_non) (pdw_or1 (pdt_tru (dcall F_is_integer hr (by decide) hG tk (av 3 pda_nil)))))))))) (pdss_one (draise E_BadColumn hr (by decide) tk (av 1 pda_nil))) pdss_nil)
    (pdss_cons (pds_expr (dcall F_check_links hr (by decide) hG tk (av 4 (av 2 (av 3 pda_nil)))))
    (pdss_cons (pds_if (pdt_w (pdw_or (pdt_tru (dcall F_have_one_target_twice hr (by decide) hG tk (av 4 pda_nil))) (pdw_or1 (pdt_cmp op_gt snd_gt (pd_lenV (i := 4) rfl (by first | exact .inl rfl | exact .inr (.inl rfl) | exact .inr (.inr rfl)) (by rfl) m_len) (pd_globI (by rfl) m_MOST_LINKS))))) (pdss_one (draise E_BadColumn hr (by decide) tk (av 1 pda_nil))) pdss_nil)
    (pdss_cons (dself K 0 (dv 1))
    (pdss_cons (dself K 0 (dv 4))
    (pdss_cons (dself K 0 (dv 2))
    (pdss_one (dself K 0 (dv 3))))))))))) ?_
  rintro ds Q E hl ⟨t, nb, df, ls, rfl, ⟨h1, h2, h3, h4, h5⟩, h⟩
  have o1 := T_Column.ok "name" (by simp [colNs])
  have o2 := T_Column.ok "links" (by simp [colNs])
  have o3 := T_Column.ok "nullable" (by simp [colNs])
  have o4 := T_Column.ok "default" (by simp [colNs])
  obtain ⟨p, tp⟩ := tame t h1
  unfold colOut at h
  cases c1 : isNameD t with
  | false => simpa [-Bool.exists_bool, ct_is_name, Ct.ex, h1, c1] using h
  | true =>
  cases c2 : t.isStr "id" with
  | true => simpa [-Bool.exists_bool, ct_is_name, Ct.ex, h1, c1, c2, tp.py, eqv_str tp.py] using h
  | false =>
  rw [c1, c2] at h
  cases nb with
  | ins _ _ _ => simp [D.wt] at h2
  | dk _ _ => simp [D.wt] at h2
  | dt _ _ => simp [D.wt] at h2
  | scr _ => simp [D.wt] at h2
  | bl bb =>
    cases df with
    | ins _ _ _ => simp [D.wt] at h3
    | dk _ _ => simp [D.wt] at h3
    | dt _ _ => simp [D.wt] at h3
    | scr _ => simp [D.wt] at h3
    | non | int _ =>
      all_goals
        simp [-Bool.exists_bool, ct_is_name, ct_is_integer, ct_check_links, ct_have_one_target_twice, Ct.ex, h1, h3, c1, c2, tp.py, eqv_str tp.py, isIntD]
        simp [isBlD, isIntD, blOf] at h
        refine ⟨ls, bb, _, ⟨rfl, rfl, rfl⟩, ⟨h4, h3⟩, fun hall => ?_, fun x l e1 e2 => ?_⟩
        · have e0 : ls.find? (badL bb _) = none := List.find?_eq_none.mpr fun x hx => by rw [hall x hx]; decide
          rw [e0] at h
          obtain ⟨ps, e1, e2⟩ := links_of e0
          refine ⟨ps, e1, by rw [e1, List.length_map] at h5; exact h5, _, (by rw [Bool.not_not]), ?_⟩
          rw [e2] at h
          by_cases nd' : (ps.map (·.1)).Nodup
          · have x1 : (!decide (ps.map (·.1)).Nodup) = false := by simp [nd']
            rw [x1]
            by_cases l4 : 4 < ls.length
            · have l5 : (4 : Int) < ls.length := by omega
              simpa [nd', l4, l5] using h
            · have l5 : ¬ (4 : Int) < ls.length := by omega
              simp only [if_neg l5]
              refine ⟨_, _, _, ⟨rfl, rfl, rfl⟩, o1, by decide, by decide, _, _, _, ⟨rfl, rfl, rfl⟩, o2, by decide, by decide, _, _, _, ⟨rfl, rfl, rfl⟩, o3, by decide, by decide, _, _, _, ⟨rfl, rfl, rfl⟩, o4, by decide, by decide, ?_⟩
              simpa [nd', l4, colNs] using h
          · have x1 : (!decide (ps.map (·.1)).Nodup) = true := by simp [nd']
            rw [x1]
            simpa [nd'] using h
        · rw [e1] at h
          rw [e2]
          exact h
    | _ => simpa [-Bool.exists_bool, ct_is_name, ct_is_integer, Ct.ex, h1, h3, c1, c2, tp.py, eqv_str tp.py, isIntD, isBlD] using h
  | _ => simpa [-Bool.exists_bool, ct_is_name, Ct.ex, h1, c1, c2, tp.py, eqv_str tp.py, isBlD] using h
theorem fnI_imp {P : Program} {w : World} {K : PySem.W.Frag} {mg : Str → Option Value} {base : Heap} {k : Nat} {f : Addr} {ks : List Str} {sp sp' : List V → List V → Hp → VK → XK → Prop} (h : FnI P w K mg base k f ks sp) (i : ∀ vs zs H Q E, sp' vs zs H Q E → sp vs zs H Q E) : FnI P w K mg base k f ks sp' :=
  fun A outer s H us ws vs zs Q E hr hG e0 r rz lz hsp => h A outer s H us ws vs zs Q E hr hG e0 r rz lz (i vs zs H Q E hsp)
abbrev gV1 : List V → List V → List V := fun vs zs => vs ++ zs
abbrev gD1 : List D → List D → List D := fun vs zs => vs ++ zs
abbrev gV2 : List V → List V → List V := fun vs zs => vs ++ zs.reverse
abbrev gD2 : List D → List D → List D := fun vs zs => vs ++ zs.reverse
abbrev gV3 : List V → List V → List V := fun vs zs => vs ++ [.bl false, .non]
abbrev gD3 : List D → List D → List D := fun vs zs => vs ++ [.bl false, .non]
theorem valsRev : ∀ {xs : List V} {us : List Value}, Vals xs us → Vals xs.reverse us.reverse
  | _, _, .nil => .nil
  | _, _, .cons r t => by
    rw [List.reverse_cons, List.reverse_cons]
    exact (valsRev t).append (.cons r .nil)
section
variable {P : Program} {w : World} {K : PySem.W.Frag} {mg : Str → Option Value} {base : Heap} {f C c1 c2 c3 : Addr} {fd : FuncData}
abbrev FDC (K : PySem.W.Frag) (f : Addr) (fd : FuncData) : Prop := FunD K "__init__" "Column.__init__" (defArgs s_Column___init__) (defBody s_Column___init__) (defScope s_Column___init__) [] kwsC f fd
abbrev BDC (P : Program) (w : World) (K : PySem.W.Frag) (mg : Str → Option Value) (base : Heap) (f C c1 c2 c3 : Addr) : Prop := BodyI P w K mg base f (4 - 1) N_Column___init__ "Column.__init__" (defBody s_Column___init__) (defScope s_Column___init__) (spI K C 4 colNs (ciCol c1 c2 c3))
theorem cn_a (F : FDC K f fd) (B : BDC P w K mg base f C c1 c2 c3) (M : Mk K C f) (hm : mg "Column" = some (.ref C)) : CnG P w K mg base 4 "Column" C ["nullable", "default"] 1 4 colNs gV1 gD1 (ciCol c1 c2 c3) := by
  refine ⟨ciCol_mono, fun P ds es vs zs h1 h2 h3 h4 => ⟨h3.append h4, by simp [h1, h2]⟩, ⟨f, M, fnI_imp (init_star (ps := ["self", "name", "nullable", "default"]) (pv := "references") (m := 2) (lack := []) (fun us mv ws => us ++ ws) F sc_Column___init__ (fun q hq => by cases hq) (fun a b c => a.append c) (fun a b c => by simp [a, c])
    (fun kV D doc pm an cdv ct us rest mv ws hk h1 h2 h3 => ?_) B) ?_⟩, hm⟩
  · match us, ws, mv, rest with
    | [a, b], [c, d], [], [] => rfl
    | [a, b], [c, d], [], r :: rs => rfl
  · rintro vs zs H Q E ⟨a, ws, rest, rfl, hl, hz, h⟩
    exact ⟨a :: ws, rest, rfl, by simp [hl], hz, h⟩
theorem cn_b (F : FDC K f fd) (B : BDC P w K mg base f C c1 c2 c3) (M : Mk K C f) (hm : mg "Column" = some (.ref C)) : CnG P w K mg base 4 "Column" C ["default", "nullable"] 1 4 colNs gV2 gD2 (ciCol c1 c2 c3) := by
  refine ⟨ciCol_mono, fun P ds es vs zs h1 h2 h3 h4 => ?_, ⟨f, M, fnI_imp (init_star (ps := ["self", "name", "nullable", "default"]) (pv := "references") (m := 2) (lack := []) (fun us mv ws => us ++ ws.reverse) F sc_Column___init__ (fun q hq => by cases hq) (fun a b c => ?_) (fun a b c => by simp [a, c])
    (fun kV D doc pm an cdv ct us rest mv ws hk h1 h2 h3 => ?_) B) ?_⟩, hm⟩
  · match es, h2, h4 with
    | [x, y], _, h4 =>
      obtain ⟨v, r, rfl, e1, v2, r2, rfl, e2, h5⟩ := h4
      obtain rfl : r2 = [] := h5
      exact ⟨h3.append (show RpL K P [y, x] [v2, v] from ⟨_, _, rfl, e2, _, _, rfl, e1, rfl⟩), by simp [h1]⟩
  · exact a.append (valsRev c)
  · match us, ws, mv, rest with
    | [a, b], [c, d], [], [] => rfl
    | [a, b], [c, d], [], r :: rs => rfl
  · rintro vs zs H Q E ⟨a, ws, rest, rfl, hl, hz, h⟩
    exact ⟨a :: ws, rest, rfl, by simp [hl], hz, h⟩
theorem cn_c (F : FDC K f fd) (B : BDC P w K mg base f C c1 c2 c3) (M : Mk K C f) (hm : mg "Column" = some (.ref C)) : CnG P w K mg base 4 "Column" C [] 1 4 colNs gV3 gD3 (ciCol c1 c2 c3) := by
  refine ⟨ciCol_mono, fun P ds es vs zs h1 h2 h3 h4 => ⟨h3.append (show RpL K P [.bl false, .non] [.bl false, .non] from ⟨_, _, rfl, rfl, _, _, rfl, rfl, rfl⟩), by simp [h1]⟩, ⟨f, M, fnI_imp (init_star (ps := ["self", "name", "nullable", "default"]) (pv := "references") (m := 2) (lack := kwsC) (fun us mv ws => us ++ mv) F sc_Column___init__ (fun q hq => hq) (fun a b c => a.append b) (fun a b c => by simp [a, b])
    (fun kV D doc pm an cdv ct us rest mv ws hk h1 h2 h3 => ?_) B) ?_⟩, hm⟩
  · obtain rfl : kV = .ref D := hk.resolve_left (by simp)
    match us, ws, mv, rest with
    | [a, b], [], [c, d], [] => exact ⟨_, _, _, _, _, _, rfl, rfl, _, _, _, _, _, _, rfl, rfl, rfl⟩
    | [a, b], [], [c, d], r :: rs => exact ⟨_, _, _, _, _, _, rfl, rfl, _, _, _, _, _, _, rfl, rfl, rfl⟩
  · rintro vs zs H Q E ⟨a, ws, rest, rfl, hl, hz, h⟩
    exact ⟨a :: ws, rest, rfl, by simp [hl], hz, h⟩
end

end K2
end
section
set_option autoImplicit true
set_option Elab.async false
set_option linter.all false
set_option maxRecDepth 100000
set_option maxHeartbeats 4000000
namespace K2
open PySem PySem.Spec PyProof.Rows L2 Pd
abbrev sT : Stmt := top 39
abbrev NT : List Str := ["_law_bag_here", "_law_many", "_law_digit", "_law_mixed"]
theorem scT : FnScope NT ["_law_bag_here", "_law_many"] (defScope sT) := ⟨rfl, rfl, rfl, by decide +kernel, rfl, by decide +kernel, by decide +kernel⟩
/-- a draw: below so many -/
def ctTake : Ct := ⟨1, fun as Q _ => ∃ m : Int, as = [none, some (.int m)] ∧ 0 < m ∧ m < 2 ^ 60 ∧ ∀ j : Int, 0 ≤ j → j < m → Q (.int j)⟩
theorem ctTake_mono : ∀ as Q Q' E E', (∀ d, Q d → Q' d) → (∀ x, E x → E' x) → ctTake.c as Q E → ctTake.c as Q' E' := fun as Q Q' E E' h1 h2 ⟨m, e, a, b, q⟩ => ⟨m, e, a, b, fun j x y => h1 _ (q j x y)⟩
section
variable {P : Program} {w : World} {K : PySem.W.Frag} {mg : Str → Option Value} {base : Heap} {f : Addr} {fd : FuncData}
theorem okT {k : Nat} (F : FunD K "_law_take" "_law_take" (defArgs sT) (defBody sT) (defScope sT) [] [] f fd) (m_int : mg "int" = none) : Fd P w K mg base (k + 1) f fd ["_law_bag_here", "_law_many"] (spC K 2 ctTake) := by
  have nd := scT.nd
  refine fd_of F scT spC_len fun cdv A outer s H vs Q E hr hG hsp => ⟨_, (pss_cons (ps_if (pt_cmpR op_gt (pe_ix ix_list (pv 0) pe_int (fun _ _ => rfl)) pe_int (nomark _))
      (pss_cons (ps_set (i := 2) nd rfl (.inl rfl) (pe_callTy call_int1 (by rfl) m_int boot_int'' (pa_cons (pe_op op_mod (pe_ix ix_list (pv 0) pe_int (fun _ _ => rfl)) (pv 1)) pa_nil)))
      (pss_cons (ps_asg (pe_op op_fdivW (pe_ix ix_list (pv 0) pe_int (fun _ _ => rfl)) (pv 1)) (pg_sub (pv 0) pe_int set_list))
      (pss_one (ps_ret (pv 2))))) pss_nil)
    (pss_cons (ps_asg (pe_op op_add (pe_ix ix_list (pv 0) pe_int (fun _ _ => rfl)) pe_int) (pg_sub (pv 0) pe_int set_list))
    (pss_cons (ps_set (i := 3) nd rfl (.inl rfl) (pe_op op_mod (pe_op op_pow (pe_op op_add (pe_ix ix_list (pv 0) pe_int (fun _ _ => rfl)) (pe_op op_mul pe_int (pe_ix ix_list (pv 0) pe_int (fun _ _ => rfl)))) pe_int) pe_int))
    (pss_cons (ps_set (i := 3) nd rfl (.inl rfl) (pe_op op_mod (pe_op op_pow (pe_op op_add (pv 3) (pe_op op_mul pe_int (pe_ix ix_list (pv 0) pe_int (fun _ _ => rfl)))) pe_int) pe_int))
    (pss_one (ps_ret (pe_callTy call_int1 (by rfl) m_int boot_int'' (pa_cons (pe_op op_mod (pe_op op_fdivW (pv 3) pe_int) (pv 1)) pa_nil)))))))), ?_⟩
  obtain ⟨P0, B, L, as, h1, h2, h3, h4, h5, h6, m, rfl, hm0, hm1, hq⟩ := hsp
  obtain ⟨v0, r0, rfl, ⟨p, rfl, hB⟩, v1, r1, rfl, e1, rfl⟩ := h3
  obtain rfl : v1 = .int m := e1
  obtain ⟨hP, x, y, z, hH, hx, hy0, hy1, hz0, hzL⟩ := h6 p hB
  have hzL : z + 1 ≤ L := hzL
  have bl : SqL K H p [.int x, .int y, .int z] := SqL.of hH
  refine ⟨.ref p, rfl, p, _, 0, .int x, rfl, rfl, bl, rfl, x, 0, rfl, rfl, _, rfl, ?_⟩
  have done_ : ∀ (H' : Hp) (j : Int), 0 ≤ j → j < m → (∃ x y z : Int, H' = upd H p (.lst [.int x, .int y, .int z]) ∧ 0 ≤ x ∧ 0 ≤ y ∧ y < 2 ^ 61 ∧ 0 ≤ z ∧ z ≤ L) → Q (.int j) H' := fun H' j hj0 hjm ⟨x', y', z', eH, a1, a2, a3, a4, a5⟩ => by
    subst eH
    refine hq j hj0 hjm (.int j) _ P0 ⟨fun a o e => ?_, Sub.refl P0, fun a o e => .inl e, fun a o e nb => ?_, fun a ha => ?_⟩ rfl
    · have ne : a ≠ p := fun q => by
        rw [q, hP] at e
        cases e
      rw [upd_ne ne]
      exact h1 a o e
    · have ne : a ≠ p := fun q => nb (by rw [q]; exact hB)
      rw [upd_ne ne]
      exact e
    · by_cases ea : a = p
      · exact ⟨x', y', z', by rw [ea, upd_same], a1, a2, a3, a4, by simpa using a5⟩
      · obtain ⟨_, d⟩ := h6 a ha
        obtain ⟨x1, y1, z1, b1, b2, b3, b4, b5, b6⟩ := d
        exact ⟨x1, y1, z1, by rw [upd_ne ea]; exact b1, b2, b3, b4, b5, by have b6 : z1 + 1 ≤ L := b6; simp; omega⟩
  by_cases hx0 : 0 < x
  · rw [decide_eq_true hx0]
    refine ⟨.ref p, rfl, p, _, 0, .int x, rfl, rfl, bl, rfl, .int m, rfl, x, m, rfl, rfl, hm0, .inl ⟨x % m, rfl, ?_⟩⟩
    refine ⟨.ref p, rfl, p, _, 0, .int x, rfl, rfl, bl, rfl, .int m, rfl, x, m, rfl, rfl, wide_div hm0 (b := 60) (by omega) (by decide) (by decide), ?_⟩
    refine ⟨.ref p, rfl, p, _, 0, 0, rfl, rfl, hH, rfl, ?_⟩
    refine ⟨.int (x % m), rfl, done_ _ _ (Int.emod_nonneg _ (by omega)) (Int.emod_lt_of_pos _ hm0) ⟨x / m, y, z, rfl, Int.ediv_nonneg hx (by omega), hy0, hy1, hz0, by omega⟩⟩
  · rw [decide_eq_false hx0]
    have hL : L ≤ 2 ^ 39 := h2
    refine ⟨.ref p, rfl, p, _, 2, .int z, rfl, rfl, bl, rfl, z, 1, rfl, rfl, ?_⟩
    refine ⟨.ref p, rfl, p, _, 2, 2, rfl, rfl, hH, rfl, ?_⟩
    have b2 : SqL K (upd H p (.lst [.int x, .int y, .int (z + 1)])) p [.int x, .int y, .int (z + 1)] := SqL.of upd_same
    refine ⟨.ref p, rfl, p, _, 1, .int y, rfl, rfl, b2, rfl, .ref p, rfl, p, _, 2, .int (z + 1), rfl, rfl, b2, rfl, 1000003, z + 1, rfl, rfl, .inl (by decide), ?_⟩
    have g1 : ∀ a : Int, 0 ≤ a % 2305843009213693921 ∧ a % 2305843009213693921 < 2305843009213693921 := fun a => ⟨Int.emod_nonneg _ (by decide), Int.emod_lt_of_pos _ (by decide)⟩
    have g2 : ∀ a : Int, 0 ≤ a % 2305843009213693951 ∧ a % 2305843009213693951 < 2305843009213693951 := fun a => ⟨Int.emod_nonneg _ (by decide), Int.emod_lt_of_pos _ (by decide)⟩
    have bnd : ∀ u : Int, 0 ≤ u ∧ u < 2305843009213693921 → (u + 15485863 * (z + 1)).natAbs < 2 ^ 64 := fun u ⟨_, _⟩ => by omega
    refine ⟨y, 1000003 * (z + 1), rfl, rfl, y + 1000003 * (z + 1), 3, rfl, rfl, ⟨by decide, by decide, by omega⟩, _, 2305843009213693921, rfl, rfl, (show (0 : Int) < 2305843009213693921 by decide), ?_⟩
    refine ⟨_, rfl, .ref p, rfl, p, _, 2, .int (z + 1), rfl, rfl, b2, rfl, 15485863, z + 1, rfl, rfl, .inl (by decide), ?_⟩
    refine ⟨_, 15485863 * (z + 1), rfl, rfl, _, 2, rfl, rfl, ⟨by decide, by decide, bnd _ (g1 _)⟩, _, 2305843009213693951, rfl, rfl, (show (0 : Int) < 2305843009213693951 by decide), ?_⟩
    refine ⟨_, rfl, _, 2048, rfl, rfl, wide_div (by decide) (b := 60) (by decide) (by decide) (by decide), .int m, rfl, _, m, rfl, rfl, hm0, .inl ⟨_, rfl, ?_⟩⟩
    exact done_ _ _ (Int.emod_nonneg _ (by omega)) (Int.emod_lt_of_pos _ hm0) ⟨x, y, z + 1, rfl, hx, hy0, hy1, by omega, hzL⟩
end
abbrev s__law_of : Stmt := top 40
abbrev N__law_of : List Str := ["_law_bag_here", "_law_some"]
theorem sc__law_of : FnScope N__law_of ["_law_bag_here", "_law_some"] (defScope s__law_of) := ⟨rfl, rfl, rfl, by decide +kernel, rfl, by decide +kernel, by decide +kernel⟩
def ct__law_of : Ct := Ct.ex 1 (fun xs : List D => [none, some (.lst xs)]) (fun xs => 0 < xs.length ∧ xs.length ≤ 1000) (fun xs d => d ∈ xs) (fun _ _ => False)
theorem ok__law_of {P : Program} {w : World} {K : PySem.W.Frag} {mg : Str → Option Value} {base : Heap} {f : Addr} {fd : FuncData} (F : FunD K "_law_of" "_law_of" (defArgs s__law_of) (defBody s__law_of) (defScope s__law_of) [] [] f fd) (F__law_take : FnG P w K mg base 1 "_law_take" 2 (ctTake )) (m_len : mg "len" = none) : Fd P w K mg base 2 f fd ["_law_bag_here", "_law_some"] (spC K 2 (ct__law_of )) := by
  have nd := sc__law_of.nd
  refine fd_body (N := N__law_of) (ct := ct__law_of ) F sc__law_of (fun cdv A outer s H E hr hG tk pw => have hu := Room.units hr; have hv := room_u hr; (pdss_one (pds_ret (pd_ix (dv 1) (dcall F__law_take hr (by decide) hG tk (av 0 (pda_cons (pd_lenV (i := 1) rfl (by first | exact .inl rfl | exact .inr (.inl rfl) | exact .inr (.inr rfl)) (by rfl) m_len) pda_nil))))))) ?_
  rintro as Q E hl ⟨xs, rfl, ⟨h0, h1⟩, q, -⟩
  dsimp only at h0 h1 q
  simp [ctTake, ct__law_of, Ct.ex]
  refine ⟨h0, by omega, fun j hj0 hj1 => ?_⟩
  obtain ⟨n, rfl⟩ := Int.eq_ofNat_of_zero_le hj0
  have hn : n < xs.length := by omega
  refine ⟨xs[n], ?_, q _ (List.getElem_mem hn)⟩
  simp [atI, ixN, hn]
theorem fg__law_of {P : Program} {w : World} {K : PySem.W.Frag} {mg : Str → Option Value} {base : Heap} {f : Addr} {fd : FuncData} (F : FunD K "_law_of" "_law_of" (defArgs s__law_of) (defBody s__law_of) (defScope s__law_of) [] [] f fd) (hm : mg "_law_of" = some (.ref f)) (F__law_take : FnG P w K mg base 1 "_law_take" 2 (ctTake )) (m_len : mg "len" = none) : FnG P w K mg base 2 "_law_of" 2 (ct__law_of ) :=
  fnG_of F sc__law_of hm (ok__law_of F F__law_take m_len) (F.bindsN fun _ _ _ _ _ _ us hl => match us, hl with | [_, _], _ => rfl) Ct.ex_mono
abbrev s__law_links : Stmt := top 41
abbrev N__law_links : List Str := ["_law_bag_here", "_law_names", "_law_actions", "_law_most", "_law_left", "_law_found", "_law_turn"]
theorem sc__law_links : FnScope N__law_links ["_law_bag_here", "_law_names", "_law_actions", "_law_most"] (defScope s__law_links) := ⟨rfl, rfl, rfl, by decide +kernel, rfl, by decide +kernel, by decide +kernel⟩
def ct__law_links : Ct := Ct.ex 9 (fun t : List Str × List Str => [none, some (.lst (t.1.map .str)), some (.lst (t.2.map .str)), some (.int 4)]) (fun t => t.1.Nodup ∧ t.1.length ≤ 4 ∧ 0 < t.2.length ∧ t.2.length ≤ 20) (fun t z => ∃ ps : List (Str × Str), z = .lst (ps.map fun p => .tup [.str p.1, .str p.2]) ∧ (ps.map (·.1)).Nodup ∧ ps.length ≤ 4 ∧ ∀ p ∈ ps, p.1 ∈ t.1 ∧ p.2 ∈ t.2) (fun _ _ => False)
theorem ok__law_links {P : Program} {w : World} {K : PySem.W.Frag} {mg : Str → Option Value} {base : Heap} {f : Addr} {fd : FuncData} (F : FunD K "_law_links" "_law_links" (defArgs s__law_links) (defBody s__law_links) (defScope s__law_links) [] [] f fd) (F__law_of : FnG P w K mg base 2 "_law_of" 2 (ct__law_of )) (F__law_take : FnG P w K mg base 1 "_law_take" 2 (ctTake )) (m_len : mg "len" = none) (m_list : mg "list" = none) (m_range : mg "range" = none) : Fd P w K mg base 3 f fd ["_law_bag_here", "_law_names", "_law_actions", "_law_most"] (spC K 4 (ct__law_links )) := by
  have nd := sc__law_links.nd
  refine fd_body (N := N__law_links) (ct := ct__law_links ) F sc__law_links (fun cdv A outer s H E hr hG tk pw => have hu := Room.units hr; have hv := room_u hr; (pdss_cons (pds_parLL (i := 4) (j := 5) rfl nd rfl rfl (by decide) rfl rfl (pdl_list (by rfl) m_list (av 1 pda_nil)) (pdl_lst pda_nil) (by rfl))
    (pdss_cons (pds_for pw rfl (pdi_range (by rfl) m_range (pda_cons (dcall F__law_of hr (by decide) hG tk (av 0 (pda_cons (pd_L (pdl_lst (pda_cons pd_int (pda_cons pd_int (pda_cons pd_int (pda_cons pd_int (pda_cons pd_int (pda_cons pd_int (pda_cons pd_int pda_nil))))))))) pda_nil))) pda_nil)) (pdg_name (i := 6) nd rfl (.inl rfl)) (pdss_one (pds_if (pdt_w (pdw_and (pdt_neNil (i := 4) hu rfl (by first | exact .inl rfl | exact .inr (.inl rfl) | exact .inr (.inr rfl))) (pdw_and1 (pdt_cmp op_lt snd_lt (pd_lenV (i := 5) rfl (by first | exact .inl rfl | exact .inr (.inl rfl) | exact .inr (.inr rfl)) (by rfl) m_len) (dv 3))))) (pdss_one (pds_expr (pd_append (i := 5) rfl (.inl rfl) (pda_cons (pd_tup (pda_cons (pd_popAt (i := 4) rfl (.inl rfl) (pda_cons (dcall F__law_take hr (by decide) hG tk (av 0 (pda_cons (pd_lenV (i := 4) rfl (by first | exact .inl rfl | exact .inr (.inl rfl) | exact .inr (.inr rfl)) (by rfl) m_len) pda_nil))) pda_nil)) (pda_cons (dcall F__law_of hr (by decide) hG tk (av 0 (av 2 pda_nil))) pda_nil))) pda_nil)))) pdss_nil)))
    (pdss_one (pds_ret (dv 5)))))) ?_
  rintro as Q E hl ⟨⟨ns, ac⟩, rfl, ⟨h0, h1, h2, h3⟩, q, -⟩
  dsimp only at h0 h1 h2 h3 q
  simp [ctTake, ct__law_of, ct__law_links, Ct.ex]
  refine ⟨?_, ?_, ?_, ?_, ?_⟩
  all_goals
    refine loopD_inv (fun ds sv => ∃ (m : Nat) (left : List Str) (ps : List (Str × Str)) (s : Sl), sv = [.bag m, .dat (.lst (ns.map .str)), .dat (.lst (ac.map .str)), .dat (.int 4), .own (left.map .str), .own (ps.map fun p => .tup [.str p.1, .str p.2]), s] ∧ 2 * ds.length ≤ m ∧ ps.length + ds.length ≤ 4 ∧ (left ++ ps.map (·.1)).Nodup ∧ (∀ x ∈ left ++ ps.map (·.1), x ∈ ns) ∧ (∀ p ∈ ps, p.2 ∈ ac) ∧ left.length ≤ 4)
      ⟨8, ns, [], .un, rfl, by simp, by simp, by simpa using h0, by simp, by simp, h1⟩ ?_ ?_
    · rintro sv ⟨m, left, ps, s, rfl, i1, i2, i3, i4, i5, i6⟩
      refine q _ ⟨ps, rfl, (List.nodup_append.mp i3).2.1, by simpa using i2, fun p hp => ⟨i4 _ (List.mem_append_right _ (List.mem_map_of_mem hp)), i5 p hp⟩⟩
    · rintro d r sv ⟨m, left, ps, s, rfl, i1, i2, i3, i4, i5, i6⟩ nx hnx
      rw [List.length_cons] at i1 i2
      obtain ⟨pl, hpl⟩ : ∃ pl, D.pyL (left.map .str) = some pl := ⟨_, pyL_strs left⟩
      have hps : (ps.length : Int) < 4 := by omega
      simp [dOwnNil, hps]
      refine ⟨⟨pl, hpl⟩, ?_⟩
      by_cases c : left = []
      · exact .inl ⟨c, hnx _ ⟨m, left, ps, _, rfl, by omega, by omega, i3, i4, i5, i6⟩⟩
      · have c1 : 0 < left.length := List.length_pos_iff.mpr c
        refine .inr ⟨c, by omega, c1, by omega, fun j hj0 hj1 => ?_⟩
        obtain ⟨n, rfl⟩ := Int.eq_ofNat_of_zero_le hj0
        have hn : n < left.length := by omega
        refine ⟨by omega, by omega, n, by simp [seqIndex?, hn, show ¬ ((n : Int) < 0) by omega], .str left[n], ⟨_, List.getElem?_eq_getElem hn, rfl⟩, by omega, ⟨h2, by omega⟩, fun a ha => ⟨by omega, hnx _ ⟨m - 1 - 1, left.eraseIdx n, ps ++ [(left[n], a)], .dat d, by rw [map_erase]; simp, by omega, by simp; omega, ?_, ?_, ?_, ?_⟩⟩⟩
        · have pm : (left.eraseIdx n ++ (ps ++ [(left[n], a)]).map (·.1)).Perm (left ++ ps.map (·.1)) := by
            rw [List.map_append, ← List.append_assoc]
            exact List.perm_append_comm.trans ((erase_perm hn).append_right _)
          exact pm.nodup_iff.mpr i3
        · intro x hx
          rw [List.map_append, List.mem_append, List.mem_append] at hx
          rcases hx with hx | hx | hx
          · exact i4 _ (List.mem_append_left _ (List.mem_of_mem_eraseIdx hx))
          · exact i4 _ (List.mem_append_right _ hx)
          · obtain rfl : x = left[n] := by simpa using hx
            exact i4 _ (List.mem_append_left _ (List.getElem_mem hn))
        · intro p hp
          rcases List.mem_append.mp hp with hp | hp
          · exact i5 p hp
          · obtain rfl : p = (left[n], a) := by simpa using hp
            exact ha
        · rw [List.length_eraseIdx_of_lt hn]
          omega
theorem fg__law_links {P : Program} {w : World} {K : PySem.W.Frag} {mg : Str → Option Value} {base : Heap} {f : Addr} {fd : FuncData} (F : FunD K "_law_links" "_law_links" (defArgs s__law_links) (defBody s__law_links) (defScope s__law_links) [] [] f fd) (hm : mg "_law_links" = some (.ref f)) (F__law_of : FnG P w K mg base 2 "_law_of" 2 (ct__law_of )) (F__law_take : FnG P w K mg base 1 "_law_take" 2 (ctTake )) (m_len : mg "len" = none) (m_list : mg "list" = none) (m_range : mg "range" = none) : FnG P w K mg base 3 "_law_links" 4 (ct__law_links ) :=
  fnG_of F sc__law_links hm (ok__law_links F F__law_of F__law_take m_len m_list m_range) (F.bindsN fun _ _ _ _ _ _ us hl => match us, hl with | [_, _, _, _], _ => rfl) Ct.ex_mono
abbrev s__law_is_word : Stmt := top 44
abbrev N__law_is_word : List Str := ["_law_value", "_law_letter"]
theorem sc__law_is_word : FnScope N__law_is_word ["_law_value"] (defScope s__law_is_word) := ⟨rfl, rfl, rfl, by decide +kernel, rfl, by decide +kernel, by decide +kernel⟩
def ct__law_is_word : Ct := Ct.ex 0 (fun d : D => [some d]) (fun d => d.wt < 1000000) (fun d z => z = .bl (isNameD d)) (fun _ _ => False)
theorem ok__law_is_word {P : Program} {w : World} {K : PySem.W.Frag} {mg : Str → Option Value} {base : Heap} {f : Addr} {fd : FuncData} (F : FunD K "_law_is_word" "_law_is_word" (defArgs s__law_is_word) (defBody s__law_is_word) (defScope s__law_is_word) [] [] f fd) (m_all : mg "all" = none) (m_isinstance : mg "isinstance" = none) (m_len : mg "len" = none) (m_str : mg "str" = none) : Fd P w K mg base 1 f fd ["_law_value"] (spC K 1 (ct__law_is_word )) := by
  have nd := sc__law_is_word.nd
  refine fd_body (N := N__law_is_word) (ct := ct__law_is_word ) F sc__law_is_word (fun cdv A outer s H E hr hG tk pw => have hu := Room.units hr; have hv := room_u hr; (pdss_cons (pds_if (pdt_w (pdw_or (pdt_not (pdt_tru (disiT K boot_str'' m_str m_isinstance (dv 0)))) (pdw_or1 (pdt_not (pdt_chain op_le snd_le op_le snd_le pd_int (pd_lenV (i := 0) rfl (by first | exact .inl rfl | exact .inr (.inl rfl) | exact .inr (.inr rfl)) (by rfl) m_len) pd_int))))) (pdss_one (pds_ret pd_bl)) pdss_nil)
    (pdss_one (pds_ret (pd_all rfl (by rfl) m_all (pda_cons (pd_L (pdl_lc (own := [("_law_letter", 1)]) rfl nd (blkOk_by (by kernel_rfl)) (pdi_any (dv 0)) (fun i => (pdgw_name (i := 1) nd rfl (.inl rfl) (by decide))) (fun i => pdts_nil) (fun i => (pd_cmp (op_inA hv) snd_in (dv 1) pd_str)))) pda_nil)))))) ?_
  rintro as Q E hl ⟨d, rfl, hw, q, -⟩
  have q := q _ rfl
  cases d with
  | str s =>
    have hz := wt_str hw
    have hz2 : s.cps.toList.length = s.length := by simp [Str.length]
    simp
    refine ⟨hz, ?_⟩
    split
    · rename_i h1
      split
      · rename_i h2
        refine goLc_mapl _ (fun c => .bl (decide (c ∈ letters.cps.toList))) (by simp [hz2]; omega) (fun c hc T N hT => by simpa [letters] using hT) ?_
        refine ⟨_, asB_map _ _, qb q ?_⟩
        have e1 : 1 ≤ s.length := by omega
        have e2 : s.length ≤ 8 := by omega
        simp [isNameD, e1, e2, List.all_map, Function.comp_def]
      · exact qb q (by simp [isNameD]; omega)
    · exact qb q (by simp [isNameD]; omega)
  | _ => simp_all [isNameD, D.wt]
theorem fg__law_is_word {P : Program} {w : World} {K : PySem.W.Frag} {mg : Str → Option Value} {base : Heap} {f : Addr} {fd : FuncData} (F : FunD K "_law_is_word" "_law_is_word" (defArgs s__law_is_word) (defBody s__law_is_word) (defScope s__law_is_word) [] [] f fd) (hm : mg "_law_is_word" = some (.ref f)) (m_all : mg "all" = none) (m_isinstance : mg "isinstance" = none) (m_len : mg "len" = none) (m_str : mg "str" = none) : FnG P w K mg base 1 "_law_is_word" 1 (ct__law_is_word ) :=
  fnG_of F sc__law_is_word hm (ok__law_is_word F m_all m_isinstance m_len m_str) (F.bindsN fun _ _ _ _ _ _ us hl => match us, hl with | [_], _ => rfl) Ct.ex_mono
end K2
end
section
set_option autoImplicit true
set_option Elab.async false
set_option linter.all false
set_option maxRecDepth 100000
set_option maxHeartbeats 4000000
namespace K2
open PySem PySem.Spec PyProof.Rows L2 Pd
/-- a column that may be: what Column makes of its own parts -/
abbrev Q0 : Type := D × D × D × D
theorem asD_dat : ∀ ls : List D, asD (ls.map Ar.dat) = some ls
  | [] => rfl
  | d :: ls => by simp [asD, asD_dat ls]
def okQ (q : Q0) : Prop := ∃ (s : Str) (ls : List D) (nb df : D), q = (.str s, .tup ls, nb, df) ∧ ((D.str s).wt < 100000 ∧ nb.wt < 100000 ∧ df.wt < 100000 ∧ (D.tup ls).wt < 100000 ∧ nb.dep ≤ 50 ∧ df.dep ≤ 50 ∧ (D.tup ls).dep ≤ 50 ∧ ls.length ≤ 1000) ∧ colOut (.str s) ls nb df = .ok
abbrev s_with_links : Stmt := top 32
abbrev N_with_links : List Str := ["column", "links"]
theorem sc_with_links : FnScope N_with_links ["column", "links"] (defScope s_with_links) := ⟨rfl, rfl, rfl, by decide +kernel, rfl, by decide +kernel, by decide +kernel⟩
def ct_with_links (cc_Column : Addr) : Ct := Ct.ex 0 (fun q : Q0 => [some (colD cc_Column q), some q.2.1]) okQ (fun q z => z = colD cc_Column q) (fun _ _ => False)
theorem ok_with_links {P : Program} {w : World} {K : PySem.W.Frag} {mg : Str → Option Value} {base : Heap} {f : Addr} {fd : FuncData} {c_BadAction c_BadColumn c_BadName cc_Column : Addr} (F : FunD K "with_links" "with_links" (defArgs s_with_links) (defBody s_with_links) (defScope s_with_links) [] [] f fd) (C_Column_nullable_default : CnG P w K mg base 4 "Column" cc_Column ["nullable", "default"] 1 4 colNs gV1 gD1 (ciCol c_BadName c_BadColumn c_BadAction)) (T_Column : ClsD K cc_Column colNs) : Fd P w K mg base 6 f fd ["column", "links"] (spC K 2 (ct_with_links cc_Column)) := by
  have nd := sc_with_links.nd
  refine fd_body (N := N_with_links) (ct := ct_with_links cc_Column) F sc_with_links (fun cdv A outer s H E hr hG tk pw => have hu := Room.units hr; have hv := room_u hr; (pdss_one (pds_ret (dmakeS C_Column_nullable_default hr (by decide) hG tk (pda_cons (dfld K (dv 0)) (pda_star (dv 1) pda_nil)) (pdk_cons (dfld K (dv 0)) (pdk_cons (dfld K (dv 0)) pdk_nil)))))) ?_
  rintro as Q E hl ⟨q, rfl, ⟨s, ls, nb, df, rfl, ⟨h1, h2, h3, h4, h5, h6, h7, h8⟩, ho⟩, q, -⟩
  have q := q _ rfl
  have o1 := T_Column.ok "name" (by simp [colNs])
  have o2 := T_Column.ok "links" (by simp [colNs])
  have o3 := T_Column.ok "nullable" (by simp [colNs])
  have o4 := T_Column.ok "default" (by simp [colNs])
  have fin : ciCol c_BadName c_BadColumn c_BadAction [.str s, nb, df, .tup ls] (fun fs => Q (.ins cc_Column colNs fs)) E := by
    refine ⟨.str s, nb, df, ls, rfl, ⟨by omega, by omega, by omega, by omega, h8⟩, ?_⟩
    rw [ho]
    exact q
  simp [-D.isNon, colD, colNs]
  refine ⟨o1, o3, nb, rfl, o4, df, rfl, .str s :: ls, ⟨ls, asD_dat ls, rfl⟩, by simp, by simp; omega, ?_⟩
  simpa [colNs] using fin
theorem fg_with_links {P : Program} {w : World} {K : PySem.W.Frag} {mg : Str → Option Value} {base : Heap} {f : Addr} {fd : FuncData} {c_BadAction c_BadColumn c_BadName cc_Column : Addr} (F : FunD K "with_links" "with_links" (defArgs s_with_links) (defBody s_with_links) (defScope s_with_links) [] [] f fd) (hm : mg "with_links" = some (.ref f)) (C_Column_nullable_default : CnG P w K mg base 4 "Column" cc_Column ["nullable", "default"] 1 4 colNs gV1 gD1 (ciCol c_BadName c_BadColumn c_BadAction)) (T_Column : ClsD K cc_Column colNs) : FnG P w K mg base 6 "with_links" 2 (ct_with_links cc_Column) :=
  fnG_of F sc_with_links hm (ok_with_links F C_Column_nullable_default T_Column) (F.bindsN fun _ _ _ _ _ _ us hl => match us, hl with | [_, _], _ => rfl) Ct.ex_mono
theorem eqvSS (a s : Str) : PyData.eqv (.str a) (.str s) = (a == s) := by
  first | rfl | simp [PyData.eqv]
inductive TOut where
  | ok | name | tab | act (l : D)
def strOf : D → Str
  | .str s => s
  | _ => ""
theorem strOf_str (s : Str) : strOf (.str s) = s := rfl
def tabOut (n : D) (ls : List D) (qs : List Q0) : TOut :=
  if !isNameD n then .name
  else match ls.find? (badL false .non) with
    | some l => .act l
    | none => if !decide (ls.map fstS).Nodup || (decide (strOf n ∈ ls.map fstS) || decide (4 < ls.length)) then .tab
      else if !decide (qs.map fun q => strOf q.1).Nodup || decide (3 < qs.length) then .tab else .ok
def tabNs : List Str := ["name", "parts", "links"]
def tabD (C CC : Addr) (t : D × List Q0 × List D) : D := .ins C tabNs [t.1, .tup (t.2.1.map (colD CC)), .tup t.2.2]
def ciTab (CC cn cb ca : Addr) : Ci := fun ds Q E => ∃ (n : D) (qs : List Q0) (ls : List D), ds = [n, .tup ls, .tup (qs.map (colD CC))] ∧ (n.wt < 1000000 ∧ (D.tup ls).wt < 1000000 ∧ ls.length ≤ 1000 ∧ qs.length ≤ 1000 ∧ ∀ q ∈ qs, okQ q) ∧
  match tabOut n ls qs with
  | .ok => Q [n, .tup (qs.map (colD CC)), .tup ls]
  | .name => E ⟨cn, ["value"], [n]⟩
  | .tab => E ⟨cb, ["name"], [n]⟩
  | .act l => E ⟨ca, ["value"], [l]⟩
theorem ciTab_mono {CC cn cb ca : Addr} : ∀ ds Q Q' E E', (∀ d, Q d → Q' d) → (∀ x, E x → E' x) → ciTab CC cn cb ca ds Q E → ciTab CC cn cb ca ds Q' E' := by
  rintro ds Q Q' E E' h1 h2 ⟨n, qs, ls, e, hw, h⟩
  refine ⟨n, qs, ls, e, hw, ?_⟩
  cases c : tabOut n ls qs with
  | ok => rw [c] at h; exact h1 _ h
  | name => rw [c] at h; exact h2 _ h
  | tab => rw [c] at h; exact h2 _ h
  | act l => rw [c] at h; exact h2 _ h
abbrev s_Table___init__ : Stmt := inClass (top 20) 0
abbrev N_Table___init__ : List Str := ["self", "name", "ids", "columns", "names", "column"]
theorem sc_Table___init__ : FnScope N_Table___init__ ["self", "name", "ids", "columns"] (defScope s_Table___init__) := ⟨rfl, rfl, rfl, by decide +kernel, rfl, by decide +kernel, by decide +kernel⟩
theorem bd_Table {kwsT : List (Str × V)} {P : Program} {w : World} {K : PySem.W.Frag} {mg : Str → Option Value} {base : Heap} {f : Addr} {fd : FuncData} {c_BadAction c_BadName c_BadTable cc_Column cc_Table : Addr} (m_MOST_COLUMNS : ∃ t, mg "MOST_COLUMNS" = some (.int 3 t)) (m_MOST_LINKS : ∃ t, mg "MOST_LINKS" = some (.int 4 t)) (F_check_links : FnG P w K mg base 3 "check_links" 3 (ct_check_links c_BadAction)) (F_have_one_target_twice : FnG P w K mg base 2 "have_one_target_twice" 1 (ct_have_one_target_twice )) (F_is_name : FnG P w K mg base 1 "is_name" 1 (ct_is_name )) (F_targets_of : FnG P w K mg base 1 "targets_of" 1 (ct_targets_of )) (F_with_links : FnG P w K mg base 6 "with_links" 2 (ct_with_links cc_Column)) (E_BadName : ExG P w K mg base 1 "BadName" c_BadName ["value"]) (E_BadTable : ExG P w K mg base 1 "BadTable" c_BadTable ["name"]) (m_len : mg "len" = none) (m_set : mg "set" = none) (m_tuple : mg "tuple" = none) (T_Column : ClsD K cc_Column colNs) (T_Table : ClsD K cc_Table tabNs) (F_with_links_ : True) : BodyI P w K mg base f (7 - 1) N_Table___init__ "Table.__init__" (defBody s_Table___init__) (defScope s_Table___init__) (spI K cc_Table 3 tabNs (ciTab cc_Column c_BadName c_BadTable c_BadAction)) := by
  have nd := sc_Table___init__.nd
  refine init_body (N := N_Table___init__) (ps := ["self", "name", "ids", "columns"]) (by decide) (fun cdv A outer s H E hr hG tk pw => have hu := Room.units hr; have hv := room_u hr; (pdss_cons (pds_if (pdt_not (pdt_tru (dcall F_is_name hr (by decide) hG tk (av 1 pda_nil)))) (pdss_one (draise E_BadName hr (by decide) tk (av 1 pda_nil))) pdss_nil)
    (pdss_cons (pds_expr (dcall F_check_links hr (by decide) hG tk (av 2 (pda_cons pd_bl (pda_cons pd_non pda_nil)))))
    (pdss_cons (pds_if (pdt_w (pdw_or (pdt_tru (dcall F_have_one_target_twice hr (by decide) hG tk (av 2 pda_nil))) (pdw_or (pdt_cmp (op_inA hv) snd_in (dv 1) (dcall F_targets_of hr (by decide) hG tk (av 2 pda_nil))) (pdw_or1 (pdt_cmp op_gt snd_gt (pd_lenV (i := 2) rfl (by first | exact .inl rfl | exact .inr (.inl rfl) | exact .inr (.inr rfl)) (by rfl) m_len) (pd_globI (by rfl) m_MOST_LINKS)))))) (pdss_one (draise E_BadTable hr (by decide) tk (av 1 pda_nil))) pdss_nil)
    (pdss_cons (pds_setLc (i := 4) (own := [("column", 5)]) rfl nd rfl rfl (sw_true rfl rfl rfl rfl) (blkOk_by (by kernel_rfl)) (pdi_any (dv 3)) (fun i => (pdgw_name (i := 5) nd rfl (.inl rfl) (by decide))) (fun i => pdts_nil) (fun i => (dfld K (dv 5))))
    (pdss_cons (pds_if (pdt_w (pdw_or (pdt_cmp op_lt snd_lt (pd_lenSet rfl m_len m_set (dv 4)) (pd_lenV (i := 4) rfl (by first | exact .inl rfl | exact .inr (.inl rfl) | exact .inr (.inr rfl)) (by rfl) m_len)) (pdw_or1 (pdt_cmp op_gt snd_gt (pd_lenV (i := 4) rfl (by first | exact .inl rfl | exact .inr (.inl rfl) | exact .inr (.inr rfl)) (by rfl) m_len) (pd_globI (by rfl) m_MOST_COLUMNS))))) (pdss_one (draise E_BadTable hr (by decide) tk (av 1 pda_nil))) pdss_nil)
    (pdss_cons (dself K 0 (dv 1))
    (pdss_cons (dself K 0 (pd_tuple (by rfl) m_tuple (pda_cons (pd_L (pdl_lc (own := [("column", 5)]) rfl nd (blkOk_by (by kernel_rfl)) (pdi_any (dv 3)) (fun i => (pdgw_name (i := 5) nd rfl (.inl rfl) (by decide))) (fun i => pdts_nil) (fun i => (dcall F_with_links hr (by decide) hG takes_no (av 5 (pda_cons (dfld K (dv 5)) pda_nil)))))) pda_nil)))
    (pdss_one (dself K 0 (pd_tuple (by rfl) m_tuple (av 2 pda_nil)))))))))))) ?_
  rintro ds Q E hl ⟨n, qs, ls, rfl, ⟨h1, h2, h3, h4, h5⟩, h⟩
  have o1 := T_Table.ok "name" (by simp [tabNs])
  have o2 := T_Table.ok "parts" (by simp [tabNs])
  have o3 := T_Table.ok "links" (by simp [tabNs])
  have oc := T_Column.ok "name" (by simp [colNs])
  have oc2 := T_Column.ok "links" (by simp [colNs])
  obtain ⟨p, tp⟩ := tame n h1
  unfold tabOut at h
  cases c1 : isNameD n with
  | false => simpa [-Bool.exists_bool, ct_is_name, Ct.ex, h1, c1] using h
  | true =>
    rw [c1] at h
    obtain ⟨s, rfl⟩ : ∃ s, n = .str s := by
      cases n <;> first | exact ⟨_, rfl⟩ | (simp [isNameD] at c1)
    simp [-Bool.exists_bool, ct_is_name, ct_check_links, ct_have_one_target_twice, ct_targets_of, Ct.ex, h1, c1]
    simp only [Bool.not_true, Bool.false_eq_true, if_false] at h
    refine ⟨ls, false, .non, ⟨rfl, rfl, rfl⟩, ⟨h2, by decide⟩, fun hall => ?_, fun x l e1 e2 => ?_⟩
    · have e0 : ls.find? (badL false .non) = none := List.find?_eq_none.mpr fun x hx => by rw [hall x hx]; decide
      rw [e0] at h
      dsimp only at h
      obtain ⟨ps, e1, e2⟩ := links_of e0
      have lp : ps.length = ls.length := by rw [e1, List.length_map]
      rw [e2] at h
      refine ⟨ps, e1, by omega, _, (by rw [Bool.not_not]), ?_⟩
      by_cases nd' : (ps.map (·.1)).Nodup
      · have x1 : (!decide (ps.map (·.1)).Nodup) = false := by simp [nd']
        rw [x1]
        simp only [Bool.false_eq_true, if_false]
        refine ⟨ps.map fun p => (.str p.1, p.2), by simp [e1], by simpa using (by omega : ps.length ≤ 1000), (ps.map (·.1)).map PyData.str, by rw [show List.map (fun x => x.fst) (List.map (fun p => (D.str p.1, p.2)) ps) = (ps.map (·.1)).map D.str from by simp]; exact pyL_strs _, ?_⟩
        have iff : (∃ x_1, x_1 ∈ (ps.map (·.1)).map PyData.str ∧ x_1.eqv (PyData.str s) = true) ↔ s ∈ ps.map (·.1) := by
          constructor
          · rintro ⟨x, hx, e⟩
            obtain ⟨a, ha, rfl⟩ := List.mem_map.mp hx
            rw [eqvSS] at e
            rw [← beq_iff_eq.mp e]
            exact ha
          · exact fun h => ⟨_, List.mem_map.mpr ⟨s, h, rfl⟩, by rw [eqvSS]; exact beq_self_eq_true s⟩
        by_cases ms : s ∈ ps.map (·.1)
        · rw [if_pos (iff.mpr ms)]
          simpa [nd', strOf, ms] using h
        · rw [if_neg fun z => ms (iff.mp z)]
          by_cases l4 : 4 < ls.length
          · have l5 : (4 : Int) < ls.length := by omega
            rw [if_pos l5]
            simpa [nd', strOf, ms, l4] using h
          · have l5 : ¬ (4 : Int) < ls.length := by omega
            rw [if_neg l5]
            simp only [nd', strOf_str, ms, l4, decide_true, decide_false, Bool.not_true, Bool.or_false, Bool.false_eq_true, if_false] at h
            refine goLc_mapl (colD cc_Column) (fun q : Q0 => q.1) (by simp; omega) (fun q hq T N hT => by simp [-Bool.exists_bool, colD, colNs, oc]; exact hT) ?_
            have eN : qs.map (fun q => q.1) = (qs.map fun q => strOf q.1).map D.str := by
              rw [List.map_map]
              exact List.map_congr_left fun q hq => by
                obtain ⟨s, _, _, _, rfl, _⟩ := h5 q hq
                rfl
            have lt := Sx.many_lt (qs.map fun q => strOf q.1)
            have lz : (qs.map fun q => strOf q.1).length = qs.length := by simp
            simp [-Bool.exists_bool, dLenSet]
            refine ⟨qs.map fun q => strOf q.1, eN, by omega, ?_⟩
            rw [lz] at lt ⊢
            by_cases nq : (qs.map fun q => strOf q.1).Nodup
            · have l6 : ¬ Sx.many (qs.map fun q => strOf q.1) qs.length < qs.length := fun z => lt.mp z nq
              rw [if_neg l6]
              by_cases l3 : 3 < qs.length
              · have l7 : (3 : Int) < qs.length := by omega
                rw [if_pos l7]
                simpa [nq, l3] using h
              · have l7 : ¬ (3 : Int) < qs.length := by omega
                rw [if_neg l7]
                refine ⟨_, _, _, ⟨rfl, rfl, rfl⟩, o1, by simp, by simp, ?_⟩
                refine goLc_mapl (colD cc_Column) (colD cc_Column) (by simp; omega) (fun q hq T N hT => ?_) ?_
                · simp [-Bool.exists_bool, colD, colNs, oc2]
                  refine ⟨_, rfl, Ct.exI q rfl (h5 q hq) (fun d hd => ?_) fun _ z => z.elim⟩
                  obtain rfl := hd
                  simpa using hT
                · simp [-Bool.exists_bool]
                  exact ⟨_, _, _, ⟨rfl, rfl, rfl⟩, o2, by decide, by decide, _, _, _, ⟨rfl, rfl, rfl⟩, o3, by decide, by decide, _, ⟨rfl, rfl, rfl⟩, by simpa [nq, l3] using h⟩
            · have l6 : Sx.many (qs.map fun q => strOf q.1) qs.length < qs.length := lt.mpr nq
              rw [if_pos l6]
              simpa [nq] using h
      · have x1 : (!decide (ps.map (·.1)).Nodup) = true := by simp [nd']
        rw [x1]
        simpa [nd'] using h
    · rw [e1] at h
      rw [e2]
      exact h
abbrev gV4 (d0 : V) : List V → List V → List V := fun vs zs => vs ++ [d0]
abbrev gD4 : List D → List D → List D := fun vs zs => vs ++ [.tup []]
section
variable {P : Program} {w : World} {K : PySem.W.Frag} {mg : Str → Option Value} {base : Heap} {f CC C c1 c2 c3 : Addr} {fd : FuncData} {d0 : V}
abbrev FDT (K : PySem.W.Frag) (d0 : V) (f : Addr) (fd : FuncData) : Prop := FunD K "__init__" "Table.__init__" (defArgs s_Table___init__) (defBody s_Table___init__) (defScope s_Table___init__) [] [("ids", d0)] f fd
abbrev BDT (P : Program) (w : World) (K : PySem.W.Frag) (mg : Str → Option Value) (base : Heap) (f CC C c1 c2 c3 : Addr) : Prop := BodyI P w K mg base f (7 - 1) N_Table___init__ "Table.__init__" (defBody s_Table___init__) (defScope s_Table___init__) (spI K C 3 tabNs (ciTab CC c1 c2 c3))
theorem cn_Ta (F : FDT K d0 f fd) (B : BDT P w K mg base f CC C c1 c2 c3) (M : Mk K C f) (hm : mg "Table" = some (.ref C)) : CnG P w K mg base 7 "Table" C ["ids"] 1 3 tabNs gV1 gD1 (ciTab CC c1 c2 c3) := by
  refine ⟨ciTab_mono, fun P ds es vs zs h1 h2 h3 h4 => ⟨h3.append h4, by simp [h1, h2]⟩, ⟨f, M, fnI_imp (init_star (ps := ["self", "name", "ids"]) (pv := "columns") (m := 2) (lack := []) (fun us mv ws => us ++ ws) F sc_Table___init__ (fun q hq => by cases hq) (fun a b c => a.append c) (fun a b c => by simp [a, c])
    (fun kV D doc pm an cdv ct us rest mv ws hk h1 h2 h3 => ?_) B) ?_⟩, hm⟩
  · match us, ws, mv, rest with
    | [a, b], [c], [], [] => rfl
    | [a, b], [c], [], r :: rs => rfl
  · rintro vs zs H Q E ⟨a, ws, rest, rfl, hl, hz, h⟩
    exact ⟨a :: ws, rest, rfl, by simp [hl], hz, h⟩
theorem cn_Tb (F : FDT K d0 f fd) (hd0 : ∀ P, Rp K P (.tup []) d0) (B : BDT P w K mg base f CC C c1 c2 c3) (M : Mk K C f) (hm : mg "Table" = some (.ref C)) : CnG P w K mg base 7 "Table" C [] 1 3 tabNs (gV4 d0) gD4 (ciTab CC c1 c2 c3) := by
  refine ⟨ciTab_mono, fun P ds es vs zs h1 h2 h3 h4 => ⟨h3.append (show RpL K P [.tup []] [d0] from ⟨_, _, rfl, hd0 P, rfl⟩), by simp [h1]⟩, ⟨f, M, fnI_imp (init_star (ps := ["self", "name", "ids"]) (pv := "columns") (m := 2) (lack := [("ids", d0)]) (fun us mv ws => us ++ mv) F sc_Table___init__ (fun q hq => hq) (fun a b c => a.append b) (fun a b c => by simp [a, b])
    (fun kV D doc pm an cdv ct us rest mv ws hk h1 h2 h3 => ?_) B) ?_⟩, hm⟩
  · obtain rfl : kV = .ref D := hk.resolve_left (by simp)
    match us, ws, mv, rest with
    | [a, b], [], [c], [] => exact ⟨_, _, _, _, _, _, rfl, rfl, rfl⟩
    | [a, b], [], [c], r :: rs => exact ⟨_, _, _, _, _, _, rfl, rfl, rfl⟩
  · rintro vs zs H Q E ⟨a, ws, rest, rfl, hl, hz, h⟩
    exact ⟨a :: ws, rest, rfl, by simp [hl], hz, h⟩
end
end K2
end
section
set_option autoImplicit true
set_option Elab.async false
set_option linter.all false
set_option maxRecDepth 100000
set_option maxHeartbeats 4000000
namespace K2
open PySem PySem.Spec PyProof.Rows L2 Pd
mutual
theorem nsc_wt : ∀ d : D, d.wt < 1000000 → d.nsc = true
  | .non, _ => rfl
  | .bl _, _ => rfl
  | .int _, _ => rfl
  | .str _, _ => rfl
  | .lst ds, h => nscL_wt ds (by simp only [D.wt] at h; omega)
  | .tup ds, h => nscL_wt ds (by simp only [D.wt] at h; omega)
  | .ins _ _ _, h => by simp [D.wt] at h
  | .dk _ _, h => by simp [D.wt] at h
  | .dt _ _, h => by simp [D.wt] at h
  | .scr _, h => by simp [D.wt] at h
theorem nscL_wt : ∀ ds : List D, D.wtL ds < 1000000 → D.nscL ds = true
  | [], _ => rfl
  | d :: ds, h => by
    simp only [D.wtL] at h
    simp [nsc_wt d (by omega), nscL_wt ds (by omega)]
end
theorem okQ.tame {q : Q0} (h : okQ q) : tame4 q := by
  obtain ⟨s, ls, nb, df, rfl, ⟨h1, h2, h3, h4, h5, h6, h7, h8⟩, _⟩ := h
  exact ⟨⟨by dsimp only; omega, by simp [D.dep]⟩, ⟨by dsimp only; omega, by dsimp only; omega⟩, ⟨by dsimp only; omega, by dsimp only; omega⟩, by dsimp only; omega, by dsimp only; omega⟩
theorem tame4.nsc {C : Addr} {q : Q0} (h : tame4 q) : (colD C q).nsc = true := by
  obtain ⟨⟨h1, _⟩, ⟨h2, _⟩, ⟨h3, _⟩, ⟨h4, _⟩⟩ := h
  simp [colD, nsc_wt _ h1, nsc_wt _ h2, nsc_wt _ h3, nsc_wt _ h4]
theorem cols_nsc {C : Addr} : ∀ {qs : List Q0}, (∀ q ∈ qs, okQ q) → D.nscL (qs.map (colD C)) = true
  | [], _ => rfl
  | q :: qs, h => by
    simp only [List.map_cons, D.nscL, Bool.and_eq_true]
    exact ⟨(h q List.mem_cons_self).tame.nsc, cols_nsc fun r hr => h r (List.mem_cons_of_mem _ hr)⟩
def eqQs : List Q0 → List Q0 → Bool
  | [], [] => true
  | q :: qs, r :: rs => eq4 q r && eqQs qs rs
  | _, _ => false
abbrev GC (K : PySem.W.Frag) (C : Addr) : Nat → D → D → Bool → Prop := GOf K 1 [(C, ct_Column___eq__ C)]
theorem g_col {K : PySem.W.Frag} {C : Addr} (T : ClsD K C colNs) {n : Nat} {q r : Q0} (hq : okQ q) (hr : okQ r) : GC K C (n + 1) (colD C q) (colD C r) (eq4 q r) := by
  refine ⟨by omega, hq.tame.nsc, hr.tame.nsc, C, _, colNs, _, List.mem_cons_self, rfl, T.ity, by simp [PySem.W.notFirst, colD], (q, colD C r), rfl, ⟨hq.tame, .inr ⟨r, hr.tame, rfl⟩⟩, ?_, fun _ z => z⟩
  rintro d ⟨r', rfl, ⟨h, _⟩ | ⟨b, e, rfl⟩⟩
  · simp [colD, D.wt] at h
  · unfold colD at e
    injection e with _ _ e
    injection e with e1 e
    injection e with e2 e
    injection e with e3 e
    injection e with e4 _
    rw [show b = r from Prod.ext e1.symm (Prod.ext e2.symm (Prod.ext e3.symm e4.symm))]
theorem eqT_cols {K : PySem.W.Frag} {C : Addr} (T : ClsD K C colNs) {n : Nat} : ∀ {qs rs : List Q0}, (∀ q ∈ qs, okQ q) → (∀ r ∈ rs, okQ r) → EqT (GC K C) (n + 1) (qs.map (colD C)) (rs.map (colD C)) (eqQs qs rs)
  | [], [], _, _ => .nn
  | [], r :: rs, _, _ => .nc
  | q :: qs, [], _, _ => .cn
  | q :: qs, r :: rs, hq, hr => by
    have g := g_col T (n := n) (hq q List.mem_cons_self) (hr r List.mem_cons_self)
    have ih := eqT_cols T (n := n) (qs := qs) (rs := rs) (fun x hx => hq x (List.mem_cons_of_mem _ hx)) fun x hx => hr x (List.mem_cons_of_mem _ hx)
    show EqT _ _ _ _ (eq4 q r && eqQs qs rs)
    cases c : eq4 q r with
    | false =>
      rw [c] at g
      exact .ff (.own g)
    | true =>
      rw [c] at g
      exact .tt (.own g) ih
theorem eq4_self {q : Q0} (h : tame4 q) : eq4 q q = true := by
  obtain ⟨⟨h1, _⟩, ⟨h2, _⟩, ⟨h3, _⟩, ⟨h4, _⟩⟩ := h
  simp [eq4, eqD_self h1, eqD_self h2, eqD_self h3, eqD_self h4]
theorem gs_col {P : Program} {w : World} {K : PySem.W.Frag} {mg : Str → Option Value} {base : Heap} {C : Addr} (e : EqG P w K mg base 1 C (ct_Column___eq__ C)) : Gs P w K mg base 1 [(C, ct_Column___eq__ C)] := by
  refine ⟨fun C' ct h => ?_, fun C' ct h ns xs b q => ?_⟩
  · cases List.mem_singleton.mp h
    exact e
  · cases List.mem_singleton.mp h
    obtain ⟨⟨a, d⟩, e1, ⟨ha, _⟩, q, _⟩ := q
    simp only [List.cons.injEq, Option.some.injEq, and_true] at e1
    obtain ⟨e1, e2⟩ := e1
    have z := q (.bl (eq4 a a)) ⟨_, rfl, .inr ⟨a, by dsimp only; rw [← e2, e1], rfl⟩⟩
    injection z with z
    rw [← z]
    exact eq4_self ha
def notI : D → Bool
  | .ins _ _ _ => false
  | .scr _ => false
  | .dk _ _ => false
  | .dt _ _ => false
  | _ => true
theorem kit_noI {K : PySem.W.Frag} {C : Addr} {fs : List Str} (T : ClsD K C fs) {d : D} (h : notI d = true) : PySem.W.kitOne K d.ty (.ref C) = some false := by
  cases d <;> first | (simp [notI] at h; done) | exact T.no _ (by simp [kTypes])
theorem okTyI {K : PySem.W.Frag} {d : D} (h : notI d = true) : D.okTy K d := by
  cases d <;> first | (simp [notI] at h; done) | trivial
/-- a table's own parts: its name, its columns, the references of its ids -/
abbrev T0 : Type := D × List Q0 × List D
def okTb (t : T0) : Prop := (t.1.wt < 1000000 ∧ t.1.dep ≤ 60) ∧ (∀ q ∈ t.2.1, okQ q) ∧ ((D.tup t.2.2).wt < 1000000 ∧ (D.tup t.2.2).dep ≤ 60)
def eqTb (a b : T0) : Bool := eqD a.1 b.1 && (eqQs a.2.1 b.2.1 && eqD (.tup a.2.2) (.tup b.2.2))
def OkOT (C CC : Addr) (d : D) : Prop := notI d = true ∨ ∃ b, okTb b ∧ d = tabD C CC b
def eqOT (C CC : Addr) (a : T0) (d : D) (r : Bool) : Prop := (notI d = true ∧ r = false) ∨ ∃ b, okTb b ∧ d = tabD C CC b ∧ r = eqTb a b
abbrev s_Table___eq__ : Stmt := inClass (top 20) 1
abbrev N_Table___eq__ : List Str := ["self", "other"]
theorem sc_Table___eq__ : FnScope N_Table___eq__ ["self", "other"] (defScope s_Table___eq__) := ⟨rfl, rfl, rfl, by decide +kernel, rfl, by decide +kernel, by decide +kernel⟩
def ct_Table___eq__ (cc_Table cc_Column : Addr) : Ct := Ct.ex 0 (fun t : T0 × D => [some (tabD cc_Table cc_Column t.1), some t.2]) (fun t => okTb t.1 ∧ OkOT cc_Table cc_Column t.2) (fun t z => ∃ r, z = .bl r ∧ eqOT cc_Table cc_Column t.1 t.2 r) (fun _ _ => False)
theorem ok_Table___eq__ {P : Program} {w : World} {K : PySem.W.Frag} {mg : Str → Option Value} {base : Heap} {f : Addr} {fd : FuncData} {cc_Column cc_Table : Addr} (F : FunD K "__eq__" "Table.__eq__" (defArgs s_Table___eq__) (defBody s_Table___eq__) (defScope s_Table___eq__) [] [] f fd) (m_Table : mg "Table" = some (.ref cc_Table)) (m_isinstance : mg "isinstance" = none) (T_Table : ClsD K cc_Table tabNs) (T_Column : ClsD K cc_Column colNs) (G_eq : EqG P w K mg base 1 cc_Column (ct_Column___eq__ cc_Column)) : Fd P w K mg base 6 f fd ["self", "other"] (spC K 2 (ct_Table___eq__ cc_Table cc_Column)) := by
  have nd := sc_Table___eq__.nd
  refine fd_body (N := N_Table___eq__) (ct := ct_Table___eq__ cc_Table cc_Column) F sc_Table___eq__ (fun cdv A outer s H E hr hG tk pw => have hu := Room.units hr; have hv := room_u hr; (pdss_one (pds_ret (pd_and (disiC K m_Table m_isinstance (dv 1)) (pd_and (pd_cmp (op_eqP hu) snd_eq (dfld K (dv 0)) (dfld K (dv 1))) (pd_and (deqD 3 (gs_col G_eq) hr (by decide) hG (dfld K (dv 0)) (dfld K (dv 1))) (pd_one (pd_cmp (op_eqP hu) snd_eq (dfld K (dv 0)) (dfld K (dv 1)))))))))) ?_
  rintro as Q E hl ⟨⟨⟨a1, qs, ls⟩, d⟩, rfl, ⟨⟨⟨h1, h1'⟩, h2, h3, h3'⟩, ho⟩, q, -⟩
  dsimp only at h1 h1' h2 h3 h3' ho q
  have o1 := T_Table.ok "name" (by simp [tabNs])
  have o2 := T_Table.ok "parts" (by simp [tabNs])
  have o3 := T_Table.ok "links" (by simp [tabNs])
  rcases ho with hd | ⟨⟨b1, rs, ms⟩, kb, rfl⟩
  · have q := q _ ⟨false, rfl, .inl ⟨hd, rfl⟩⟩
    have kn := kit_noI T_Table hd
    have ot := okTyI (K := K) hd
    simp only [dRet, dAndV, dIsi, dVar, sv0, sl0, gIsi, List.map_cons, List.map_nil, List.getElem?_cons_succ, List.getElem?_cons_zero, List.cons_append]
    exact ⟨ot, false, kn, false, rfl, by simpa using q⟩
  · have q := q (.bl (eqTb (a1, qs, ls) (b1, rs, ms))) ⟨_, rfl, .inr ⟨_, kb, rfl, rfl⟩⟩
    obtain ⟨⟨g1, g1'⟩, g2, g3, g3'⟩ := kb
    dsimp only at g1 g1' g2 g3 g3'
    have ks := kit_self (K := K) (C := cc_Table)
    simp only [dRet, dAndV, dIsi, dVar, sv0, sl0, gIsi, List.map_cons, List.map_nil, List.getElem?_cons_succ, List.getElem?_cons_zero, List.cons_append, tabD]
    refine ⟨T_Table.ity, true, ks, true, rfl, ?_⟩
    rw [if_pos rfl]
    refine ⟨o1, a1, rfl, o1, b1, rfl, gEq_tame h1 g1 h1' ⟨_, rfl, ?_⟩⟩
    cases e1 : eqD a1 b1 with
    | false => simpa [eqTb, e1] using q
    | true =>
      refine ⟨o2, _, rfl, o2, _, rfl, cols_nsc h2, cols_nsc g2, _, .tup (eqT_cols T_Column h2 g2), _, rfl, ?_⟩
      cases e2 : eqQs qs rs with
      | false => simpa [eqTb, e1, e2] using q
      | true =>
        refine ⟨o3, _, rfl, o3, _, rfl, gEq_tame h3 g3 h3' ?_⟩
        simpa [eqTb, e1, e2] using q
theorem fg_Table___eq__ {P : Program} {w : World} {K : PySem.W.Frag} {mg : Str → Option Value} {base : Heap} {f : Addr} {fd : FuncData} {cc_Column cc_Table : Addr} (F : FunD K "__eq__" "Table.__eq__" (defArgs s_Table___eq__) (defBody s_Table___eq__) (defScope s_Table___eq__) [] [] f fd) (hm : mg "__eq__" = some (.ref f)) (m_Table : mg "Table" = some (.ref cc_Table)) (m_isinstance : mg "isinstance" = none) (T_Table : ClsD K cc_Table tabNs) (T_Column : ClsD K cc_Column colNs) (G_eq : EqG P w K mg base 1 cc_Column (ct_Column___eq__ cc_Column)) : FnG P w K mg base 6 "__eq__" 2 (ct_Table___eq__ cc_Table cc_Column) :=
  fnG_of F sc_Table___eq__ hm (ok_Table___eq__ F m_Table m_isinstance T_Table T_Column G_eq) (F.bindsN fun _ _ _ _ _ _ us hl => match us, hl with | [_, _], _ => rfl) Ct.ex_mono
end K2
end
section
set_option autoImplicit true
set_option Elab.async false
set_option linter.all false
set_option maxRecDepth 100000
set_option maxHeartbeats 4000000
namespace K2
open PySem PySem.Spec PyProof.Rows L2 Pd
def a3 (C : Addr) (t : T0) : DA := [some t.1, some (.lst (t.2.1.map (colD C))), some (.tup t.2.2)]
def small3 (t : T0) : Prop := (t.1.wt < 100000 ∧ t.1.dep ≤ 50) ∧ (t.2.1.length ≤ 4 ∧ ∀ q ∈ t.2.1, okQ q) ∧ ((D.tup t.2.2).wt < 100000 ∧ (D.tup t.2.2).dep ≤ 50 ∧ t.2.2.length ≤ 1000)
def tout (t : T0) : TOut := tabOut t.1 t.2.2 t.2.1
def excT (cn cb ca : Addr) (t : D) : TOut → Option Xd
  | .ok => none
  | .name => some ⟨cn, ["value"], [t]⟩
  | .tab => some ⟨cb, ["name"], [t]⟩
  | .act l => some ⟨ca, ["value"], [l]⟩
abbrev s__law_table_made : Stmt := top 42
abbrev N__law_table_made : List Str := ["_law_title", "_law_columns", "_law_own_ids"]
theorem sc__law_table_made : FnScope N__law_table_made ["_law_title", "_law_columns", "_law_own_ids"] (defScope s__law_table_made) := ⟨rfl, rfl, rfl, by decide +kernel, rfl, by decide +kernel, by decide +kernel⟩
def ct__law_table_made (cc_Table cc_Column c_BadName c_BadTable c_BadAction : Addr) : Ct := Ct.ex 0 (a3 cc_Column) small3 (fun t z => tout t = .ok ∧ z = tabD cc_Table cc_Column t) (fun t x => excT c_BadName c_BadTable c_BadAction t.1 (tout t) = some x)
theorem ok__law_table_made {P : Program} {w : World} {K : PySem.W.Frag} {mg : Str → Option Value} {base : Heap} {f : Addr} {fd : FuncData} {c_BadAction c_BadName c_BadTable cc_Column cc_Table : Addr} (F : FunD K "_law_table_made" "_law_table_made" (defArgs s__law_table_made) (defBody s__law_table_made) (defScope s__law_table_made) [] [] f fd) (m_len : mg "len" = none) (C_Table_ids : CnG P w K mg base 7 "Table" cc_Table ["ids"] 1 3 tabNs gV1 gD1 (ciTab cc_Column c_BadName c_BadTable c_BadAction)) : Fd P w K mg base 9 f fd ["_law_title", "_law_columns", "_law_own_ids"] (spC K 3 (ct__law_table_made cc_Table cc_Column c_BadName c_BadTable c_BadAction)) := by
  have nd := sc__law_table_made.nd
  refine fd_body (N := N__law_table_made) (ct := ct__law_table_made cc_Table cc_Column c_BadName c_BadTable c_BadAction) F sc__law_table_made (fun cdv A outer s H E hr hG tk pw => have hu := Room.units hr; have hv := room_u hr; (pdss_cons (pds_if (pdt_cmp (op_eqP hu) snd_eq (pd_lenV (i := 1) rfl (by first | exact .inl rfl | exact .inr (.inl rfl) | exact .inr (.inr rfl)) (by rfl) m_len) pd_int) (pdss_one (pds_ret (dmake C_Table_ids hr (by decide) hG tk (av 0 pda_nil) (pdk_cons (dv 2) pdk_nil)))) pdss_nil)
    (pdss_cons (pds_if (pdt_cmp (op_eqP hu) snd_eq (pd_lenV (i := 1) rfl (by first | exact .inl rfl | exact .inr (.inl rfl) | exact .inr (.inr rfl)) (by rfl) m_len) pd_int) (pdss_one (pds_ret (dmake C_Table_ids hr (by decide) hG tk (av 0 (pda_cons (pd_ix (dv 1) pd_int) pda_nil)) (pdk_cons (dv 2) pdk_nil)))) pdss_nil)
    (pdss_cons (pds_if (pdt_cmp (op_eqP hu) snd_eq (pd_lenV (i := 1) rfl (by first | exact .inl rfl | exact .inr (.inl rfl) | exact .inr (.inr rfl)) (by rfl) m_len) pd_int) (pdss_one (pds_ret (dmake C_Table_ids hr (by decide) hG tk (av 0 (pda_cons (pd_ix (dv 1) pd_int) (pda_cons (pd_ix (dv 1) pd_int) pda_nil))) (pdk_cons (dv 2) pdk_nil)))) pdss_nil)
    (pdss_cons (pds_if (pdt_cmp (op_eqP hu) snd_eq (pd_lenV (i := 1) rfl (by first | exact .inl rfl | exact .inr (.inl rfl) | exact .inr (.inr rfl)) (by rfl) m_len) pd_int) (pdss_one (pds_ret (dmake C_Table_ids hr (by decide) hG tk (av 0 (pda_cons (pd_ix (dv 1) pd_int) (pda_cons (pd_ix (dv 1) pd_int) (pda_cons (pd_ix (dv 1) pd_int) pda_nil)))) (pdk_cons (dv 2) pdk_nil)))) pdss_nil)
    (pdss_one (pds_ret (dmake C_Table_ids hr (by decide) hG tk (av 0 (pda_cons (pd_ix (dv 1) pd_int) (pda_cons (pd_ix (dv 1) pd_int) (pda_cons (pd_ix (dv 1) pd_int) (pda_cons (pd_ix (dv 1) pd_int) pda_nil))))) (pdk_cons (dv 2) pdk_nil))))))))) ?_
  rintro as Q E hl ⟨⟨n, qs, ls⟩, rfl, ⟨⟨h1, h1'⟩, ⟨h2, h3⟩, h4, h5, h6⟩, q, qe⟩
  dsimp only at h1 h1' h2 h3 h4 h5 h6 q qe
  have fin : ciTab cc_Column c_BadName c_BadTable c_BadAction [n, .tup ls, .tup (qs.map (colD cc_Column))] (fun fs => Q (.ins cc_Table tabNs fs)) E := by
    refine ⟨n, qs, ls, rfl, ⟨by omega, by omega, h6, by omega, h3⟩, ?_⟩
    cases c : tabOut n ls qs with
    | ok => exact q _ ⟨c, rfl⟩
    | name => exact qe _ (by simp [tout, c, excT])
    | tab => exact qe _ (by simp [tout, c, excT])
    | act l => exact qe _ (by simp [tout, c, excT])
  match qs, h2, h3, fin with
  | [], _, _, fin =>
    simp [a3]
    exact fin
  | [a], _, _, fin =>
    simp [a3]
    exact ⟨_, rfl, fin⟩
  | [a, b], _, _, fin =>
    simp [a3]
    exact ⟨_, rfl, _, rfl, fin⟩
  | [a, b, c], _, _, fin =>
    simp [a3]
    exact ⟨_, rfl, _, rfl, _, rfl, fin⟩
  | [a, b, c, d], _, _, fin =>
    simp [a3]
    exact ⟨_, rfl, _, rfl, _, rfl, _, rfl, fin⟩
theorem fg__law_table_made {P : Program} {w : World} {K : PySem.W.Frag} {mg : Str → Option Value} {base : Heap} {f : Addr} {fd : FuncData} {c_BadAction c_BadName c_BadTable cc_Column cc_Table : Addr} (F : FunD K "_law_table_made" "_law_table_made" (defArgs s__law_table_made) (defBody s__law_table_made) (defScope s__law_table_made) [] [] f fd) (hm : mg "_law_table_made" = some (.ref f)) (m_len : mg "len" = none) (C_Table_ids : CnG P w K mg base 7 "Table" cc_Table ["ids"] 1 3 tabNs gV1 gD1 (ciTab cc_Column c_BadName c_BadTable c_BadAction)) : FnG P w K mg base 9 "_law_table_made" 3 (ct__law_table_made cc_Table cc_Column c_BadName c_BadTable c_BadAction) :=
  fnG_of F sc__law_table_made hm (ok__law_table_made F m_len C_Table_ids) (F.bindsN fun _ _ _ _ _ _ us hl => match us, hl with | [_, _, _], _ => rfl) Ct.ex_mono
def outTD (C CC : Addr) (t : T0) : D := match tout t with
  | .ok => tabD C CC t
  | .name => .tup [.str "name", .str (shD t.1), .bl false]
  | .tab => .tup [.str "table", .str (shD t.1), .bl false]
  | .act l => .tup [.str "action", .str (shD l), .bl false]
theorem dep_mem2 : ∀ {ls : List D} {l : D}, l ∈ ls → l.dep ≤ D.depL ls
  | d :: ds, l, h => by
    simp only [D.depL]
    rcases List.mem_cons.mp h with rfl | h
    · omega
    · have := dep_mem2 h
      omega
theorem actT_mem {t : T0} {l : D} (h : tout t = .act l) : l ∈ t.2.2 := by
  unfold tout tabOut at h
  split at h
  · cases h
  · split at h
    · rename_i x e
      cases h
      exact List.mem_of_find?_eq_some e
    · split at h
      · cases h
      · split at h <;> cases h
abbrev s__law_outcome : Stmt := top 43
abbrev N__law_outcome : List Str := ["_law_title", "_law_columns", "_law_own_ids", "e"]
theorem sc__law_outcome : FnScope N__law_outcome ["_law_title", "_law_columns", "_law_own_ids"] (defScope s__law_outcome) := ⟨rfl, rfl, rfl, by decide +kernel, rfl, by decide +kernel, by decide +kernel⟩
def ct__law_outcome (cc_Table cc_Column : Addr) : Ct := Ct.ex 0 (a3 cc_Column) small3 (fun t z => z = outTD cc_Table cc_Column t) (fun _ _ => False)
theorem ok__law_outcome {P : Program} {w : World} {K : PySem.W.Frag} {mg : Str → Option Value} {base : Heap} {f : Addr} {fd : FuncData} {c_BadAction c_BadColumn c_BadName c_BadTable cc_Column cc_Table : Addr} (F : FunD K "_law_outcome" "_law_outcome" (defArgs s__law_outcome) (defBody s__law_outcome) (defScope s__law_outcome) [] [] f fd) (F__law_table_made : FnG P w K mg base 9 "_law_table_made" 3 (ct__law_table_made cc_Table cc_Column c_BadName c_BadTable c_BadAction)) (m_BadName : mg "BadName" = some (.ref c_BadName)) (x_BadName : XfC K c_BadName) (n_BadName_value : PySem.W.findIn K (.ref c_BadName) "value" = some none) (m_BadAction : mg "BadAction" = some (.ref c_BadAction)) (x_BadAction : XfC K c_BadAction) (n_BadAction_value : PySem.W.findIn K (.ref c_BadAction) "value" = some none) (m_BadTable : mg "BadTable" = some (.ref c_BadTable)) (x_BadTable : XfC K c_BadTable) (n_BadTable_name : PySem.W.findIn K (.ref c_BadTable) "name" = some none) (m_BadColumn : mg "BadColumn" = some (.ref c_BadColumn)) (x_BadColumn : XfC K c_BadColumn) (n_BadColumn_name : PySem.W.findIn K (.ref c_BadColumn) "name" = some none) (m_isinstance : mg "isinstance" = none) (m_repr : mg "repr" = none) (T_Table : ClsD K cc_Table tabNs) (X1 : ExcC K c_BadName) (X2 : ExcC K c_BadAction) (X3 : ExcC K c_BadTable) (V1 : PySem.W.kitAny K (.ref c_BadName) [.ref c_BadAction, .ref c_BadTable, .ref c_BadColumn] = some false) (V2 : PySem.W.kitAny K (.ref c_BadAction) [.ref c_BadName, .ref c_BadTable, .ref c_BadColumn] = some false) (V3 : PySem.W.kitAny K (.ref c_BadTable) [.ref c_BadName, .ref c_BadAction, .ref c_BadColumn] = some false) (E11 : PySem.W.exmOne K (.ref c_BadName) (.ref c_BadName) = some true) (E21 : PySem.W.exmOne K (.ref c_BadAction) (.ref c_BadName) = some false) (E22 : PySem.W.exmOne K (.ref c_BadAction) (.ref c_BadAction) = some true) (E31 : PySem.W.exmOne K (.ref c_BadTable) (.ref c_BadName) = some false) (E32 : PySem.W.exmOne K (.ref c_BadTable) (.ref c_BadAction) = some false) (E33 : PySem.W.exmOne K (.ref c_BadTable) (.ref c_BadTable) = some true) : Fd P w K mg base 10 f fd ["_law_title", "_law_columns", "_law_own_ids"] (spC K 3 (ct__law_outcome cc_Table cc_Column)) := by
  have nd := sc__law_outcome.nd
  refine fd_body (N := N__law_outcome) (ct := ct__law_outcome cc_Table cc_Column) F sc__law_outcome (fun cdv A outer s H E hr hG tk pw => have hu := Room.units hr; have hv := room_u hr; (pdss_one (dtry K nd tk (fun W2 pn2 xe2 tk2 pw2 => (pdss_one (pds_ret (dcall F__law_table_made hr (by decide) hG tk2 (av 0 (av 1 (av 2 pda_nil))))))) (.named (i := 3) (nmO m_BadName) rfl rfl (fun a oe cls d pn hz hf => (pdss_one (pds_ret (pd_tup (pda_cons pd_str (pda_cons (pd_repr hG hu (by rfl) m_repr (pda_cons (dxf K 3 x_BadName n_BadName_value hz hf) pda_nil)) (pda_cons (dxi3 K 3 m_BadAction m_BadTable m_BadColumn m_isinstance hz hf) pda_nil))))))) (.named (i := 3) (nmO m_BadAction) rfl rfl (fun a oe cls d pn hz hf => (pdss_one (pds_ret (pd_tup (pda_cons pd_str (pda_cons (pd_repr hG hu (by rfl) m_repr (pda_cons (dxf K 3 x_BadAction n_BadAction_value hz hf) pda_nil)) (pda_cons (dxi3 K 3 m_BadName m_BadTable m_BadColumn m_isinstance hz hf) pda_nil))))))) (.named (i := 3) (nmO m_BadTable) rfl rfl (fun a oe cls d pn hz hf => (pdss_one (pds_ret (pd_tup (pda_cons pd_str (pda_cons (pd_repr hG hu (by rfl) m_repr (pda_cons (dxf K 3 x_BadTable n_BadTable_name hz hf) pda_nil)) (pda_cons (dxi3 K 3 m_BadName m_BadAction m_BadColumn m_isinstance hz hf) pda_nil))))))) .nil)))))) ?_
  rintro as Q E hl ⟨⟨n, qs, ls⟩, rfl, sm, q, -⟩
  have q := q _ rfl
  simp [-Bool.exists_bool, a3]
  refine Ct.exI (n, qs, ls) rfl sm (fun d hd => ?_) fun x hx => ?_
  · obtain ⟨e1, rfl⟩ := hd
    simpa [outTD, e1] using q
  · obtain ⟨⟨h1, h1'⟩, -, h4, h5, -⟩ := sm
    dsimp only at h1 h1' h4 h5 hx
    obtain ⟨p, tp⟩ := tame n (by omega)
    have sh := tp.shows (by omega) (by omega)
    cases c : tout (n, qs, ls) with
    | ok => rw [c] at hx; cases hx
    | name =>
      rw [c] at hx
      cases hx
      refine ⟨true, E11, fun _ => ⟨rfl, n, rfl, p, tp.py, sh, X1, false, V1, ?_⟩, fun h => by cases h⟩
      simpa [outTD, c, shD, tp.py] using q
    | tab =>
      rw [c] at hx
      cases hx
      refine ⟨false, E31, (fun h => by cases h), fun _ => ⟨false, E32, (fun h => by cases h), fun _ => ⟨true, E33, fun _ => ⟨rfl, n, rfl, p, tp.py, sh, X3, false, V3, ?_⟩, fun h => by cases h⟩⟩⟩
      simpa [outTD, c, shD, tp.py] using q
    | act l =>
      rw [c] at hx
      cases hx
      have hl : l ∈ ls := actT_mem c
      have g1 := wt_mem hl
      have g2 := dep_mem2 hl
      simp only [D.wt, D.dep] at h4 h5
      obtain ⟨p, tp⟩ := tame l (by omega)
      have sh := tp.shows (by omega) (by omega)
      refine ⟨false, E21, (fun h => by cases h), fun _ => ⟨true, E22, fun _ => ⟨rfl, l, rfl, p, tp.py, sh, X2, false, V2, ?_⟩, fun h => by cases h⟩⟩
      simpa [outTD, c, shD, tp.py] using q
theorem fg__law_outcome {P : Program} {w : World} {K : PySem.W.Frag} {mg : Str → Option Value} {base : Heap} {f : Addr} {fd : FuncData} {c_BadAction c_BadColumn c_BadName c_BadTable cc_Column cc_Table : Addr} (F : FunD K "_law_outcome" "_law_outcome" (defArgs s__law_outcome) (defBody s__law_outcome) (defScope s__law_outcome) [] [] f fd) (hm : mg "_law_outcome" = some (.ref f)) (F__law_table_made : FnG P w K mg base 9 "_law_table_made" 3 (ct__law_table_made cc_Table cc_Column c_BadName c_BadTable c_BadAction)) (m_BadName : mg "BadName" = some (.ref c_BadName)) (x_BadName : XfC K c_BadName) (n_BadName_value : PySem.W.findIn K (.ref c_BadName) "value" = some none) (m_BadAction : mg "BadAction" = some (.ref c_BadAction)) (x_BadAction : XfC K c_BadAction) (n_BadAction_value : PySem.W.findIn K (.ref c_BadAction) "value" = some none) (m_BadTable : mg "BadTable" = some (.ref c_BadTable)) (x_BadTable : XfC K c_BadTable) (n_BadTable_name : PySem.W.findIn K (.ref c_BadTable) "name" = some none) (m_BadColumn : mg "BadColumn" = some (.ref c_BadColumn)) (x_BadColumn : XfC K c_BadColumn) (n_BadColumn_name : PySem.W.findIn K (.ref c_BadColumn) "name" = some none) (m_isinstance : mg "isinstance" = none) (m_repr : mg "repr" = none) (T_Table : ClsD K cc_Table tabNs) (X1 : ExcC K c_BadName) (X2 : ExcC K c_BadAction) (X3 : ExcC K c_BadTable) (V1 : PySem.W.kitAny K (.ref c_BadName) [.ref c_BadAction, .ref c_BadTable, .ref c_BadColumn] = some false) (V2 : PySem.W.kitAny K (.ref c_BadAction) [.ref c_BadName, .ref c_BadTable, .ref c_BadColumn] = some false) (V3 : PySem.W.kitAny K (.ref c_BadTable) [.ref c_BadName, .ref c_BadAction, .ref c_BadColumn] = some false) (E11 : PySem.W.exmOne K (.ref c_BadName) (.ref c_BadName) = some true) (E21 : PySem.W.exmOne K (.ref c_BadAction) (.ref c_BadName) = some false) (E22 : PySem.W.exmOne K (.ref c_BadAction) (.ref c_BadAction) = some true) (E31 : PySem.W.exmOne K (.ref c_BadTable) (.ref c_BadName) = some false) (E32 : PySem.W.exmOne K (.ref c_BadTable) (.ref c_BadAction) = some false) (E33 : PySem.W.exmOne K (.ref c_BadTable) (.ref c_BadTable) = some true) : FnG P w K mg base 10 "_law_outcome" 3 (ct__law_outcome cc_Table cc_Column) :=
  fnG_of F sc__law_outcome hm (ok__law_outcome F F__law_table_made m_BadName x_BadName n_BadName_value m_BadAction x_BadAction n_BadAction_value m_BadTable x_BadTable n_BadTable_name m_BadColumn x_BadColumn n_BadColumn_name m_isinstance m_repr T_Table X1 X2 X3 V1 V2 V3 E11 E21 E22 E31 E32 E33) (F.bindsN fun _ _ _ _ _ _ us hl => match us, hl with | [_, _, _], _ => rfl) Ct.ex_mono
end K2
end
section
set_option autoImplicit true
set_option Elab.async false
set_option linter.all false
set_option maxRecDepth 100000
set_option maxHeartbeats 4000000
namespace K2
open PySem PySem.Spec PyProof.Rows L2 Pd
abbrev s__law_may_link : Stmt := top 45
abbrev N__law_may_link : List Str := ["_law_link"]
theorem sc__law_may_link : FnScope N__law_may_link ["_law_link"] (defScope s__law_may_link) := ⟨rfl, rfl, rfl, by decide +kernel, rfl, by decide +kernel, by decide +kernel⟩
def ct__law_may_link : Ct := Ct.ex 0 (fun l : D => [some l]) (fun l => l.wt < 1000000 ∧ l.dep ≤ 60) (fun l z => z = .bl (!badL false .non l)) (fun _ _ => False)
theorem ok__law_may_link {P : Program} {w : World} {K : PySem.W.Frag} {mg : Str → Option Value} {base : Heap} {f : Addr} {fd : FuncData} (F : FunD K "_law_may_link" "_law_may_link" (defArgs s__law_may_link) (defBody s__law_may_link) (defScope s__law_may_link) [] [] f fd) (F__law_is_word : FnG P w K mg base 1 "_law_is_word" 1 (ct__law_is_word )) (m_isinstance : mg "isinstance" = none) (m_len : mg "len" = none) (m_str : mg "str" = none) (m_tuple : mg "tuple" = none) : Fd P w K mg base 2 f fd ["_law_link"] (spC K 1 (ct__law_may_link )) := by
  have nd := sc__law_may_link.nd
  refine fd_body (N := N__law_may_link) (ct := ct__law_may_link ) F sc__law_may_link (fun cdv A outer s H E hr hG tk pw => have hu := Room.units hr; have hv := room_u hr; (pdss_cons (pds_if (pdt_w (pdw_or (pdt_not (pdt_tru (disiT K boot_tuple'' m_tuple m_isinstance (dv 0)))) (pdw_or (pdt_cmp (op_neP hu) snd_ne (pd_lenV (i := 0) rfl (by first | exact .inl rfl | exact .inr (.inl rfl) | exact .inr (.inr rfl)) (by rfl) m_len) pd_int) (pdw_or1 (pdt_not (pdt_tru (dcall F__law_is_word hr (by decide) hG tk (pda_cons (pd_ix (dv 0) pd_int) pda_nil)))))))) (pdss_one (pds_ret pd_bl)) pdss_nil)
    (pdss_one (pds_ret (pd_and (disiT K boot_str'' m_str m_isinstance (pd_ix (dv 0) pd_int)) (pd_one (pd_cmp (op_inA hv) snd_in (pd_ix (dv 0) pd_int) (pd_tup (pda_cons pd_str (pda_cons pd_str (pda_cons pd_str pda_nil))))))))))) ?_
  rintro as Q E hl ⟨l, rfl, ⟨hw, hd⟩, q, -⟩
  have q := q _ rfl
  match l, hw, hd, q with
  | .tup [], hw, hd, q => simpa [-Bool.exists_bool, isLinkD, badL] using q
  | .tup [a], hw, hd, q => simpa [-Bool.exists_bool, isLinkD, badL] using q
  | .tup [a, b], hw, hd, q =>
    have h1 : a.wt < 1000000 := by simp only [D.wt, D.wtL] at hw; omega
    have h2 : b.wt < 1000000 := by simp only [D.wt, D.wtL] at hw; omega
    obtain ⟨pb, tb⟩ := tame b h2
    simp [-Bool.exists_bool, atI, ixN, ct__law_is_word, Ct.ex, h1, tb.py, eqv_str tb.py, eqv_str' tb.py, okTy_tame h2]
    cases c0 : isNameD a with
    | false => simpa [badL, isLinkD, c0] using q
    | true =>
      cases b with
      | ins _ _ _ => simp [D.wt] at h2
      | dk _ _ => simp [D.wt] at h2
      | dt _ _ => simp [D.wt] at h2
      | scr _ => simp [D.wt] at h2
      | str s =>
        cases c1 : (D.str s).isStr "set_null" with
        | true =>
          have e : s = "set_null" := by simpa [D.isStr] using c1
          subst e
          have z1 : (("set_null" : Str) == "cascade") = false := by decide
          have z2 : (("set_null" : Str) == "restrict") = false := by decide
          have z3 : (("set_null" : Str) == "no_action") = false := by decide
          simpa [-Bool.exists_bool, badL, isLinkD, c0, sndD, mayD, c1, acts, D.isStr, PyData.depthAll, z1, z2, z3] using q
        | false =>
          cases c2 : (D.str s).isStr "set_default" with
          | true =>
            have e : s = "set_default" := by simpa [D.isStr] using c2
            subst e
            have z1 : (("set_default" : Str) == "cascade") = false := by decide
            have z2 : (("set_default" : Str) == "restrict") = false := by decide
            have z3 : (("set_default" : Str) == "no_action") = false := by decide
            simpa [-Bool.exists_bool, badL, isLinkD, c0, sndD, mayD, c1, c2, acts, D.isStr, PyData.depthAll, z1, z2, z3] using q
          | false => simpa [-Bool.exists_bool, badL, isLinkD, c0, sndD, mayD, c1, c2, acts, PyData.depthAll] using q
      | _ => simpa [badL, isLinkD, c0, sndD, mayD, acts, D.isStr] using q
  | .tup (a :: b :: c :: r), hw, hd, q =>
    have e : ¬ ((r.length : Int) + 1 + 1 + 1 = 2) := by omega
    have e2 : ((r.length : Int) + 1 + 1 + 1 == 2) = false := by simpa using e
    simpa [-Bool.exists_bool, isLinkD, badL, e2] using q
  | .non, hw, hd, q => simpa [isLinkD, badL] using q
  | .bl _, hw, hd, q => simpa [isLinkD, badL] using q
  | .int _, hw, hd, q => simpa [isLinkD, badL] using q
  | .str _, hw, hd, q => simpa [isLinkD, badL] using q
  | .lst _, hw, hd, q => simpa [isLinkD, badL] using q
  | .ins _ _ _, hw, hd, q => simp [D.wt] at hw
  | .dk _ _, hw, hd, q => simp [D.wt] at hw
  | .dt _ _, hw, hd, q => simp [D.wt] at hw
  | .scr _, hw, hd, q => simp [D.wt] at hw
theorem fg__law_may_link {P : Program} {w : World} {K : PySem.W.Frag} {mg : Str → Option Value} {base : Heap} {f : Addr} {fd : FuncData} (F : FunD K "_law_may_link" "_law_may_link" (defArgs s__law_may_link) (defBody s__law_may_link) (defScope s__law_may_link) [] [] f fd) (hm : mg "_law_may_link" = some (.ref f)) (F__law_is_word : FnG P w K mg base 1 "_law_is_word" 1 (ct__law_is_word )) (m_isinstance : mg "isinstance" = none) (m_len : mg "len" = none) (m_str : mg "str" = none) (m_tuple : mg "tuple" = none) : FnG P w K mg base 2 "_law_may_link" 1 (ct__law_may_link ) :=
  fnG_of F sc__law_may_link hm (ok__law_may_link F F__law_is_word m_isinstance m_len m_str m_tuple) (F.bindsN fun _ _ _ _ _ _ us hl => match us, hl with | [_], _ => rfl) Ct.ex_mono
def pickG (p : D → Bool) (d : D) : Option D := if p d = true then some d else none
theorem pick_none {p : D → Bool} : ∀ {ls : List D}, ls.find? p = none → ls.filterMap (pickG p) = []
  | [], _ => rfl
  | l :: ls, h => by
    rw [List.find?_cons] at h
    cases c : p l with
    | true => rw [c] at h; cases h
    | false =>
      rw [c] at h
      rw [List.filterMap_cons]
      simp [pickG, c]
      exact fun a ha => by simpa using List.find?_eq_none.mp h a ha
theorem pick_some {p : D → Bool} {z : D} : ∀ {ls : List D}, ls.find? p = some z → ∃ r, ls.filterMap (pickG p) = z :: r
  | [], h => by cases h
  | l :: ls, h => by
    rw [List.find?_cons] at h
    cases c : p l with
    | true =>
      rw [c] at h
      cases h
      exact ⟨ls.filterMap (pickG p), by rw [List.filterMap_cons]; simp [pickG, c]⟩
    | false =>
      rw [c] at h
      obtain ⟨r, e⟩ := pick_some h
      exact ⟨r, by rw [List.filterMap_cons]; simpa [pickG, c] using e⟩
theorem pick_mem {p : D → Bool} {z : D} {ls : List D} (h : z ∈ ls.filterMap (pickG p)) : z ∈ ls := by
  obtain ⟨a, ha, e⟩ := List.mem_filterMap.mp h
  unfold pickG at e
  split at e
  · cases e
    exact ha
  · cases e
theorem pick_len {p : D → Bool} (ls : List D) : (ls.filterMap (pickG p)).length ≤ ls.length := List.length_filterMap_le _ _
theorem pick_wt {p : D → Bool} : ∀ ls : List D, D.wtL (ls.filterMap (pickG p)) ≤ D.wtL ls
  | [] => Nat.le_refl _
  | l :: ls => by
    have ih := pick_wt (p := p) ls
    rw [List.filterMap_cons]
    cases c : p l with
    | true => simp [pickG, c, D.wtL]; exact ih
    | false => simp [pickG, c, D.wtL]; exact Nat.le_trans ih (by omega)
def dueTD (t : T0) : D := match tout t with
  | .ok => .non
  | .name => .tup [.str "name", .str (shD t.1), .bl false]
  | .tab => .tup [.str "table", .str (shD t.1), .bl false]
  | .act l => .tup [.str "action", .str (shD l), .bl false]
abbrev s__law_due : Stmt := top 46
abbrev N__law_due : List Str := ["_law_title", "_law_columns", "_law_own_ids", "_law_wrong", "_law_link", "_law_targets", "_law_names", "_law_column", "_law_aim", "_law_deed"]
theorem sc__law_due : FnScope N__law_due ["_law_title", "_law_columns", "_law_own_ids"] (defScope s__law_due) := ⟨rfl, rfl, rfl, by decide +kernel, rfl, by decide +kernel, by decide +kernel⟩
def ct__law_due (cc_Column : Addr) : Ct := Ct.ex 0 (a3 cc_Column) small3 (fun t z => z = dueTD t) (fun _ _ => False)
theorem ok__law_due {P : Program} {w : World} {K : PySem.W.Frag} {mg : Str → Option Value} {base : Heap} {f : Addr} {fd : FuncData} {cc_Column : Addr} (F : FunD K "_law_due" "_law_due" (defArgs s__law_due) (defBody s__law_due) (defScope s__law_due) [] [] f fd) (F__law_is_word : FnG P w K mg base 1 "_law_is_word" 1 (ct__law_is_word )) (F__law_may_link : FnG P w K mg base 2 "_law_may_link" 1 (ct__law_may_link )) (m_len : mg "len" = none) (m_repr : mg "repr" = none) (m_set : mg "set" = none) (T_Column : ClsD K cc_Column colNs) : Fd P w K mg base 3 f fd ["_law_title", "_law_columns", "_law_own_ids"] (spC K 3 (ct__law_due cc_Column)) := by
  have nd := sc__law_due.nd
  refine fd_body (N := N__law_due) (ct := ct__law_due cc_Column) F sc__law_due (fun cdv A outer s H E hr hG tk pw => have hu := Room.units hr; have hv := room_u hr; (pdss_cons (pds_if (pdt_not (pdt_tru (dcall F__law_is_word hr (by decide) hG tk (av 0 pda_nil)))) (pdss_one (pds_ret (pd_tup (pda_cons pd_str (pda_cons (pd_repr hG hu (by rfl) m_repr (av 0 pda_nil)) (pda_cons pd_bl pda_nil)))))) pdss_nil)
    (pdss_cons (pds_setLc (i := 3) (own := [("_law_link", 4)]) rfl nd rfl rfl (sw_true rfl rfl rfl rfl) (blkOk_by (by kernel_rfl)) (pdi_any (dv 2)) (fun i => (pdgw_name (i := 4) nd rfl (.inl rfl) (by decide))) (fun i => (pdts_one (pdt_not (pdt_tru (dcall F__law_may_link hr (by decide) hG takes_no (av 4 pda_nil)))))) (fun i => (dv 4)))
    (pdss_cons (pds_if (pdt_cmp (op_neP hu) snd_ne (dv 3) (pd_L (pdl_lst pda_nil))) (pdss_one (pds_ret (pd_tup (pda_cons pd_str (pda_cons (pd_repr hG hu (by rfl) m_repr (pda_cons (pd_ix (dv 3) pd_int) pda_nil)) (pda_cons pd_bl pda_nil)))))) pdss_nil)
    (pdss_cons (pds_parDD (i := 5) (j := 6) rfl nd rfl rfl (by decide) rfl rfl (pd_add (pd_L (pdl_lst (av 0 pda_nil))) (pd_L (pdl_lc (own := [("_law_aim", 8), ("_law_deed", 9)]) rfl nd (blkOk_by (by kernel_rfl)) (pdi_any (dv 2)) (fun i => (pdgw_tup (n := 2) rfl (pdgsw_cons (pdgw_name (i := 8) nd rfl (.inl rfl) (by decide)) (pdgsw_cons (pdgw_name (i := 9) nd rfl (.inl rfl) (by decide)) pdgsw_nil)))) (fun i => pdts_nil) (fun i => (dv 8))))) (pd_L (pdl_lc (own := [("_law_column", 7)]) rfl nd (blkOk_by (by kernel_rfl)) (pdi_any (dv 1)) (fun i => (pdgw_name (i := 7) nd rfl (.inl rfl) (by decide))) (fun i => pdts_nil) (fun i => (dfld K (dv 7))))) (by rfl))
    (pdss_cons (pds_if (pdt_w (pdw_or (pdt_cmp op_lt snd_lt (pd_lenSet rfl m_len m_set (dv 5)) (pd_lenV (i := 5) rfl (by first | exact .inl rfl | exact .inr (.inl rfl) | exact .inr (.inr rfl)) (by rfl) m_len)) (pdw_or (pdt_cmp op_gt snd_gt (pd_lenV (i := 2) rfl (by first | exact .inl rfl | exact .inr (.inl rfl) | exact .inr (.inr rfl)) (by rfl) m_len) pd_int) (pdw_or (pdt_cmp op_gt snd_gt (pd_lenV (i := 1) rfl (by first | exact .inl rfl | exact .inr (.inl rfl) | exact .inr (.inr rfl)) (by rfl) m_len) pd_int) (pdw_or1 (pdt_cmp op_lt snd_lt (pd_lenSet rfl m_len m_set (dv 6)) (pd_lenV (i := 6) rfl (by first | exact .inl rfl | exact .inr (.inl rfl) | exact .inr (.inr rfl)) (by rfl) m_len))))))) (pdss_one (pds_ret (pd_tup (pda_cons pd_str (pda_cons (pd_repr hG hu (by rfl) m_repr (av 0 pda_nil)) (pda_cons pd_bl pda_nil)))))) pdss_nil)
    (pdss_one (pds_ret pd_non)))))))) ?_
  rintro as Q E hl ⟨⟨n, qs, ls⟩, rfl, ⟨⟨h1, h1'⟩, ⟨h2, h3⟩, h4, h5, h6⟩, q, -⟩
  have q := q _ rfl
  dsimp only at h1 h1' h2 h3 h4 h5 h6
  have oc := T_Column.ok "name" (by simp [colNs])
  obtain ⟨p, tp⟩ := tame n (by omega)
  have sh := tp.shows (by omega) (by omega)
  have w1 : n.wt < 1000000 := by omega
  have wl : D.wtL ls < 100000 := by simp only [D.wt] at h4; omega
  have dl : D.depL ls ≤ 49 := by simp only [D.dep] at h5; omega
  cases c1 : isNameD n with
  | false =>
    simp [-Bool.exists_bool, a3, ct__law_is_word, Ct.ex, w1, c1, tp.py]
    simpa [dueTD, tout, tabOut, c1, sh, shD, tp.py] using q
  | true =>
    obtain ⟨s, rfl⟩ : ∃ s, n = .str s := by
      cases n <;> first | exact ⟨_, rfl⟩ | (simp [isNameD] at c1)
    simp [-Bool.exists_bool, a3, ct__law_is_word, Ct.ex, w1, c1, tp.py, dSetL]
    refine goLc_fm (pickG (badL false .non)) (by simp; omega) (fun d hd T N hT hN => ?_) ?_
    · have g1 := wt_mem hd
      have g2 := dep_mem hd
      simp [-Bool.exists_bool]
      refine Ct.exI d rfl ⟨by omega, by omega⟩ (fun z hz => ?_) fun _ z => z.elim
      subst hz
      refine ⟨_, rfl, ?_⟩
      cases c : badL false .non d with
      | true => simpa using hT d (by simp [pickG, c])
      | false => simpa using hN (by simp [pickG, c])
    · cases e0 : ls.find? (badL false .non) with
      | some l =>
        obtain ⟨r, e1⟩ := pick_some e0
        have hlm : l ∈ ls := List.mem_of_find?_eq_some e0
        have g1 := wt_mem hlm
        have g2 := dep_mem hlm
        obtain ⟨pl, tl⟩ := tame l (by omega)
        have shl := tl.shows (by omega) (by omega)
        have q2 : Q (.tup [.str "action", .str pl.shown, .bl false]) := by simpa [dueTD, tout, tabOut, c1, e0, shD, tl.py] using q
        have hwl : D.wtL (l :: r) < 1000000 := by
          rw [← e1]
          have := pick_wt (p := badL false .non) ls
          omega
        obtain ⟨pr, tr⟩ := tameL r (by simp only [D.wtL] at hwl; omega)
        simpa [-Bool.exists_bool, e1, tr.py, eqv_nil, atI, ixN, tl.py, shl, PyData.depth, PyData.depthAll] using q2
      | none =>
        have e1 := pick_none e0
        obtain ⟨ps, e2, e3⟩ := links_of e0
        have l0 : ls.length = ps.length := by rw [e2, List.length_map]
        have q2 : Q (if ((s :: ps.map (·.1)).Nodup ∧ ps.length ≤ 4) ∧ (qs.length ≤ 3 ∧ (qs.map fun q => strOf q.1).Nodup) then D.non else .tup [.str "table", .str p.shown, .bl false]) := by
          have q := q
          simp only [dueTD, tout, tabOut, c1, e0, e3, shD, tp.py, strOf_str, Bool.not_true, Bool.false_eq_true, if_false, l0] at q
          by_cases a1 : (ps.map (·.1)).Nodup <;> by_cases a2 : s ∈ ps.map (·.1) <;> by_cases a3 : 4 < ps.length <;> by_cases a4 : (qs.map fun q => strOf q.1).Nodup <;> by_cases a5 : 3 < qs.length <;> simp only [a1, a2, a3, a4, a5, List.nodup_cons, decide_true, decide_false, Bool.not_true, Bool.not_false, Bool.or_true, Bool.true_or, Bool.or_false, Bool.false_or, Bool.false_eq_true, if_true, if_false, not_true, not_false_iff, false_and, true_and, and_false, and_true, (Nat.not_lt).mp, Nat.not_le] at q ⊢ <;> first | exact q | (have b3 : ps.length ≤ 4 := by omega) <;> (try have b5 : qs.length ≤ 3 := by omega) <;> simpa [b3, b5] using q | (have b3 : ¬ ps.length ≤ 4 := by omega) <;> simpa [b3] using q | (have b5 : ¬ qs.length ≤ 3 := by omega) <;> simpa [b5] using q
        subst e2
        simp [-Bool.exists_bool, e1, eqv_nil, PyData.depth, PyData.depthAll]
        refine goLc_mapl _ (fun p : Str × D => .str p.1) (by simp; omega) (fun p hp T N hT => by simp; exact ⟨_, _, ⟨rfl, rfl⟩, _, _, rfl, rfl, hT⟩) ?_
        simp [-Bool.exists_bool]
        refine ⟨by omega, ?_⟩
        refine goLc_mapl (colD cc_Column) (fun q : Q0 => q.1) (by simp; omega) (fun q hq T N hT => by simp [-Bool.exists_bool, colD, colNs, oc]; exact hT) ?_
        have eN : qs.map (fun q => q.1) = (qs.map fun q => strOf q.1).map D.str := by
          rw [List.map_map]
          exact List.map_congr_left fun q hq => by
            obtain ⟨s, _, _, _, rfl, _⟩ := h3 q hq
            rfl
        have ep : p = .str s := by
          have z := tp.py
          simp at z
          exact z.symm
        subst ep
        simp [-Bool.exists_bool, dLenSet, sh]
        have lt1 := Sx.many_lt (s :: ps.map (·.1))
        have lt2 := Sx.many_lt (qs.map fun q => strOf q.1)
        have len1 : (s :: ps.map (·.1)).length = ps.length + 1 := by simp
        have len2 : (qs.map fun q => strOf q.1).length = qs.length := by simp
        have hp5 : ps.length ≤ 1000 := by simpa using h6
        refine ⟨s :: ps.map (·.1), by simp, by rw [len1]; omega, ?_⟩
        rw [len1] at lt1 ⊢
        rw [len2] at lt2
        by_cases a1 : (s :: ps.map (·.1)).Nodup
        · have b1 : ¬ (Sx.many (s :: ps.map (·.1)) (ps.length + 1) : Int) < (ps.length : Int) + 1 := fun z => lt1.mp (by omega) a1
          rw [if_neg b1]
          by_cases a2 : ps.length ≤ 4
          · have b2 : ¬ (4 : Int) < ps.length := by omega
            rw [if_neg b2]
            by_cases a5 : qs.length ≤ 3
            · have b5 : ¬ (3 : Int) < qs.length := by omega
              rw [if_neg b5]
              refine ⟨qs.map fun q => strOf q.1, eN, by omega, ?_⟩
              rw [len2]
              by_cases a4 : (qs.map fun q => strOf q.1).Nodup
              · have b4 : ¬ Sx.many (qs.map fun q => strOf q.1) qs.length < qs.length := fun z => lt2.mp z a4
                rw [if_neg b4]
                rw [if_pos ⟨⟨a1, a2⟩, a5, a4⟩] at q2
                exact q2
              · have b4 : Sx.many (qs.map fun q => strOf q.1) qs.length < qs.length := lt2.mpr a4
                rw [if_pos b4]
                rw [if_neg fun z => a4 z.2.2] at q2
                exact q2
            · have b5 : (3 : Int) < qs.length := by omega
              rw [if_pos b5]
              rw [if_neg fun z => a5 z.2.1] at q2
              exact q2
          · have b2 : (4 : Int) < ps.length := by omega
            rw [if_pos b2]
            rw [if_neg fun z => a2 z.1.2] at q2
            exact q2
        · have b1 : (Sx.many (s :: ps.map (·.1)) (ps.length + 1) : Int) < (ps.length : Int) + 1 := by have := lt1.mpr a1; omega
          rw [if_pos b1]
          rw [if_neg fun z => a1 z.1.1] at q2
          exact q2
theorem fg__law_due {P : Program} {w : World} {K : PySem.W.Frag} {mg : Str → Option Value} {base : Heap} {f : Addr} {fd : FuncData} {cc_Column : Addr} (F : FunD K "_law_due" "_law_due" (defArgs s__law_due) (defBody s__law_due) (defScope s__law_due) [] [] f fd) (hm : mg "_law_due" = some (.ref f)) (F__law_is_word : FnG P w K mg base 1 "_law_is_word" 1 (ct__law_is_word )) (F__law_may_link : FnG P w K mg base 2 "_law_may_link" 1 (ct__law_may_link )) (m_len : mg "len" = none) (m_repr : mg "repr" = none) (m_set : mg "set" = none) (T_Column : ClsD K cc_Column colNs) : FnG P w K mg base 3 "_law_due" 3 (ct__law_due cc_Column) :=
  fnG_of F sc__law_due hm (ok__law_due F F__law_is_word F__law_may_link m_len m_repr m_set T_Column) (F.bindsN fun _ _ _ _ _ _ us hl => match us, hl with | [_, _, _], _ => rfl) Ct.ex_mono
end K2
end
section
set_option autoImplicit true
set_option Elab.async false
set_option linter.all false
set_option maxRecDepth 100000
set_option maxHeartbeats 4000000
namespace K2
open PySem PySem.Spec PyProof.Rows L2 Pd
abbrev gV5 : List V → List V → List V := fun vs zs => vs ++ zs ++ [.non]
abbrev gD5 : List D → List D → List D := fun vs zs => vs ++ zs ++ [.non]
theorem cn_d {P : Program} {w : World} {K : PySem.W.Frag} {mg : Str → Option Value} {base : Heap} {f C c1 c2 c3 : Addr} {fd : FuncData} (F : FDC K f fd) (B : BDC P w K mg base f C c1 c2 c3) (M : Mk K C f) (hm : mg "Column" = some (.ref C)) : CnG P w K mg base 4 "Column" C ["nullable"] 1 4 colNs gV5 gD5 (ciCol c1 c2 c3) := by
  refine ⟨ciCol_mono, fun P ds es vs zs h1 h2 h3 h4 => ⟨(h3.append h4).append (show RpL K P [.non] [.non] from ⟨_, _, rfl, rfl, rfl⟩), by simp [h1, h2]⟩, ⟨f, M, fnI_imp (init_star (ps := ["self", "name", "nullable", "default"]) (pv := "references") (m := 2) (lack := [("default", .non)]) (fun us mv ws => us ++ ws ++ mv) F sc_Column___init__ (fun q hq => by simp at hq; subst hq; simp [kwsC]) (fun a b c => (a.append c).append b) (fun a b c => by simp [a, b, c])
    (fun kV D doc pm an cdv ct us rest mv ws hk h1 h2 h3 => ?_) B) ?_⟩, hm⟩
  · obtain rfl : kV = .ref D := hk.resolve_left (by simp)
    match us, ws, mv, rest with
    | [a, b], [c], [d], [] => exact ⟨_, _, _, _, _, _, rfl, rfl, rfl⟩
    | [a, b], [c], [d], r :: rs => exact ⟨_, _, _, _, _, _, rfl, rfl, rfl⟩
  · rintro vs zs H Q E ⟨a, ws, rest, rfl, hl, hz, h⟩
    exact ⟨a :: ws, rest, rfl, by simp [hl], hz, h⟩
/-- the columns that the law draws -/
def colX (s : Str) (l : Option Str) (o : Bool) : Q0 := (.str s, .tup (match l with | none => [] | some a => [.tup [.str "b", .str a]]), .bl o, .non)
def okX (q : Q0) : Prop := ∃ s l o, s ∈ (["x", "y", "z", "v", "w"] : List Str) ∧ l ∈ ([none, some "cascade", some "restrict"] : List (Option Str)) ∧ q = colX s l o
def isOkO : Out → Bool
  | .ok => true
  | _ => false
theorem okOut {o : Out} (h : isOkO o = true) : o = .ok := by
  cases o <;> first | rfl | cases h
theorem okX.ok {q : Q0} (h : okX q) : okQ q := by
  obtain ⟨s, l, o, hs, hl, rfl⟩ := h
  simp only [List.mem_cons, List.not_mem_nil, or_false] at hs hl
  rcases hl with rfl | rfl | rfl <;> rcases hs with rfl | rfl | rfl | rfl | rfl <;> cases o <;> exact ⟨_, _, _, _, rfl, ⟨by decide +kernel, by decide +kernel, by decide +kernel, by decide +kernel, by decide +kernel, by decide +kernel, by decide +kernel, by decide +kernel⟩, okOut (by decide +kernel)⟩
structure DrawnT (tt : Str) (qs : List Q0) (ps : List (Str × Str)) : Prop where
  t : tt ∈ (["a", "self", "id", "abcdefgh"] : List Str)
  kq : ∀ q ∈ qs, okX q
  nq : (qs.map fun q => strOf q.1).Nodup
  mq : ∀ q ∈ qs, strOf q.1 ∈ (["x", "y", "z"] : List Str)
  lq : qs.length ≤ 3
  np : (ps.map (·.1)).Nodup
  lp : ps.length ≤ 4
  mp : ∀ p ∈ ps, p.1 ∈ (["b", "c", "d", "e"] : List Str) ∧ p.2 ∈ (["cascade", "restrict", "no_action"] : List Str)
def pairsD (ps : List (Str × Str)) : List D := ps.map fun p => .tup [.str p.1, .str p.2]
def homeD (CC : Addr) (t : Str) (qs : List Q0) (ps : List (Str × Str)) : D := .tup [.str t, .lst (qs.map (colD CC)), .tup (pairsD ps)]
abbrev s__law_drawn : Stmt := top 47
abbrev N__law_drawn : List Str := ["_law_bag_here", "_law_columns", "_law_title", "_law_links_here", "_law_own_ids"]
theorem sc__law_drawn : FnScope N__law_drawn ["_law_bag_here"] (defScope s__law_drawn) := ⟨rfl, rfl, rfl, by decide +kernel, rfl, by decide +kernel, by decide +kernel⟩
def ct__law_drawn (cc_Column : Addr) : Ct := Ct.ex 20 (fun _ : Unit => [none]) (fun _ => True) (fun _ z => ∃ t qs ps, DrawnT t qs ps ∧ z = homeD cc_Column t qs ps) (fun _ _ => False)
theorem ok__law_drawn {P : Program} {w : World} {K : PySem.W.Frag} {mg : Str → Option Value} {base : Heap} {f : Addr} {fd : FuncData} {c_BadAction c_BadColumn c_BadName cc_Column : Addr} (F : FunD K "_law_drawn" "_law_drawn" (defArgs s__law_drawn) (defBody s__law_drawn) (defScope s__law_drawn) [] [] f fd) (F__law_links : FnG P w K mg base 3 "_law_links" 4 (ct__law_links )) (F__law_of : FnG P w K mg base 2 "_law_of" 2 (ct__law_of )) (F__law_take : FnG P w K mg base 1 "_law_take" 2 (ctTake )) (m_tuple : mg "tuple" = none) (C_Column_nullable : CnG P w K mg base 4 "Column" cc_Column ["nullable"] 1 4 colNs gV5 gD5 (ciCol c_BadName c_BadColumn c_BadAction)) : Fd P w K mg base 6 f fd ["_law_bag_here"] (spC K 1 (ct__law_drawn cc_Column)) := by
  have nd := sc__law_drawn.nd
  refine fd_body (N := N__law_drawn) (ct := ct__law_drawn cc_Column) F sc__law_drawn (fun cdv A outer s H E hr hG tk pw => have hu := Room.units hr; have hv := room_u hr; (pdss_cons (pds_setL (i := 1) nd rfl (.inl rfl) (pdl_lst pda_nil))
    (pdss_cons (pds_for pw rfl (pdi_any (pd_L (pdl_sl (pd_L (pdl_lst (pda_cons pd_str (pda_cons pd_str (pda_cons pd_str pda_nil))))) pdo_none (pdo_some (dcall F__law_take hr (by decide) hG tk (av 0 (pda_cons pd_int pda_nil))))))) (pdg_name (i := 2) nd rfl (.inl rfl)) (pdss_cons (pds_set (i := 3) nd rfl (.inl rfl) (pd_mul (pd_L (pdl_lst (pda_cons (pd_tup (pda_cons pd_str (pda_cons (dcall F__law_of hr (by decide) hG tk (av 0 (pda_cons (pd_L (pdl_lst (pda_cons pd_str (pda_cons pd_str pda_nil)))) pda_nil))) pda_nil))) pda_nil))) (dcall F__law_take hr (by decide) hG tk (av 0 (pda_cons pd_int pda_nil)))))
    (pdss_one (pds_if (pdt_cmp (op_eqP hu) snd_eq (dv 3) (pd_L (pdl_lst pda_nil))) (pdss_one (pds_expr (pd_append (i := 1) rfl (.inl rfl) (pda_cons (dmake C_Column_nullable hr (by decide) hG tk (av 2 pda_nil) (pdk_cons (pd_cmp (op_eqP hu) snd_eq (dcall F__law_take hr (by decide) hG tk (av 0 (pda_cons pd_int pda_nil))) pd_int) pdk_nil)) pda_nil)))) (pdss_one (pds_expr (pd_append (i := 1) rfl (.inl rfl) (pda_cons (dmake C_Column_nullable hr (by decide) hG tk (av 2 (pda_cons (pd_ix (dv 3) pd_int) pda_nil)) (pdk_cons (pd_cmp (op_eqP hu) snd_eq (dcall F__law_take hr (by decide) hG tk (av 0 (pda_cons pd_int pda_nil))) pd_int) pdk_nil)) pda_nil))))))))
    (pdss_cons (pds_set (i := 4) nd rfl (.inl rfl) (dcall F__law_links hr (by decide) hG tk (av 0 (pda_cons (pd_L (pdl_lst (pda_cons pd_str (pda_cons pd_str (pda_cons pd_str (pda_cons pd_str pda_nil)))))) (pda_cons (pd_L (pdl_lst (pda_cons pd_str (pda_cons pd_str (pda_cons pd_str pda_nil))))) (pda_cons pd_int pda_nil))))))
    (pdss_one (pds_ret (pd_tup (pda_cons (dcall F__law_of hr (by decide) hG tk (av 0 (pda_cons (pd_L (pdl_lst (pda_cons pd_str (pda_cons pd_str (pda_cons pd_str (pda_cons pd_str pda_nil)))))) pda_nil))) (av 1 (pda_cons (pd_tuple (by rfl) m_tuple (av 4 pda_nil)) pda_nil)))))))))) ?_
  rintro as Q E hl ⟨_, rfl, -, q, -⟩
  simp [-Bool.exists_bool, ctTake]
  refine .inl ⟨(by decide : (1 : Nat) ≤ 20), fun j hj0 hj1 => ?_⟩
  obtain ⟨xs, hx, e⟩ : ∃ xs : List Str, xs.Sublist ["x", "y", "z"] ∧ cutD [D.str "x", D.str "y", D.str "z"] none (some j) = xs.map D.str := by
    have h4 : j = 0 ∨ j = 1 ∨ j = 2 ∨ j = 3 := by omega
    rcases h4 with rfl | rfl | rfl | rfl
    · exact ⟨[], by decide, rfl⟩
    · exact ⟨["x"], by decide, rfl⟩
    · exact ⟨["x", "y"], by decide, rfl⟩
    · exact ⟨["x", "y", "z"], by decide, rfl⟩
  have hx3 : xs.length ≤ 3 := hx.length_le
  rw [e]
  refine loopD_inv (fun ds sv => ∃ (m : Nat) (qs : List Q0) (rest : List Str) (s2 s3 s4 : Sl), sv = [.bag m, .own (qs.map (colD cc_Column)), s2, s3, s4] ∧ ds = rest.map D.str ∧ 3 * rest.length + 10 ≤ m ∧ ((qs.map fun q => strOf q.1) ++ rest).Sublist ["x", "y", "z"] ∧ ∀ q ∈ qs, okX q)
    ⟨19, [], xs, .un, .un, .un, rfl, rfl, by omega, hx, fun q hq => by cases hq⟩ ?_ ?_
  · rintro sv ⟨m, qs, rest, s2, s3, s4, rfl, hd, hm, hs, hq⟩
    have c1 : ct__law_of.cost = 1 := rfl
    have c2 : ct__law_links.cost = 9 := rfl
    obtain rfl : rest = [] := by
      cases rest with
      | nil => rfl
      | cons a b => cases hd
    rw [List.append_nil] at hs
    simp [-Bool.exists_bool]
    refine ⟨by omega, Ct.exI (["b", "c", "d", "e"], ["cascade", "restrict", "no_action"]) rfl ⟨by decide, by decide, by decide, by decide⟩ (fun d hd => ?_) fun _ z => z.elim⟩
    obtain ⟨ps, rfl, n1, n2, n3⟩ := hd
    refine ⟨by omega, Ct.exI [.str "a", .str "self", .str "id", .str "abcdefgh"] rfl ⟨by simp, by simp⟩ (fun d hd => ?_) fun _ z => z.elim⟩
    obtain ⟨t, ht, rfl⟩ : ∃ t : Str, t ∈ (["a", "self", "id", "abcdefgh"] : List Str) ∧ d = .str t := by
      simp only [List.mem_cons, List.not_mem_nil, or_false] at hd
      rcases hd with rfl | rfl | rfl | rfl <;> exact ⟨_, by decide, rfl⟩
    have hl3 := hs.length_le
    exact q _ ⟨t, qs, ps, ⟨ht, hq, hs.nodup (by decide), fun q hq => hs.subset (List.mem_map.mpr ⟨q, hq, rfl⟩), by simpa using hl3, n1, n2, n3⟩, rfl⟩
  · rintro d r sv ⟨m, qs, rest, s2, s3, s4, rfl, hd, hm, hs, hq⟩ nx hnx
    have c1 : ct__law_of.cost = 1 := rfl
    match rest, hd, hm, hs with
    | t :: rest, hd, hm, hs =>
    rw [List.map_cons] at hd
    injection hd with hd hr
    subst hd hr
    rw [List.length_cons] at hm
    have ht : t ∈ (["x", "y", "z"] : List Str) := hs.subset (List.mem_append_right _ List.mem_cons_self)
    have ht5 : t ∈ (["x", "y", "z", "v", "w"] : List Str) := by
      simp only [List.mem_cons, List.not_mem_nil, or_false] at ht ⊢
      rcases ht with h | h | h <;> simp [h]
    have hl3 := hs.length_le
    simp only [List.length_append, List.length_map, List.length_cons, List.length_nil] at hl3
    simp [-Bool.exists_bool, ctTake]
    refine ⟨by omega, Ct.exI [.str "cascade", .str "restrict"] rfl ⟨by simp, by simp⟩ (fun d hd => ⟨by omega, fun j h0 h1 => ⟨by omega, by omega, by omega, ?_⟩⟩) fun _ z => z.elim⟩
    have made : ∀ (l : Option Str) (o : Bool) (s3' : Sl), l ∈ ([none, some "cascade", some "restrict"] : List (Option Str)) → ciCol c_BadName c_BadColumn c_BadAction [D.str t, D.bl o, D.non, D.tup (match l with | none => [] | some a => [.tup [.str "b", .str a]])] (fun fs => qs.length < 100000 ∧ nx [Sl.bag (m - ct__law_of.cost - 1 - 1), Sl.own (List.map (colD cc_Column) qs ++ [D.ins cc_Column colNs fs]), Sl.dat (D.str t), s3', s4]) (fun x => E x) := fun l o s3' hl => by
      have kx : okX (colX t l o) := ⟨t, l, o, ht5, hl, rfl⟩
      obtain ⟨s, ls, nb, df, e, ⟨w1, w2, w3, w4, w5, w6, w7, w8⟩, o'⟩ := kx.ok
      unfold colX at e
      injection e with e1 e
      injection e with e2 e
      injection e with e3 e4
      injection e1 with e1
      injection e2 with e2
      subst e1 e2 e3 e4
      refine ⟨_, _, _, _, rfl, ⟨by omega, by omega, by omega, by omega, w8⟩, ?_⟩
      rw [o']
      refine ⟨by omega, hnx _ ⟨m - ct__law_of.cost - 1 - 1, qs ++ [colX t l o], rest, .dat (.str t), s3', s4, by simp [colX, colD], rfl, by omega, by simpa [strOf, colX] using hs, fun q hq' => ?_⟩⟩
      rcases List.mem_append.mp hq' with h | h
      · exact hq q h
      · rw [List.mem_singleton.mp h]
        exact kx
    obtain ⟨a, ha, rfl⟩ : ∃ a : Str, some a ∈ ([none, some "cascade", some "restrict"] : List (Option Str)) ∧ d = .str a := by
      simp only [List.mem_cons, List.not_mem_nil, or_false] at hd
      rcases hd with rfl | rfl <;> exact ⟨_, by decide, rfl⟩
    have hj : j = 0 ∨ j = 1 := by omega
    rcases hj with rfl | rfl
    · refine ⟨.list [], ⟨[], rfl, rfl⟩, by decide, ?_⟩
      rw [if_pos (by decide)]
      exact ⟨by omega, fun j1 g0 g1 => made none _ _ (by simp)⟩
    · refine ⟨.list [.tuple [.str "b", .str a]], ⟨_, rfl, rfl⟩, Nat.le_trans (Nat.min_le_right _ _) (by decide), ?_⟩
      rw [if_neg (by simp [eqv_nil])]
      exact ⟨_, rfl, by omega, fun j1 g0 g1 => made (some a) _ _ ha⟩
theorem fg__law_drawn {P : Program} {w : World} {K : PySem.W.Frag} {mg : Str → Option Value} {base : Heap} {f : Addr} {fd : FuncData} {c_BadAction c_BadColumn c_BadName cc_Column : Addr} (F : FunD K "_law_drawn" "_law_drawn" (defArgs s__law_drawn) (defBody s__law_drawn) (defScope s__law_drawn) [] [] f fd) (hm : mg "_law_drawn" = some (.ref f)) (F__law_links : FnG P w K mg base 3 "_law_links" 4 (ct__law_links )) (F__law_of : FnG P w K mg base 2 "_law_of" 2 (ct__law_of )) (F__law_take : FnG P w K mg base 1 "_law_take" 2 (ctTake )) (m_tuple : mg "tuple" = none) (C_Column_nullable : CnG P w K mg base 4 "Column" cc_Column ["nullable"] 1 4 colNs gV5 gD5 (ciCol c_BadName c_BadColumn c_BadAction)) : FnG P w K mg base 6 "_law_drawn" 1 (ct__law_drawn cc_Column) :=
  fnG_of F sc__law_drawn hm (ok__law_drawn F F__law_links F__law_of F__law_take m_tuple C_Column_nullable) (F.bindsN fun _ _ _ _ _ _ us hl => match us, hl with | [_], _ => rfl) Ct.ex_mono
end K2
end
section
set_option autoImplicit true
set_option Elab.async false
set_option linter.all false
set_option maxRecDepth 100000
set_option maxHeartbeats 4000000
namespace K2
open PySem PySem.Spec PyProof.Rows L2 Pd
theorem cut_mem {α : Type} {xs : List α} {lo hi : Option Int} {x : α} (h : x ∈ Pd.cutD xs lo hi) : x ∈ xs := List.mem_of_mem_drop (List.mem_of_mem_take h)
theorem cut_le {α : Type} {xs : List α} (lo hi : Option Int) : (Pd.cutD xs lo hi).length ≤ xs.length := by
  unfold Pd.cutD
  rw [List.length_take, List.length_drop]
  omega
theorem cut_map {α β : Type} {f : α → β} {xs : List α} (lo hi : Option Int) : Pd.cutD (xs.map f) lo hi = (Pd.cutD xs lo hi).map f := by
  unfold Pd.cutD
  simp [List.map_take, List.map_drop]
theorem cut_len4 {α : Type} {xs : List α} : (Pd.cutD xs none (some 4)).length ≤ 4 := by
  unfold Pd.cutD
  have e : HT.sIx xs.length xs.length (some 4) = min 4 xs.length := HT.sIx_nat xs.length xs.length 4
  rw [e, List.length_take]
  omega
theorem ci_plain {cn cb ca : Addr} {s : Str} (hs : s ∈ (["x", "y", "z", "v", "w"] : List Str)) {Q : List D → Prop} {E : Xd → Prop} (q : Q [.str s, .tup [], .bl false, .non]) : ciCol cn cb ca [.str s, .bl false, .non, .tup []] Q E := by
  have kx : okX (colX s none false) := ⟨s, none, false, hs, by simp, rfl⟩
  obtain ⟨s', ls, nb, df, e, ⟨w1, w2, w3, w4, w5, w6, w7, w8⟩, o'⟩ := kx.ok
  unfold colX at e
  injection e with e1 e
  injection e with e2 e
  injection e with e3 e4
  injection e1 with e1
  injection e2 with e2
  subst e1 e2 e3 e4
  refine ⟨_, _, _, _, rfl, ⟨by omega, by omega, by omega, by decide, by decide⟩, ?_⟩
  rw [show colOut (.str s) [] (.bl false) .non = .ok from o']
  exact q
def bit (d : D) : Prop := d.wt ≤ 100 ∧ d.dep ≤ 5
theorem bits {ls : List D} (h : ∀ l ∈ ls, bit l) : D.wtL ls ≤ 102 * ls.length ∧ D.depL ls ≤ 5 := by
  induction ls with
  | nil => simp [D.wtL, D.depL]
  | cons l ls ih =>
    obtain ⟨a, b⟩ := h l List.mem_cons_self
    obtain ⟨c, d⟩ := ih fun x hx => h x (List.mem_cons_of_mem _ hx)
    simp only [D.wtL, D.depL, List.length_cons]
    omega
theorem bit_ok {n : D} {qs : List Q0} {ls : List D} (h1 : bit n) (h2 : qs.length ≤ 4) (h3 : ∀ q ∈ qs, okX q) (h4 : ls.length ≤ 9) (h5 : ∀ l ∈ ls, bit l) : small3 (n, qs, ls) := by
  obtain ⟨a, b⟩ := bits h5
  obtain ⟨c, d⟩ := h1
  exact ⟨⟨by dsimp only; omega, by dsimp only; omega⟩, ⟨h2, fun q hq => (h3 q hq).ok⟩, by simp only [D.wt]; omega, by simp only [D.dep]; omega, by dsimp only; omega⟩
theorem bit_t {t : Str} (h : t ∈ (["a", "self", "id", "abcdefgh"] : List Str)) : bit (.str t) ∧ bit (.tup [.str t, .str "cascade"]) := by
  simp only [List.mem_cons, List.not_mem_nil, or_false] at h
  rcases h with rfl | rfl | rfl | rfl <;> exact ⟨⟨by decide +kernel, by decide +kernel⟩, by decide +kernel, by decide +kernel⟩
theorem bit_p {p : Str × Str} (h : p.1 ∈ (["b", "c", "d", "e"] : List Str) ∧ p.2 ∈ (["cascade", "restrict", "no_action"] : List Str)) : bit (.tup [.str p.1, .str p.2]) := by
  obtain ⟨a, b⟩ := p
  obtain ⟨h, g⟩ := h
  simp only [List.mem_cons, List.not_mem_nil, or_false] at h g
  rcases h with rfl | rfl | rfl | rfl <;> rcases g with rfl | rfl | rfl <;> exact ⟨by decide +kernel, by decide +kernel⟩
theorem bit_ps {t : Str} {qs : List Q0} {ps : List (Str × Str)} (h : DrawnT t qs ps) : (∀ l ∈ pairsD ps, bit l) ∧ (pairsD ps).length ≤ 4 := by
  refine ⟨fun l hl => ?_, by simpa [pairsD] using h.lp⟩
  obtain ⟨p, hp, rfl⟩ := List.mem_map.mp hl
  exact bit_p (h.mp p hp)
def bentD (CC : Addr) (b : T0) : D := .tup [b.1, .lst (b.2.1.map (colD CC)), .tup b.2.2]
def titlesT : List D := [.str "", .str "A", .str "abcdefghi", .str "a-b", .int 5, .non, .tup [.str "a"], .lst [.str "a"], .bl true]
theorem bit_titles : ∀ d ∈ titlesT, bit d := by
  intro d hd
  simp only [titlesT, List.mem_cons, List.not_mem_nil, or_false] at hd
  rcases hd with rfl | rfl | rfl | rfl | rfl | rfl | rfl | rfl | rfl <;> exact ⟨by decide +kernel, by decide +kernel⟩
def oddT (t : Str) : List D := [.tup [.str "b", .str "set_null"], .tup [.str "c", .str "set_default"], .tup [.str "d", .str "Restrict"], .tup [.str "D", .str "cascade"], .lst [.str "b", .str "cascade"], .tup [.str "b"], .non, .tup [.str t, .str "cascade"], .tup [.str "b", .str "restrict"]]
theorem bit_odd {t : Str} (h : t ∈ (["a", "self", "id", "abcdefgh"] : List Str)) : ∀ d ∈ oddT t, bit d := by
  intro d hd
  simp only [oddT, List.mem_cons, List.not_mem_nil, or_false] at hd
  rcases hd with rfl | rfl | rfl | rfl | rfl | rfl | rfl | rfl | rfl <;> first | exact (bit_t h).2 | exact ⟨by decide +kernel, by decide +kernel⟩
abbrev s__law_bent : Stmt := top 48
abbrev N__law_bent : List Str := ["_law_bag_here", "_law_home", "_law_title", "_law_columns", "_law_own_ids", "_law_way", "_law_odd", "_law_spot"]
theorem sc__law_bent : FnScope N__law_bent ["_law_bag_here", "_law_home"] (defScope s__law_bent) := ⟨rfl, rfl, rfl, by decide +kernel, rfl, by decide +kernel, by decide +kernel⟩
def ct__law_bent (cc_Column : Addr) : Ct := Ct.ex 3 (fun t : Str × List Q0 × List (Str × Str) => [none, some (homeD cc_Column t.1 t.2.1 t.2.2)]) (fun t => DrawnT t.1 t.2.1 t.2.2) (fun _ z => ∃ b : T0, z = bentD cc_Column b ∧ small3 b) (fun _ _ => False)
theorem ok__law_bent {P : Program} {w : World} {K : PySem.W.Frag} {mg : Str → Option Value} {base : Heap} {f : Addr} {fd : FuncData} {c_BadAction c_BadColumn c_BadName cc_Column : Addr} (F : FunD K "_law_bent" "_law_bent" (defArgs s__law_bent) (defBody s__law_bent) (defScope s__law_bent) [] [] f fd) (F__law_of : FnG P w K mg base 2 "_law_of" 2 (ct__law_of )) (F__law_take : FnG P w K mg base 1 "_law_take" 2 (ctTake )) (m_len : mg "len" = none) (C_Column : CnG P w K mg base 4 "Column" cc_Column [] 1 4 colNs gV3 gD3 (ciCol c_BadName c_BadColumn c_BadAction)) : Fd P w K mg base 6 f fd ["_law_bag_here", "_law_home"] (spC K 2 (ct__law_bent cc_Column)) := by
  have nd := sc__law_bent.nd
  refine fd_body (N := N__law_bent) (ct := ct__law_bent cc_Column) F sc__law_bent (fun cdv A outer s H E hr hG tk pw => have hu := Room.units hr; have hv := room_u hr; (pdss_cons (pds_asg (dv 1) (pdg_tup (n := 3) rfl (pdgs_cons (pdg_name (i := 2) nd rfl (.inl rfl)) (pdgs_cons (pdg_name (i := 3) nd rfl (.inl rfl)) (pdgs_cons (pdg_name (i := 4) nd rfl (.inl rfl)) pdgs_nil)))))
    (pdss_cons (pds_set (i := 5) nd rfl (.inl rfl) (dcall F__law_take hr (by decide) hG tk (av 0 (pda_cons pd_int pda_nil))))
    (pdss_cons (pds_set (i := 6) nd rfl (.inl rfl) (pd_L (pdl_lst (pda_cons (pd_tup (pda_cons pd_str (pda_cons pd_str pda_nil))) (pda_cons (pd_tup (pda_cons pd_str (pda_cons pd_str pda_nil))) (pda_cons (pd_tup (pda_cons pd_str (pda_cons pd_str pda_nil))) (pda_cons (pd_tup (pda_cons pd_str (pda_cons pd_str pda_nil))) (pda_cons (pd_L (pdl_lst (pda_cons pd_str (pda_cons pd_str pda_nil)))) (pda_cons (pd_tup (pda_cons pd_str pda_nil)) (pda_cons pd_non pda_nil))))))))))
    (pdss_cons (pds_if (pdt_cmp (op_eqP hu) snd_eq (dv 5) pd_int) (pdss_one (pds_set (i := 2) nd rfl (.inl rfl) (dcall F__law_of hr (by decide) hG tk (av 0 (pda_cons (pd_L (pdl_lst (pda_cons pd_str (pda_cons pd_str (pda_cons pd_str (pda_cons pd_str (pda_cons pd_int (pda_cons pd_non (pda_cons (pd_tup (pda_cons pd_str pda_nil)) (pda_cons (pd_L (pdl_lst (pda_cons pd_str pda_nil))) (pda_cons pd_bl pda_nil))))))))))) pda_nil))))) pdss_nil)
    (pdss_cons (pds_if (pdt_cmp (op_eqP hu) snd_eq (dv 5) pd_int) (pdss_cons (pds_set (i := 7) nd rfl (.inl rfl) (dcall F__law_take hr (by decide) hG tk (av 0 (pda_cons (pd_add (pd_lenV (i := 4) rfl (by first | exact .inl rfl | exact .inr (.inl rfl) | exact .inr (.inr rfl)) (by rfl) m_len) pd_int) pda_nil))))
    (pdss_cons (pds_set (i := 6) nd rfl (.inl rfl) (pd_add (dv 6) (pd_L (pdl_lst (pda_cons (pd_tup (av 2 (pda_cons pd_str pda_nil))) (pda_cons (pd_tup (pda_cons pd_str (pda_cons pd_str pda_nil))) pda_nil))))))
    (pdss_one (pds_set (i := 4) nd rfl (.inl rfl) (pd_addT (pd_addT (pd_slT (dv 4) pdo_none (pdo_some (dv 7))) (pd_tup (pda_cons (dcall F__law_of hr (by decide) hG tk (av 0 (av 6 pda_nil))) pda_nil))) (pd_slT (dv 4) (pdo_some (dv 7)) pdo_none)))))) pdss_nil)
    (pdss_cons (pds_if (pdt_cmp (op_eqP hu) snd_eq (dv 5) pd_int) (pdss_one (pds_set (i := 4) nd rfl (.inl rfl) (pd_addT (dv 4) (pd_tup (pda_cons (pd_tup (pda_cons pd_str (pda_cons pd_str pda_nil))) (pda_cons (pd_tup (pda_cons pd_str (pda_cons pd_str pda_nil))) (pda_cons (pd_tup (pda_cons pd_str (pda_cons pd_str pda_nil))) (pda_cons (pd_tup (pda_cons pd_str (pda_cons pd_str pda_nil))) pda_nil)))))))) pdss_nil)
    (pdss_cons (pds_if (pdt_cmp (op_eqP hu) snd_eq (dv 5) pd_int) (pdss_one (pds_set (i := 3) nd rfl (.inl rfl) (pd_add (dv 3) (pd_L (pdl_sl (pd_L (pdl_lst (pda_cons (dmake C_Column hr (by decide) hG tk (pda_cons pd_str pda_nil) pdk_nil) (pda_cons (dmake C_Column hr (by decide) hG tk (pda_cons pd_str pda_nil) pdk_nil) pda_nil)))) pdo_none (pdo_some (pd_add pd_int (dcall F__law_take hr (by decide) hG tk (av 0 (pda_cons pd_int pda_nil)))))))))) pdss_nil)
    (pdss_cons (pds_if (pdt_cmp (op_eqP hu) snd_eq (dv 5) pd_int) (pdss_one (pds_set (i := 3) nd rfl (.inl rfl) (pd_add (dv 3) (pd_L (pdl_lst (pda_cons (dmake C_Column hr (by decide) hG tk (pda_cons (dcall F__law_of hr (by decide) hG tk (av 0 (pda_cons (pd_L (pdl_lst (pda_cons pd_str (pda_cons pd_str pda_nil)))) pda_nil))) pda_nil) pdk_nil) pda_nil)))))) pdss_nil)
    (pdss_one (pds_ret (pd_tup (av 2 (pda_cons (pd_L (pdl_sl (dv 3) pdo_none (pdo_some pd_int))) (av 4 pda_nil))))))))))))))) ?_
  rintro as Q E hl ⟨⟨t, qs, ps⟩, rfl, dr, q, -⟩
  dsimp only at dr q
  have c1 : ct__law_of.cost = 1 := rfl
  have c2 : ctTake.cost = 1 := rfl
  have c3 : (ct__law_bent cc_Column).cost = 3 := rfl
  have bt := (bit_t dr.t).1
  obtain ⟨bp, lp⟩ := bit_ps dr
  have lq := dr.lq
  have cm : ∀ (xs : List Q0), Pd.cutD (xs.map (colD cc_Column)) none (some 4) = (Pd.cutD xs none (some 4)).map (colD cc_Column) := fun xs => cut_map _ _
  have kqs : ∀ q ∈ Pd.cutD qs none (some 4), okX q := fun q hq => dr.kq q (cut_mem hq)
  refine dSeq_i ?_
  simp [-Bool.exists_bool, -dSeq, homeD]
  refine ⟨_, _, ⟨rfl, rfl⟩, _, _, rfl, _, _, rfl, rfl, ?_⟩
  refine dSeq_i ?_
  simp [-Bool.exists_bool, -dSeq]
  refine ⟨by omega, 5, rfl, by decide, by decide, fun j hj0 hj1 => ?_⟩
  refine dSeq_i ?_
  simp [-Bool.exists_bool, -dSeq]
  have hj : j = 0 ∨ j = 1 ∨ j = 2 ∨ j = 3 ∨ j = 4 := by omega
  rcases hj with rfl | rfl | rfl | rfl | rfl
  · refine dSeq_i ?_
    simp [-Bool.exists_bool, -dSeq]
    refine ⟨by omega, Ct.exI titlesT rfl ⟨by decide, by decide⟩ (fun d hd => ?_) fun _ z => z.elim⟩
    simp [-Bool.exists_bool]
    exact q _ ⟨(d, Pd.cutD qs none (some 4), pairsD ps), by rw [bentD, cm], bit_ok (bit_titles d hd) cut_len4 kqs (by omega) bp⟩
  · refine dSeq_i ?_
    simp [-Bool.exists_bool, -dSeq]
    refine dSeq_i ?_
    simp [-Bool.exists_bool]
    have cl := fun lo hi => cut_le (xs := pairsD ps) lo hi
    refine ⟨by omega, (pairsD ps).length + 1, rfl, by omega, by omega, fun k hk0 hk1 => ⟨k, rfl, by omega, Ct.exI (oddT t) rfl ⟨by simp [oddT], by simp [oddT]⟩ (fun d hd => ⟨by have := cl none (some k); omega, k, rfl, by have := cl none (some k); have := cl (some k) none; omega, ?_⟩) fun _ z => z.elim⟩⟩
    refine q _ ⟨(.str t, Pd.cutD qs none (some 4), _), by rw [bentD, cm], bit_ok bt cut_len4 kqs ?_ fun l hl => ?_⟩
    · have := cl none (some k)
      have := cl (some k) none
      simp only [List.length_append, List.length_cons]
      omega
    · rcases List.mem_append.mp hl with h | h
      · exact bp l (cut_mem h)
      · rcases List.mem_cons.mp h with rfl | h
        · exact bit_odd dr.t _ hd
        · exact bp l (cut_mem h)
  · simp [-Bool.exists_bool]
    refine ⟨by omega, q _ ⟨(.str t, Pd.cutD qs none (some 4), _), by rw [bentD, cm], bit_ok bt cut_len4 kqs ?_ fun l hl => ?_⟩⟩
    · simp only [List.length_append, List.length_cons, List.length_nil]
      omega
    · rcases List.mem_append.mp hl with h | h
      · exact bp l h
      · simp only [List.mem_cons, List.not_mem_nil, or_false] at h
        rcases h with rfl | rfl | rfl | rfl <;> exact ⟨by decide +kernel, by decide +kernel⟩
  · refine dSeq_i ?_
    simp [-Bool.exists_bool, -dSeq]
    refine dSeq_i ?_
    simp [-Bool.exists_bool, -dSeq]
    refine dSeq_i ?_
    simp [-Bool.exists_bool, -dSeq]
    refine dSeq_i ?_
    simp [-Bool.exists_bool, -dSeq]
    refine ci_plain (by simp) (ci_plain (by simp) ⟨by omega, 2, rfl, by decide, by decide, fun k hk0 hk1 => ?_⟩)
    have e : [D.ins cc_Column colNs [.str "v", .tup [], .bl false, .non], D.ins cc_Column colNs [.str "w", .tup [], .bl false, .non]] = [colX "v" none false, colX "w" none false].map (colD cc_Column) := rfl
    have cl := cut_le (xs := [D.ins cc_Column colNs [.str "v", .tup [], .bl false, .non], D.ins cc_Column colNs [.str "w", .tup [], .bl false, .non]]) none (some (1 + k))
    simp only [List.length_cons, List.length_nil] at cl
    refine ⟨by omega, ?_⟩
    simp [-Bool.exists_bool]
    refine q _ ⟨(.str t, Pd.cutD (qs ++ Pd.cutD [colX "v" none false, colX "w" none false] none (some (1 + k))) none (some 4), pairsD ps), by rw [bentD, ← cut_map, List.map_append, ← cut_map]; rfl, bit_ok bt cut_len4 (fun q hq => ?_) (by omega) bp⟩
    rcases List.mem_append.mp (cut_mem hq) with h | h
    · exact dr.kq q h
    · have h := cut_mem h
      simp only [List.mem_cons, List.not_mem_nil, or_false] at h
      rcases h with rfl | rfl <;> exact ⟨_, _, _, by decide, by simp, rfl⟩
  · refine dSeq_i ?_
    simp [-Bool.exists_bool, -dSeq]
    refine dSeq_i ?_
    simp [-Bool.exists_bool, -dSeq]
    refine dSeq_i ?_
    simp [-Bool.exists_bool, -dSeq]
    refine dSeq_i ?_
    simp [-Bool.exists_bool, -dSeq]
    refine dSeq_i ?_
    simp [-Bool.exists_bool, -dSeq]
    refine ⟨by omega, Ct.exI [.str "x", .str "y"] rfl ⟨by simp, by simp⟩ (fun d hd => ?_) fun _ z => z.elim⟩
    obtain ⟨s, hs, rfl⟩ : ∃ s : Str, s ∈ (["x", "y", "z", "v", "w"] : List Str) ∧ d = .str s := by
      simp only [List.mem_cons, List.not_mem_nil, or_false] at hd
      rcases hd with rfl | rfl <;> exact ⟨_, by decide, rfl⟩
    refine ci_plain hs ⟨by omega, q _ ⟨(.str t, Pd.cutD (qs ++ [colX s none false]) none (some 4), pairsD ps), by rw [bentD, ← cut_map, List.map_append]; rfl, bit_ok bt cut_len4 (fun q hq => ?_) (by omega) bp⟩⟩
    rcases List.mem_append.mp (cut_mem hq) with h | h
    · exact dr.kq q h
    · rw [List.mem_singleton.mp h]
      exact ⟨s, none, false, hs, by simp, rfl⟩
theorem fg__law_bent {P : Program} {w : World} {K : PySem.W.Frag} {mg : Str → Option Value} {base : Heap} {f : Addr} {fd : FuncData} {c_BadAction c_BadColumn c_BadName cc_Column : Addr} (F : FunD K "_law_bent" "_law_bent" (defArgs s__law_bent) (defBody s__law_bent) (defScope s__law_bent) [] [] f fd) (hm : mg "_law_bent" = some (.ref f)) (F__law_of : FnG P w K mg base 2 "_law_of" 2 (ct__law_of )) (F__law_take : FnG P w K mg base 1 "_law_take" 2 (ctTake )) (m_len : mg "len" = none) (C_Column : CnG P w K mg base 4 "Column" cc_Column [] 1 4 colNs gV3 gD3 (ciCol c_BadName c_BadColumn c_BadAction)) : FnG P w K mg base 6 "_law_bent" 2 (ct__law_bent cc_Column) :=
  fnG_of F sc__law_bent hm (ok__law_bent F F__law_of F__law_take m_len C_Column) (F.bindsN fun _ _ _ _ _ _ us hl => match us, hl with | [_, _], _ => rfl) Ct.ex_mono
end K2
end
section
set_option autoImplicit true
set_option Elab.async false
set_option linter.all false
set_option maxRecDepth 100000
set_option maxHeartbeats 4000000
namespace K2
open PySem PySem.Spec PyProof.Rows L2 Pd
theorem drawn_ok {t : Str} {qs : List Q0} {ps : List (Str × Str)} (d : DrawnT t qs ps) : tout (.str t, qs, pairsD ps) = .ok := by
  have n1 : isNameD (.str t) = true := by
    have h := d.t
    simp only [List.mem_cons, List.not_mem_nil, or_false] at h
    rcases h with rfl | rfl | rfl | rfl <;> decide +kernel
  have f0 : (pairsD ps).find? (badL false .non) = none := List.find?_eq_none.mpr fun x hx => by
    obtain ⟨p, hp, rfl⟩ := List.mem_map.mp hx
    obtain ⟨a, b⟩ := p
    obtain ⟨h, g⟩ := d.mp _ hp
    simp only [List.mem_cons, List.not_mem_nil, or_false] at h g
    rcases h with rfl | rfl | rfl | rfl <;> rcases g with rfl | rfl | rfl <;> decide +kernel
  have ef : (pairsD ps).map fstS = ps.map (·.1) := by
    unfold pairsD
    rw [List.map_map]
    rfl
  have nt : t ∉ ps.map (·.1) := fun z => by
    obtain ⟨p, hp, e⟩ := List.mem_map.mp z
    have h := (d.mp p hp).1
    rw [e] at h
    have k := d.t
    simp only [List.mem_cons, List.not_mem_nil, or_false] at h k
    rcases k with rfl | rfl | rfl | rfl <;> exact absurd h (by decide)
  have l4 : ¬ 4 < (pairsD ps).length := by have := (bit_ps d).2; omega
  have l3 : ¬ 3 < qs.length := by have := d.lq; omega
  simp only [tout, tabOut, n1, f0, ef, strOf_str, d.np, nt, l4, l3, d.nq, decide_true, decide_false, Bool.not_true, Bool.or_false, Bool.false_eq_true, if_false]
theorem drawn_small {t : Str} {qs : List Q0} {ps : List (Str × Str)} (d : DrawnT t qs ps) : small3 (.str t, qs, pairsD ps) := by
  obtain ⟨bp, lp⟩ := bit_ps d
  exact bit_ok (bit_t d.t).1 (by have := d.lq; omega) d.kq (by omega) bp
theorem small3.okTb {t : T0} (h : small3 t) : okTb t := by
  obtain ⟨⟨h1, h2⟩, ⟨h3, h4⟩, h5, h6, h7⟩ := h
  exact ⟨⟨by omega, by omega⟩, h4, by omega, by omega⟩
theorem eqQs_self : ∀ {qs : List Q0}, (∀ q ∈ qs, okQ q) → eqQs qs qs = true
  | [], _ => rfl
  | q :: qs, h => by
    show (eq4 q q && eqQs qs qs) = true
    rw [eq4_self (h q List.mem_cons_self).tame, eqQs_self fun r hr => h r (List.mem_cons_of_mem _ hr)]
    rfl
theorem eqTb_self {t : T0} (h : okTb t) : eqTb t t = true := by
  obtain ⟨⟨h1, _⟩, h2, h3, _⟩ := h
  simp [eqTb, eqD_self h1, eqD_self h3, eqQs_self h2]
theorem tabD_inj {C CC : Addr} {a b : T0} (h : tabD C CC a = tabD C CC b) (ha : ∀ q ∈ a.2.1, okQ q) : a = b := by
  unfold tabD at h
  injection h with _ _ h
  injection h with h1 h
  injection h with h2 h
  injection h with h3 _
  injection h2 with h2
  injection h3 with h3
  have e : ∀ {xs ys : List Q0}, xs.map (colD CC) = ys.map (colD CC) → xs = ys := fun {xs ys} z => by
    induction xs generalizing ys with
    | nil => cases ys <;> first | rfl | cases z
    | cons x xs ih =>
      cases ys with
      | nil => cases z
      | cons y ys =>
        simp only [List.map_cons, List.cons.injEq] at z
        obtain ⟨z1, z2⟩ := z
        unfold colD at z1
        injection z1 with _ _ z1
        injection z1 with e1 z1
        injection z1 with e2 z1
        injection z1 with e3 z1
        injection z1 with e4 _
        rw [ih z2, Prod.ext e1 (Prod.ext e2 (Prod.ext e3 e4))]
  exact Prod.ext h1 (Prod.ext (e h2) h3)
theorem gEqOT_i {K : PySem.W.Frag} {C CC : Addr} {a : T0} {d : D} {Q : D → Prop} (ta : okTb a) (od : OkOT C CC d) (ot : D.okTy K d) (nf : PySem.W.notFirst K C d.ty = true) (h : ∀ r, eqOT C CC a d r → Q (.bl r)) : gEqO K C (ct_Table___eq__ C CC) (tabD C CC a) d Q :=
  .inr ⟨_, _, rfl, ot, nf, (a, d), rfl, ⟨ta, od⟩, fun z ⟨r, e, k⟩ => ⟨r, e, h r k⟩, fun _ z => z⟩
theorem gNeOT_i {K : PySem.W.Frag} {C CC : Addr} {a : T0} {d : D} {Q : D → Prop} (ta : okTb a) (od : OkOT C CC d) (ot : D.okTy K d) (nf : PySem.W.notFirst K C d.ty = true) (h : ∀ r, eqOT C CC a d r → Q (.bl (!r))) : gNeO K C (ct_Table___eq__ C CC) (tabD C CC a) d Q :=
  .inr ⟨_, _, rfl, ot, nf, (a, d), rfl, ⟨ta, od⟩, fun z ⟨r, e, k⟩ => ⟨r, e, h r k⟩, fun _ z => z⟩
theorem eqOT_tab {C CC : Addr} {a b : T0} {r : Bool} (hb : okTb b) (h : eqOT C CC a (tabD C CC b) r) : r = eqTb a b := by
  rcases h with ⟨h, _⟩ | ⟨b', k, e, rfl⟩
  · cases h
  · rw [tabD_inj e hb.2.1]
theorem eqOT_no {C CC : Addr} {a : T0} {d : D} {r : Bool} (hd : notI d = true) (h : eqOT C CC a d r) : r = false := by
  rcases h with ⟨_, rfl⟩ | ⟨b', k, rfl, _⟩
  · rfl
  · cases hd
abbrev s__law_right : Stmt := top 49
abbrev N__law_right : List Str := ["_law_bag_here", "_law_title", "_law_columns", "_law_own_ids", "_law_made", "_law_other", "_law_bent_here", "_law_found", "_law_due_here"]
theorem sc__law_right : FnScope N__law_right ["_law_bag_here"] (defScope s__law_right) := ⟨rfl, rfl, rfl, by decide +kernel, rfl, by decide +kernel, by decide +kernel⟩
def ct__law_right : Ct := Ct.ex 24 (fun _ : Unit => [none]) (fun _ => True) (fun _ z => z = .bl true) (fun _ _ => False)
theorem ok__law_right {P : Program} {w : World} {K : PySem.W.Frag} {mg : Str → Option Value} {base : Heap} {f : Addr} {fd : FuncData} {cc_Column cc_Table : Addr} (F : FunD K "_law_right" "_law_right" (defArgs s__law_right) (defBody s__law_right) (defScope s__law_right) [] [] f fd) (m_Table : mg "Table" = some (.ref cc_Table)) (F__law_bent : FnG P w K mg base 6 "_law_bent" 2 (ct__law_bent cc_Column)) (F__law_drawn : FnG P w K mg base 6 "_law_drawn" 1 (ct__law_drawn cc_Column)) (F__law_due : FnG P w K mg base 3 "_law_due" 3 (ct__law_due cc_Column)) (F__law_outcome : FnG P w K mg base 10 "_law_outcome" 3 (ct__law_outcome cc_Table cc_Column)) (m_isinstance : mg "isinstance" = none) (m_list : mg "list" = none) (m_repr : mg "repr" = none) (m_tuple : mg "tuple" = none) (G_eq : EqG P w K mg base 1 cc_Column (ct_Column___eq__ cc_Column)) (G_tab : EqG P w K mg base 6 cc_Table (ct_Table___eq__ cc_Table cc_Column)) (T_Table : ClsD K cc_Table tabNs) (T_Column : ClsD K cc_Column colNs) (NF1 : PySem.W.notFirst K cc_Table (.type "str") = true) (NF2 : PySem.W.notFirst K cc_Table (.type "tuple") = true) (NF3 : PySem.W.notFirst K cc_Table (.ref cc_Table) = true) : Fd P w K mg base 11 f fd ["_law_bag_here"] (spC K 1 (ct__law_right )) := by
  have nd := sc__law_right.nd
  refine fd_body (N := N__law_right) (ct := ct__law_right ) F sc__law_right (fun cdv A outer s H E hr hG tk pw => have hu := Room.units hr; have hv := room_u hr; (pdss_cons (pds_asg (dcall F__law_drawn hr (by decide) hG tk (av 0 pda_nil)) (pdg_tup (n := 3) rfl (pdgs_cons (pdg_name (i := 1) nd rfl (.inl rfl)) (pdgs_cons (pdg_name (i := 2) nd rfl (.inl rfl)) (pdgs_cons (pdg_name (i := 3) nd rfl (.inl rfl)) pdgs_nil)))))
    (pdss_cons (pds_parDD (i := 4) (j := 5) rfl nd rfl rfl (by decide) rfl rfl (dcall F__law_outcome hr (by decide) hG tk (av 1 (av 2 (av 3 pda_nil)))) (dcall F__law_outcome hr (by decide) hG tk (av 1 (av 2 (av 3 pda_nil)))) (by rfl))
    (pdss_cons (pds_if (pdt_w (pdw_or (pdt_not (pdt_tru (disiC K m_Table m_isinstance (dv 4)))) (pdw_or (pdt_neO G_tab hr (by decide) hG (dv 4) (dv 5)) (pdw_or (pdt_eqO G_tab hr (by decide) hG (dv 4) (dv 1)) (pdw_or1 (pdt_eqO G_tab hr (by decide) hG (dv 4) (pd_tup (av 1 (pda_cons (pd_tuple (by rfl) m_tuple (av 2 pda_nil)) (av 3 pda_nil)))))))))) (pdss_one (pds_ret pd_bl)) pdss_nil)
    (pdss_cons (pds_if (pdt_w (pdw_or (pdt_cmp (op_neP hu) snd_ne (pd_repr hG hu (by rfl) m_repr (pda_cons (pd_tup (pda_cons (dfld K (dv 4)) (pda_cons (dfld K (dv 4)) pda_nil))) pda_nil)) (pd_repr hG hu (by rfl) m_repr (pda_cons (pd_tup (av 1 (av 3 pda_nil))) pda_nil))) (pdw_or1 (pdt_neD 4 (gs_col G_eq) hr (by decide) hG (pd_L (pdl_list (by rfl) m_list (pda_cons (dfld K (dv 4)) pda_nil))) (dv 2))))) (pdss_one (pds_ret pd_bl)) pdss_nil)
    (pdss_cons (pds_if (pdt_not (pdt_tru (disiT K boot_tuple'' m_tuple m_isinstance (dfld K (dv 4))))) (pdss_one (pds_ret pd_bl)) pdss_nil)
    (pdss_cons (pds_set (i := 6) nd rfl (.inl rfl) (dcall F__law_bent hr (by decide) hG tk (av 0 (pda_cons (pd_tup (av 1 (av 2 (av 3 pda_nil)))) pda_nil))))
    (pdss_cons (pds_parDD (i := 7) (j := 8) rfl nd rfl rfl (by decide) rfl rfl (dcall F__law_outcome hr (by decide) hG tk (pda_cons (pd_ix (dv 6) pd_int) (pda_cons (pd_ix (dv 6) pd_int) (pda_cons (pd_ix (dv 6) pd_int) pda_nil)))) (dcall F__law_due hr (by decide) hG tk (pda_cons (pd_ix (dv 6) pd_int) (pda_cons (pd_ix (dv 6) pd_int) (pda_cons (pd_ix (dv 6) pd_int) pda_nil)))) (by rfl))
    (pdss_cons (pds_if (pdt_cmp op_notN1 snd_notN (dv 8) pd_non) (pdss_one (pds_ret (pd_cmp (op_eqP hu) snd_eq (dv 7) (dv 8)))) pdss_nil)
    (pdss_one (pds_ret (pd_and (disiC K m_Table m_isinstance (dv 7)) (pd_one (pd_cmp (op_eqP hu) snd_eq (deqO G_tab hr (by decide) hG (dv 7) (dv 4)) (deqD 5 (gs_col G_eq) hr (by decide) hG (dv 6) (pd_tup (av 1 (av 2 (av 3 pda_nil))))))))))))))))))) ?_
  rintro as Q E hl ⟨⟨⟩, rfl, -, q, -⟩
  have q := q _ rfl
  refine dSeq_i ?_
  simp [-Bool.exists_bool, -dSeq]
  refine ⟨(by decide : (20 : Nat) ≤ 24), Ct.exI () rfl trivial (fun z hz => ?_) fun _ z => z.elim⟩
  obtain ⟨t, qs, ps, dr, rfl⟩ := hz
  have ok := drawn_ok dr
  have sm := drawn_small dr
  have ta := sm.okTb
  simp [-Bool.exists_bool, -dSeq, homeD]
  refine ⟨_, _, ⟨rfl, rfl⟩, _, _, rfl, _, _, rfl, rfl, ?_⟩
  refine dSeq_i ?_
  simp [-Bool.exists_bool, -dSeq]
  refine Ct.exI (.str t, qs, pairsD ps) rfl sm (fun z hz => Ct.exI (.str t, qs, pairsD ps) rfl sm (fun z2 hz2 => ?_) fun _ z => z.elim) fun _ z => z.elim
  have made : outTD cc_Table cc_Column (.str t, qs, pairsD ps) = tabD cc_Table cc_Column (.str t, qs, pairsD ps) := by simp [outTD, ok]
  rw [made] at hz hz2
  subst hz hz2
  refine dSeq_i ?_
  simp [-Bool.exists_bool, -dSeq, tabD]
  refine ⟨T_Table.ity, true, kit_self, ?_⟩
  rw [if_pos rfl]
  refine gNeOT_i (a := (.str t, qs, pairsD ps)) ta (.inr ⟨_, ta, rfl⟩) T_Table.ity NF3 fun r hr => ⟨!r, rfl, ?_⟩
  obtain rfl := eqOT_tab (a := (.str t, qs, pairsD ps)) (b := (.str t, qs, pairsD ps)) ta hr
  rw [eqTb_self ta]
  simp only [Bool.not_true, Bool.false_eq_true, if_false]
  refine gEqOT_i (a := (.str t, qs, pairsD ps)) ta (.inl rfl) trivial NF1 fun r hr => ⟨r, rfl, ?_⟩
  obtain rfl := eqOT_no rfl hr
  simp only [Bool.false_eq_true, if_false]
  refine gEqOT_i (a := (.str t, qs, pairsD ps)) ta (.inl rfl) trivial NF2 fun r hr => ⟨r, rfl, ?_⟩
  obtain rfl := eqOT_no rfl hr
  simp only [Bool.false_eq_true, if_false]
  have o1 := T_Table.ok "name" (by simp [tabNs])
  have o2 := T_Table.ok "parts" (by simp [tabNs])
  have o3 := T_Table.ok "links" (by simp [tabNs])
  refine dSeq_i ?_
  simp [-Bool.exists_bool, -dSeq, -gRepr, -gNe, o1, o2, o3, tabNs]
  have s1 : (D.str t).wt < 100000 := sm.1.1
  have s2 : (D.str t).dep ≤ 50 := sm.1.2
  have s3 : (D.tup (pairsD ps)).wt < 100000 := sm.2.2.1
  have s4 : (D.tup (pairsD ps)).dep ≤ 50 := sm.2.2.2.1
  have z4 : (D.tup [.str t, .tup (pairsD ps)]).wt < 1000000 := by
    show (D.str t).wt + 2 + ((D.tup (pairsD ps)).wt + 2 + 0) + 3 < 1000000
    omega
  have z5 : (D.tup [.str t, .tup (pairsD ps)]).dep ≤ 60 := by
    show max (D.str t).dep (max (D.tup (pairsD ps)).dep 0) + 1 ≤ 60
    omega
  refine ⟨_, rfl, gRepr_tame z4 z5 (gRepr_tame z4 z5 ?_)⟩
  refine ⟨_, _, rfl, rfl, by simp, false, by simp, ?_⟩
  simp only [Bool.false_eq_true, if_false]
  have kq := sm.2.1.2
  have eself := eqT_cols T_Column (n := 2) kq kq
  rw [eqQs_self kq] at eself
  refine ⟨_, rfl, .inr ⟨_, rfl, cols_nsc kq, cols_nsc kq, true, .lst rfl eself, false, rfl, ?_⟩⟩
  simp only [Bool.false_eq_true, if_false]
  refine dSeq_i ?_
  simp [-Bool.exists_bool, -dSeq, o2]
  refine ⟨_, rfl, trivial, true, by unfold PySem.W.kitOne; rw [if_pos (by simp)], ?_⟩
  rw [if_pos rfl]
  refine dSeq_i ?_
  simp [-Bool.exists_bool, -dSeq]
  refine ⟨(by decide : (3 : Nat) ≤ 4), Ct.exI (t, qs, ps) rfl dr (fun z hz => ?_) fun _ z => z.elim⟩
  obtain ⟨⟨bn, bq, bl⟩, rfl, sb⟩ := hz
  refine dSeq_i ?_
  simp [-Bool.exists_bool, -dSeq, atI, ixN, bentD]
  refine Ct.exI (bn, bq, bl) rfl sb (fun z hz => Ct.exI (bn, bq, bl) rfl sb (fun z2 hz2 => ?_) fun _ z => z.elim) fun _ z => z.elim
  have hz : z = outTD cc_Table cc_Column (bn, bq, bl) := hz
  have hz2 : z2 = dueTD (bn, bq, bl) := hz2
  have dull : ∀ a b : Str, ∃ p q, (D.tup [.str a, .str b, .bl false]).py = some p ∧ (D.tup [.str a, .str b, .bl false]).py = some q ∧ min p.depth q.depth ≤ 60 ∧ Q (.bl (PyData.eqv p q)) := fun a b => by
    refine ⟨_, _, rfl, rfl, by simp [PyData.depth, PyData.depthAll], ?_⟩
    rw [eqv_self rfl]
    exact q
  cases c : tout (bn, bq, bl) with
  | name =>
    simp only [outTD, dueTD, c] at hz hz2
    subst hz hz2
    simpa [-Bool.exists_bool] using dull "name" (shD bn)
  | tab =>
    simp only [outTD, dueTD, c] at hz hz2
    subst hz hz2
    simpa [-Bool.exists_bool] using dull "table" (shD bn)
  | act l =>
    simp only [outTD, dueTD, c] at hz hz2
    subst hz hz2
    simpa [-Bool.exists_bool] using dull "action" (shD l)
  | ok =>
    simp only [outTD, dueTD, c] at hz hz2
    subst hz hz2
    have tb := sb.okTb
    have kb := sb.2.1.2
    have w1 : bn.wt < 100000 := sb.1.1
    have w2 : bn.dep ≤ 50 := sb.1.2
    have w3 : (D.tup bl).wt < 100000 := sb.2.2.1
    have w4 : (D.tup bl).dep ≤ 50 := sb.2.2.2.1
    have deep : EqD (GC K cc_Column) 5 (.tup [bn, .lst (bq.map (colD cc_Column)), .tup bl]) (.tup [.str t, .lst (qs.map (colD cc_Column)), .tup (pairsD ps)]) (eqTb (bn, bq, bl) (.str t, qs, pairsD ps)) := by
      have pl : ∀ {n : Nat} {a b : D}, a.wt < 1000000 → b.wt < 1000000 → a.dep ≤ 60 → EqD (GC K cc_Column) n a b (eqD a b) := fun {n a b} ha hb hd => by
        obtain ⟨p, u⟩ := tame a ha
        obtain ⟨p', u'⟩ := tame b hb
        have e : eqD a b = PyData.eqv p p' := by
          unfold eqD
          rw [u.py, u'.py]
        rw [e]
        exact .plain u.py u'.py (by rw [u.dp]; omega)
      refine .tup ?_
      show EqT _ _ _ _ (eqD bn (.str t) && (eqQs bq qs && eqD (.tup bl) (.tup (pairsD ps))))
      have p1 := pl (n := 4) (a := bn) (b := .str t) (by omega) (by omega) (by omega)
      cases e1 : eqD bn (.str t) with
      | false =>
        rw [e1] at p1
        exact .ff p1
      | true =>
        rw [e1] at p1
        refine .tt p1 ?_
        have p2 : EqD (GC K cc_Column) 4 (.lst (bq.map (colD cc_Column))) (.lst (qs.map (colD cc_Column))) (eqQs bq qs) := by
          by_cases hl : bq.length = qs.length
          · exact .lst (by simpa using hl) (eqT_cols T_Column (n := 2) kb kq)
          · have e0 : ∀ {xs ys : List Q0}, xs.length ≠ ys.length → eqQs xs ys = false := fun {xs ys} z => by
              induction xs generalizing ys with
              | nil => cases ys <;> first | exact absurd rfl z | rfl
              | cons x xs ih =>
                cases ys with
                | nil => rfl
                | cons y ys =>
                  show (eq4 x y && eqQs xs ys) = false
                  rw [ih fun w => z (by simp [w])]
                  simp
            rw [e0 hl]
            exact .len (by simpa using hl)
        cases e2 : eqQs bq qs with
        | false =>
          rw [e2] at p2
          exact .ff p2
        | true =>
          rw [e2] at p2
          refine .tt p2 ?_
          have p3 := pl (n := 4) (a := .tup bl) (b := .tup (pairsD ps)) (by omega) (by omega) (by omega)
          cases e3 : eqD (.tup bl) (.tup (pairsD ps)) with
          | false =>
            rw [e3] at p3
            exact .ff p3
          | true =>
            rw [e3] at p3
            exact .tt p3 .nn
    simp [-Bool.exists_bool, -gEq, tabD]
    refine ⟨T_Table.ity, true, kit_self, ?_⟩
    rw [if_pos rfl]
    refine gEqOT_i (a := (bn, bq, bl)) (d := tabD cc_Table cc_Column (.str t, qs, pairsD ps)) tb (.inr ⟨_, ta, rfl⟩) T_Table.ity NF3 fun r hr => ?_
    obtain rfl := eqOT_tab (a := (bn, bq, bl)) (b := (.str t, qs, pairsD ps)) ta hr
    have m1 := nsc_wt bn (by omega)
    have m2 := nsc_wt (.tup bl) (by omega)
    have m3 := nsc_wt (.tup (pairsD ps)) (by omega)
    have m4 := cols_nsc (C := cc_Column) kb
    have m5 := cols_nsc (C := cc_Column) kq
    simp only [D.nsc] at m2 m3
    refine ⟨by simp only [D.nsc, D.nscL, m1, m2, m4, Bool.and_self], by simp only [D.nsc, D.nscL, m3, m5, Bool.and_self], _, deep, _, _, rfl, rfl, by simp, ?_⟩
    have e : ∀ b : Bool, PyData.eqv (.bool b) (.bool b) = true := fun b => by cases b <;> rfl
    show Q (.bl (PyData.eqv (.bool (eqTb (bn, bq, bl) (.str t, qs, pairsD ps))) (.bool (eqTb (bn, bq, bl) (.str t, qs, pairsD ps)))))
    rw [e]
    exact q
theorem fg__law_right {P : Program} {w : World} {K : PySem.W.Frag} {mg : Str → Option Value} {base : Heap} {f : Addr} {fd : FuncData} {cc_Column cc_Table : Addr} (F : FunD K "_law_right" "_law_right" (defArgs s__law_right) (defBody s__law_right) (defScope s__law_right) [] [] f fd) (hm : mg "_law_right" = some (.ref f)) (m_Table : mg "Table" = some (.ref cc_Table)) (F__law_bent : FnG P w K mg base 6 "_law_bent" 2 (ct__law_bent cc_Column)) (F__law_drawn : FnG P w K mg base 6 "_law_drawn" 1 (ct__law_drawn cc_Column)) (F__law_due : FnG P w K mg base 3 "_law_due" 3 (ct__law_due cc_Column)) (F__law_outcome : FnG P w K mg base 10 "_law_outcome" 3 (ct__law_outcome cc_Table cc_Column)) (m_isinstance : mg "isinstance" = none) (m_list : mg "list" = none) (m_repr : mg "repr" = none) (m_tuple : mg "tuple" = none) (G_eq : EqG P w K mg base 1 cc_Column (ct_Column___eq__ cc_Column)) (G_tab : EqG P w K mg base 6 cc_Table (ct_Table___eq__ cc_Table cc_Column)) (T_Table : ClsD K cc_Table tabNs) (T_Column : ClsD K cc_Column colNs) (NF1 : PySem.W.notFirst K cc_Table (.type "str") = true) (NF2 : PySem.W.notFirst K cc_Table (.type "tuple") = true) (NF3 : PySem.W.notFirst K cc_Table (.ref cc_Table) = true) : FnG P w K mg base 11 "_law_right" 1 (ct__law_right ) :=
  fnG_of F sc__law_right hm (ok__law_right F m_Table F__law_bent F__law_drawn F__law_due F__law_outcome m_isinstance m_list m_repr m_tuple G_eq G_tab T_Table T_Column NF1 NF2 NF3) (F.bindsN fun _ _ _ _ _ _ us hl => match us, hl with | [_], _ => rfl) Ct.ex_mono
end K2
end
section
set_option autoImplicit true
set_option Elab.async false
set_option linter.all false
set_option maxRecDepth 100000
set_option maxHeartbeats 4000000
namespace K2
open PySem PySem.Spec PyProof.Rows L2 Pd
abbrev s_law : Stmt := top 50
abbrev N_law : List Str := ["_law_script", "_law_at", "_law_bag_here", "_law_turn", "_law_plain"]
theorem sc_law : FnScope N_law ["_law_script"] (defScope s_law) := ⟨rfl, rfl, rfl, by decide +kernel, rfl, by decide +kernel, by decide +kernel⟩
def ct_law : Ct := Ct.ex 0 (fun ns : List Int => [some (.scr ns)]) (fun ns => ns.length ≤ 63) (fun _ z => z = .bl true) (fun _ _ => False)
theorem ok_law {P : Program} {w : World} {K : PySem.W.Frag} {mg : Str → Option Value} {base : Heap} {f : Addr} {fd : FuncData} {c_BadAction c_BadName c_BadTable cc_Column cc_Table : Addr} (F : FunD K "law" "law" (defArgs s_law) (defBody s_law) (defScope s_law) [] [] f fd) (F__law_bag : BagG P w K mg base 1 "_law_bag") (F__law_right : FnG P w K mg base 11 "_law_right" 1 (ct__law_right )) (m_len : mg "len" = none) (m_max : mg "max" = none) (m_min : mg "min" = none) (m_range : mg "range" = none) (C_Table : CnG P w K mg base 7 "Table" cc_Table [] 1 3 tabNs (gV4 d0) gD4 (ciTab cc_Column c_BadName c_BadTable c_BadAction)) (T_Table : ClsD K cc_Table tabNs) : Fd P w K mg base 12 f fd ["_law_script"] (spC K 1 (ct_law )) := by
  have nd := sc_law.nd
  refine fd_body (N := N_law) (ct := ct_law ) F sc_law (fun cdv A outer s H E hr hG tk pw => have hu := Room.units hr; have hv := room_u hr; (pdss_cons (pds_for pw rfl (pdi_range (by rfl) m_range (pda_cons (pd_max2 rfl m_max (pda_cons pd_int (pda_cons (pd_min2 rfl m_min (pda_cons pd_int (pda_cons (pd_lenV (i := 0) rfl (by first | exact .inl rfl | exact .inr (.inl rfl) | exact .inr (.inr rfl)) (by rfl) m_len) pda_nil))) pda_nil))) pda_nil)) (pdg_name (i := 1) nd rfl (.inl rfl)) (pdss_cons (pds_bag (i := 2) 360 F__law_bag hr (by decide) hG tk nd rfl (.inl rfl) (av 0 (av 1 pda_nil)))
    (pdss_cons (pds_for pw rfl (pdi_range (by rfl) m_range (pda_cons pd_int pda_nil)) (pdg_name (i := 3) nd rfl (.inl rfl)) (pdss_one (pds_if (pdt_not (pdt_tru (dcall F__law_right hr (by decide) hG tk (av 2 pda_nil)))) (pdss_one (pds_ret pd_bl)) pdss_nil)))
    (pdss_cons (pds_set (i := 4) nd rfl (.inl rfl) (dmake C_Table hr (by decide) hG tk (pda_cons pd_str pda_nil) pdk_nil))
    (pdss_one (pds_if (pdt_cmp (op_neP hu) snd_ne (pd_L (pdl_lst (pda_cons (dfld K (dv 4)) (pda_cons (dfld K (dv 4)) (pda_cons (dfld K (dv 4)) pda_nil))))) (pd_L (pdl_lst (pda_cons pd_str (pda_cons (pd_tup pda_nil) (pda_cons (pd_tup pda_nil) pda_nil)))))) (pdss_one (pds_ret pd_bl)) pdss_nil))))))
    (pdss_one (pds_ret pd_bl)))) ?_
  rintro as Q E hl ⟨ns, rfl, hn, q, -⟩
  have q := q _ rfl
  have o1 := T_Table.ok "name" (by simp [tabNs])
  have o2 := T_Table.ok "parts" (by simp [tabNs])
  have o3 := T_Table.ok "links" (by simp [tabNs])
  refine dSeq_i ?_
  simp [-Bool.exists_bool, -dSeq]
  refine ⟨2, ns.length, ⟨rfl, rfl⟩, 1, _, ⟨rfl, rfl⟩, ?_, ?_, ?_⟩
  · split <;> omega
  · split <;> split <;> omega
  refine loopD_inv (fun ds sv => (∃ s1 s2 s3 s4, sv = [.dat (.scr ns), s1, s2, s3, s4]) ∧ ∀ d ∈ ds, ∃ m : Nat, d = .int (m : Int) ∧ m < 100) ⟨⟨_, _, _, _, rfl⟩, fun d hd => ?_⟩ (fun _ _ => q) ?_
  · obtain ⟨m, hm, rfl⟩ := List.mem_map.mp hd
    refine ⟨m, rfl, ?_⟩
    have := List.mem_range.mp hm
    split at this <;> split at this <;> omega
  rintro d r sv ⟨⟨s1, s2, s3, s4, rfl⟩, hr⟩ nx hnx
  obtain ⟨m, rfl, hm⟩ := hr d List.mem_cons_self
  have hr2 : ∀ d ∈ r, ∃ m : Nat, d = .int (m : Int) ∧ m < 100 := fun d hd => hr d (List.mem_cons_of_mem _ hd)
  simp [-Bool.exists_bool, -dSeq]
  refine dSeq_i ?_
  simp [-Bool.exists_bool, -dSeq]
  refine ⟨ns, m, ⟨rfl, rfl⟩, by omega, by omega, ?_⟩
  refine dSeq_i ?_
  simp [-Bool.exists_bool, -dSeq]
  refine loopD_inv (fun ds sv => ∃ (n : Nat) (s3 : Sl), sv = [.dat (.scr ns), .dat (.int m), .bag n, s3, s4] ∧ 24 * ds.length ≤ n) ⟨360, s3, rfl, by simp⟩ ?_ ?_
  · rintro sv ⟨n, s3', rfl, -⟩
    dsimp only
    refine dSeq_i ?_
    simp [-Bool.exists_bool, -dSeq]
    refine ⟨.str "a", [], [], rfl, ⟨by decide +kernel, by decide +kernel, by decide, by decide, fun q hq => by cases hq⟩, ?_⟩
    have co : tabOut (.str "a") [] [] = .ok := drawn_ok (t := "a") (qs := []) (ps := []) ⟨by decide, (fun q hq => by cases hq), by simp, (fun q hq => by cases hq), by simp, by simp, by simp, fun q hq => by cases hq⟩
    rw [co]
    simp [-Bool.exists_bool, o1, o2, o3, tabNs]
    refine ⟨_, rfl, _, rfl, _, ⟨_, rfl, rfl⟩, by simp [PyData.depth, PyData.depthAll], false, by rw [eqv_self rfl]; rfl, ?_⟩
    simp only [Bool.false_eq_true, if_false]
    exact hnx _ ⟨⟨_, _, _, _, rfl⟩, hr2⟩
  · rintro d r2 sv ⟨n, s3', rfl, h1⟩ nx2 hnx2
    rw [List.length_cons] at h1
    simp [-Bool.exists_bool, -dSeq]
    refine ⟨by show 24 ≤ n; omega, Ct.exI () rfl trivial (fun d hd => ?_) fun _ z => z.elim⟩
    have hd : d = .bl true := hd
    subst hd
    refine ⟨true, rfl, ?_⟩
    simp only [Bool.not_true, Bool.false_eq_true, if_false]
    exact hnx2 _ ⟨n - 24, _, rfl, by omega⟩
theorem fg_law {P : Program} {w : World} {K : PySem.W.Frag} {mg : Str → Option Value} {base : Heap} {f : Addr} {fd : FuncData} {c_BadAction c_BadName c_BadTable cc_Column cc_Table : Addr} (F : FunD K "law" "law" (defArgs s_law) (defBody s_law) (defScope s_law) [] [] f fd) (hm : mg "law" = some (.ref f)) (F__law_bag : BagG P w K mg base 1 "_law_bag") (F__law_right : FnG P w K mg base 11 "_law_right" 1 (ct__law_right )) (m_len : mg "len" = none) (m_max : mg "max" = none) (m_min : mg "min" = none) (m_range : mg "range" = none) (C_Table : CnG P w K mg base 7 "Table" cc_Table [] 1 3 tabNs (gV4 d0) gD4 (ciTab cc_Column c_BadName c_BadTable c_BadAction)) (T_Table : ClsD K cc_Table tabNs) : FnG P w K mg base 12 "law" 1 (ct_law ) :=
  fnG_of F sc_law hm (ok_law F F__law_bag F__law_right m_len m_max m_min m_range C_Table T_Table) (F.bindsN fun _ _ _ _ _ _ us hl => match us, hl with | [_], _ => rfl) Ct.ex_mono
end K2
end
section
set_option autoImplicit true
set_option Elab.async false
set_option linter.all false
set_option maxRecDepth 100000
set_option maxHeartbeats 4000000
namespace K2
open PySem PySem.Spec PyProof.Rows L2 Pd
/-! the errors' own __init__ -/
section
variable {P : Program} {w : World} {K : PySem.W.Frag} {mg : Str → Option Value} {base : Heap} {f C : Addr} {fd : FuncData}
theorem vV (K : PySem.W.Frag) : PySem.W.findCls K (.type "ValueError") (.type "type") "__init__" = some (.val (.builtin "ValueError.__init__")) := by rfl
theorem tV : typeOf (.type "ValueError") = pure (.type "type") := by rfl
theorem hV : PySem.W.handedIn (Value.builtin "ValueError.__init__") = true := by rfl
abbrev bmV : List Value := [.type "ValueError", .type "Exception", .type "BaseException", .type "object"]
abbrev s_BadName : Stmt := inClass (top 2) 0
theorem sc_BadName : FnScope ["self", "value"] ["self", "value"] (defScope s_BadName) := ⟨rfl, rfl, rfl, by decide +kernel, rfl, by decide +kernel, by decide +kernel⟩
theorem ini_BadName (F : FunD K "__init__" "BadName.__init__" (defArgs s_BadName) (defBody s_BadName) (defScope s_BadName) [] [] f fd) (T : OexG K C "ValueError" "ValueError.__new__" "ValueError.__init__" bmV) (hno : PySem.W.findIn K (.ref C) "value" = some none) (m_V : mg "ValueError" = none) :
    FnOk P w K mg base CX0 1 f fd ["self", "value"] (spEx C ["value"]) := by
  refine F.ok sc_BadName (fun vs H Q E h => ?_) fun cdv A outer s H vs Q E hr h => ⟨_, (pss_cons (ps_expr (pe_binit (B := "ValueError") (newId := "ValueError.__new__") (bm := bmV) (by rfl) m_V boot_ValueError tV (vV K) (pa_cons (pv 0) (pa_cons pe_str pa_nil)) (by decide +kernel) hV)) (pss_one (ps_gst (newId := "ValueError.__new__") (initId := "ValueError.__init__") (bm := bmV) (B := "ValueError") (pv 0) (pv 1)))), ?_⟩
  · obtain ⟨a, ws, rfl, hl, _⟩ := h
    simp [hl]
  obtain ⟨a, ws, rfl, hl, ha, q⟩ := h
  obtain ⟨y, rfl⟩ : ∃ y, ws = [y] := by
    match ws, hl with
    | [y], _ => exact ⟨y, rfl⟩
  refine ⟨.ref a, rfl, a, C, _, rfl, by decide, T, ha, ?_⟩
  exact ⟨y, rfl, .ref a, rfl, a, C, rfl, T, hno, .inl ⟨ha, fun dx h1 h2 => q dx h1 h2⟩⟩
theorem exg_BadName (F : FunD K "__init__" "BadName.__init__" (defArgs s_BadName) (defBody s_BadName) (defScope s_BadName) [] [] f fd) (hm : mg "BadName" = some (.ref C)) (h1 : exB K C "ValueError.__new__" bmV = true) (h2 : inB K C f = true) (h3 : noB K C ["value"] = true) (m_V : mg "ValueError" = none) : ExG P w K mg base 1 "BadName" C ["value"] := by
  obtain ⟨i1, i2⟩ := bb h2
  have T := exB_ok exb_ValueError h1
  exact ⟨⟨_, _, _, _, f, fd, ["self", "value"], T, of_decide_eq_true i1, of_decide_eq_true i2, ini_BadName F T (noB_ok h3 (by simp)) m_V, F.bindsN fun _ _ _ _ _ _ us hl => match us, hl with | [_, _], _ => rfl⟩, hm, by decide, by decide, by decide⟩
abbrev s_BadAction : Stmt := inClass (top 3) 0
theorem sc_BadAction : FnScope ["self", "value"] ["self", "value"] (defScope s_BadAction) := ⟨rfl, rfl, rfl, by decide +kernel, rfl, by decide +kernel, by decide +kernel⟩
theorem ini_BadAction (F : FunD K "__init__" "BadAction.__init__" (defArgs s_BadAction) (defBody s_BadAction) (defScope s_BadAction) [] [] f fd) (T : OexG K C "ValueError" "ValueError.__new__" "ValueError.__init__" bmV) (hno : PySem.W.findIn K (.ref C) "value" = some none) (m_V : mg "ValueError" = none) :
    FnOk P w K mg base CX0 1 f fd ["self", "value"] (spEx C ["value"]) := by
  refine F.ok sc_BadAction (fun vs H Q E h => ?_) fun cdv A outer s H vs Q E hr h => ⟨_, (pss_cons (ps_expr (pe_binit (B := "ValueError") (newId := "ValueError.__new__") (bm := bmV) (by rfl) m_V boot_ValueError tV (vV K) (pa_cons (pv 0) (pa_cons pe_str pa_nil)) (by decide +kernel) hV)) (pss_one (ps_gst (newId := "ValueError.__new__") (initId := "ValueError.__init__") (bm := bmV) (B := "ValueError") (pv 0) (pv 1)))), ?_⟩
  · obtain ⟨a, ws, rfl, hl, _⟩ := h
    simp [hl]
  obtain ⟨a, ws, rfl, hl, ha, q⟩ := h
  obtain ⟨y, rfl⟩ : ∃ y, ws = [y] := by
    match ws, hl with
    | [y], _ => exact ⟨y, rfl⟩
  refine ⟨.ref a, rfl, a, C, _, rfl, by decide, T, ha, ?_⟩
  exact ⟨y, rfl, .ref a, rfl, a, C, rfl, T, hno, .inl ⟨ha, fun dx h1 h2 => q dx h1 h2⟩⟩
theorem exg_BadAction (F : FunD K "__init__" "BadAction.__init__" (defArgs s_BadAction) (defBody s_BadAction) (defScope s_BadAction) [] [] f fd) (hm : mg "BadAction" = some (.ref C)) (h1 : exB K C "ValueError.__new__" bmV = true) (h2 : inB K C f = true) (h3 : noB K C ["value"] = true) (m_V : mg "ValueError" = none) : ExG P w K mg base 1 "BadAction" C ["value"] := by
  obtain ⟨i1, i2⟩ := bb h2
  have T := exB_ok exb_ValueError h1
  exact ⟨⟨_, _, _, _, f, fd, ["self", "value"], T, of_decide_eq_true i1, of_decide_eq_true i2, ini_BadAction F T (noB_ok h3 (by simp)) m_V, F.bindsN fun _ _ _ _ _ _ us hl => match us, hl with | [_, _], _ => rfl⟩, hm, by decide, by decide, by decide⟩
abbrev s_BadColumn : Stmt := inClass (top 4) 0
theorem sc_BadColumn : FnScope ["self", "name"] ["self", "name"] (defScope s_BadColumn) := ⟨rfl, rfl, rfl, by decide +kernel, rfl, by decide +kernel, by decide +kernel⟩
theorem ini_BadColumn (F : FunD K "__init__" "BadColumn.__init__" (defArgs s_BadColumn) (defBody s_BadColumn) (defScope s_BadColumn) [] [] f fd) (T : OexG K C "ValueError" "ValueError.__new__" "ValueError.__init__" bmV) (hno : PySem.W.findIn K (.ref C) "name" = some none) (m_V : mg "ValueError" = none) :
    FnOk P w K mg base CX0 1 f fd ["self", "name"] (spEx C ["name"]) := by
  refine F.ok sc_BadColumn (fun vs H Q E h => ?_) fun cdv A outer s H vs Q E hr h => ⟨_, (pss_cons (ps_expr (pe_binit (B := "ValueError") (newId := "ValueError.__new__") (bm := bmV) (by rfl) m_V boot_ValueError tV (vV K) (pa_cons (pv 0) (pa_cons pe_str pa_nil)) (by decide +kernel) hV)) (pss_one (ps_gst (newId := "ValueError.__new__") (initId := "ValueError.__init__") (bm := bmV) (B := "ValueError") (pv 0) (pv 1)))), ?_⟩
  · obtain ⟨a, ws, rfl, hl, _⟩ := h
    simp [hl]
  obtain ⟨a, ws, rfl, hl, ha, q⟩ := h
  obtain ⟨y, rfl⟩ : ∃ y, ws = [y] := by
    match ws, hl with
    | [y], _ => exact ⟨y, rfl⟩
  refine ⟨.ref a, rfl, a, C, _, rfl, by decide, T, ha, ?_⟩
  exact ⟨y, rfl, .ref a, rfl, a, C, rfl, T, hno, .inl ⟨ha, fun dx h1 h2 => q dx h1 h2⟩⟩
theorem exg_BadColumn (F : FunD K "__init__" "BadColumn.__init__" (defArgs s_BadColumn) (defBody s_BadColumn) (defScope s_BadColumn) [] [] f fd) (hm : mg "BadColumn" = some (.ref C)) (h1 : exB K C "ValueError.__new__" bmV = true) (h2 : inB K C f = true) (h3 : noB K C ["name"] = true) (m_V : mg "ValueError" = none) : ExG P w K mg base 1 "BadColumn" C ["name"] := by
  obtain ⟨i1, i2⟩ := bb h2
  have T := exB_ok exb_ValueError h1
  exact ⟨⟨_, _, _, _, f, fd, ["self", "name"], T, of_decide_eq_true i1, of_decide_eq_true i2, ini_BadColumn F T (noB_ok h3 (by simp)) m_V, F.bindsN fun _ _ _ _ _ _ us hl => match us, hl with | [_, _], _ => rfl⟩, hm, by decide, by decide, by decide⟩
abbrev s_BadTable : Stmt := inClass (top 5) 0
theorem sc_BadTable : FnScope ["self", "name"] ["self", "name"] (defScope s_BadTable) := ⟨rfl, rfl, rfl, by decide +kernel, rfl, by decide +kernel, by decide +kernel⟩
theorem ini_BadTable (F : FunD K "__init__" "BadTable.__init__" (defArgs s_BadTable) (defBody s_BadTable) (defScope s_BadTable) [] [] f fd) (T : OexG K C "ValueError" "ValueError.__new__" "ValueError.__init__" bmV) (hno : PySem.W.findIn K (.ref C) "name" = some none) (m_V : mg "ValueError" = none) :
    FnOk P w K mg base CX0 1 f fd ["self", "name"] (spEx C ["name"]) := by
  refine F.ok sc_BadTable (fun vs H Q E h => ?_) fun cdv A outer s H vs Q E hr h => ⟨_, (pss_cons (ps_expr (pe_binit (B := "ValueError") (newId := "ValueError.__new__") (bm := bmV) (by rfl) m_V boot_ValueError tV (vV K) (pa_cons (pv 0) (pa_cons pe_str pa_nil)) (by decide +kernel) hV)) (pss_one (ps_gst (newId := "ValueError.__new__") (initId := "ValueError.__init__") (bm := bmV) (B := "ValueError") (pv 0) (pv 1)))), ?_⟩
  · obtain ⟨a, ws, rfl, hl, _⟩ := h
    simp [hl]
  obtain ⟨a, ws, rfl, hl, ha, q⟩ := h
  obtain ⟨y, rfl⟩ : ∃ y, ws = [y] := by
    match ws, hl with
    | [y], _ => exact ⟨y, rfl⟩
  refine ⟨.ref a, rfl, a, C, _, rfl, by decide, T, ha, ?_⟩
  exact ⟨y, rfl, .ref a, rfl, a, C, rfl, T, hno, .inl ⟨ha, fun dx h1 h2 => q dx h1 h2⟩⟩
theorem exg_BadTable (F : FunD K "__init__" "BadTable.__init__" (defArgs s_BadTable) (defBody s_BadTable) (defScope s_BadTable) [] [] f fd) (hm : mg "BadTable" = some (.ref C)) (h1 : exB K C "ValueError.__new__" bmV = true) (h2 : inB K C f = true) (h3 : noB K C ["name"] = true) (m_V : mg "ValueError" = none) : ExG P w K mg base 1 "BadTable" C ["name"] := by
  obtain ⟨i1, i2⟩ := bb h2
  have T := exB_ok exb_ValueError h1
  exact ⟨⟨_, _, _, _, f, fd, ["self", "name"], T, of_decide_eq_true i1, of_decide_eq_true i2, ini_BadTable F T (noB_ok h3 (by simp)) m_V, F.bindsN fun _ _ _ _ _ _ us hl => match us, hl with | [_, _], _ => rfl⟩, hm, by decide, by decide, by decide⟩
end
abbrev sB : Stmt := top 38
abbrev NB : List Str := ["_law_script", "_law_at", "_law_cell", "_law_digits"]
theorem scB : FnScope NB ["_law_script", "_law_at"] (defScope sB) := ⟨rfl, rfl, rfl, by decide +kernel, rfl, by decide +kernel, by decide +kernel⟩
section
variable {P : Program} {w : World} {K : PySem.W.Frag} {mg : Str → Option Value} {base : Heap} {f : Addr} {fd : FuncData}
theorem okB {k : Nat} (F : FunD K "_law_bag" "_law_bag" (defArgs sB) (defBody sB) (defScope sB) [] [] f fd) (m_len : mg "len" = none) (m_abs : mg "abs" = none) : Fd P w K mg base (k + 1) f fd ["_law_script", "_law_at"] (spBag K) := by
  have nd := scB.nd
  refine fd_of F scB (fun vs H Q E h => ?_) fun cdv A outer s H vs Q E hr hG hsp => ⟨_, (pss_cons (ps_set (i := 2) nd rfl (.inl rfl) (pe_ifExp (pt_cmpR op_lt (pv 1) (pe_callB call_len_seq (by rfl) m_len PySem.boot_len (pa_cons (pv 0) pa_nil)) (nomark _)) (pe_ix ix_list (pv 0) (pv 1) (fun _ _ => rfl)) pe_int))
    (pss_cons (ps_set (i := 3) nd rfl (.inl rfl) (pe_ifExp (pt_cmpR op_ge (pe_callB call_abs (by rfl) m_abs boot_abs' (pa_cons (pv 2) pa_nil)) (pe_op op_pow pe_int pe_int) (nomark _)) (pe_callB call_abs (by rfl) m_abs boot_abs' (pa_cons (pv 2) pa_nil)) pe_int))
    (pss_one (ps_ret (pe_lst (pa_cons (pv 3) (pa_cons (pe_op op_mod (pe_op op_mul (pe_op op_add (pe_op op_add (pe_op op_mod (pv 2) pe_int) (pe_op op_mul pe_int (pv 1))) pe_int) pe_int) pe_int) (pa_cons pe_int pa_nil)))))))), ?_⟩
  · obtain ⟨a, ns, i, rfl, _⟩ := h
    rfl
  obtain ⟨a, ns, i, rfl, hS, hz, hi, q⟩ := hsp
  refine ⟨.int (i : Int), rfl, .ref a, rfl, a, _, rfl, .inl hS, (i : Int), _, rfl, rfl, _, rfl, ?_⟩
  -- the two ends of the cell
  have rest : ∀ (c : Int) (d : Int), 0 ≤ d → ∀ p, H p = none → Q (.ref p) (upd H p (.lst [.int d, .int ((c % 2305843009213693951 + 7919 * (i : Int) + 83) * 5915587 % 2305843009213693951), .int 0])) := fun c d hd p hp =>
    q p d _ hp hd (Int.emod_nonneg _ (by decide)) (Int.lt_trans (Int.emod_lt_of_pos _ (by decide)) (by decide))
  by_cases h1 : (i : Int) < ((ns.map V.int).length : Int)
  · rw [decide_eq_true h1]
    have hl : i < ns.length := by
      rw [List.length_map] at h1
      omega
    have ea : atI (ns.map V.int) (i : Int) = some (.int ns[i]) := by
      unfold atI ixN
      rw [if_pos (Int.natCast_nonneg i), if_pos h1]
      simp [hl]
    refine ⟨.ref a, rfl, .int (i : Int), rfl, a, _, (i : Int), .int ns[i], rfl, rfl, hS, ea, ?_⟩
    generalize ns[i] = c
    refine ⟨.int c, rfl, c, rfl, 10, 18, rfl, rfl, ⟨by decide, by decide, by decide⟩, _, _, rfl, rfl, _, rfl, ?_⟩
    by_cases h2 : (10 : Int) ^ (18 : Int).toNat ≤ (if c < 0 then -c else c)
    · rw [decide_eq_true h2]
      refine ⟨.int c, rfl, c, rfl, ?_⟩
      have hd : 0 ≤ (if c < 0 then -c else c) := by split <;> omega
      refine ⟨_, rfl, .int c, rfl, c, 2305843009213693951, rfl, rfl, (show (0 : Int) < 2305843009213693951 by decide), .int (i : Int), rfl, 7919, (i : Int), rfl, rfl, .inl (by decide), _, _, rfl, rfl, _, 83, rfl, rfl, _, 5915587, rfl, rfl, .inr (by decide), _, 2305843009213693951, rfl, rfl, (show (0 : Int) < 2305843009213693951 by decide), small_line (show 3 ≤ 100000 by decide), fun p hp => rest c _ hd p hp⟩
    · rw [decide_eq_false h2]
      refine ⟨_, rfl, .int c, rfl, c, 2305843009213693951, rfl, rfl, (show (0 : Int) < 2305843009213693951 by decide), .int (i : Int), rfl, 7919, (i : Int), rfl, rfl, .inl (by decide), _, _, rfl, rfl, _, 83, rfl, rfl, _, 5915587, rfl, rfl, .inr (by decide), _, 2305843009213693951, rfl, rfl, (show (0 : Int) < 2305843009213693951 by decide), small_line (show 3 ≤ 100000 by decide), fun p hp => rest c 0 (by decide) p hp⟩
  · rw [decide_eq_false h1]
    refine ⟨.int 0, rfl, 0, rfl, 10, 18, rfl, rfl, ⟨by decide, by decide, by decide⟩, _, _, rfl, rfl, _, rfl, ?_⟩
    have h2 : ¬ (10 : Int) ^ (18 : Int).toNat ≤ (if (0 : Int) < 0 then -0 else 0) := by decide
    rw [decide_eq_false h2]
    refine ⟨_, rfl, .int 0, rfl, 0, 2305843009213693951, rfl, rfl, (show (0 : Int) < 2305843009213693951 by decide), .int (i : Int), rfl, 7919, (i : Int), rfl, rfl, .inl (by decide), _, _, rfl, rfl, _, 83, rfl, rfl, _, 5915587, rfl, rfl, .inr (by decide), _, 2305843009213693951, rfl, rfl, (show (0 : Int) < 2305843009213693951 by decide), small_line (show 3 ≤ 100000 by decide), fun p hp => rest 0 0 (by decide) p hp⟩
end
end K2
end
section
set_option autoImplicit true
set_option Elab.async false
set_option linter.all false
set_option maxRecDepth 100000
set_option maxHeartbeats 0
namespace K2
open PySem PySem.Spec PyProof.Rows L2 Pd
def kwAt (f : Str × Option Str) (x : Str) (K : PySem.W.Frag) : Addr := match K.lookup (He.fAd K f) with
  | some ⟨_, _, .func fd, _⟩ => (match fd.kwdefaults with
    | .ref D => (match PySem.W.nsIn K D x with
      | some (some (.ref a)) => a
      | _ => 0)
    | _ => 0)
  | _ => 0
def tup0B (K : PySem.W.Frag) (a : Addr) : Bool := match K.lookup a with
  | some o => o.cls == .type "tuple" && (match o.data with
    | .seq its _ => its.size == 0
    | _ => false)
  | none => false
theorem tup0B_ok {K : PySem.W.Frag} {a : Addr} (h : tup0B K a = true) : ∀ P : Hp, Rp K P (.tup []) (.ref a) := fun P => by
  unfold tup0B at h
  split at h
  · rename_i o e
    obtain ⟨h1, h2⟩ := Bool.and_eq_true_iff.mp h
    split at h2
    · rename_i its n ed
      have hz : its.size = 0 := by simpa using h2
      have hi : its = #[] := Array.eq_empty_of_size_eq_zero hz
      subst hi
      exact ⟨a, [], rfl, .inr ⟨o, #[], n, e, eq_of_beq h1, ed, by decide, .nil⟩, rfl⟩
    · cases h2
  · cases h
def d_BadName___init__ : He.DefD := ⟨("BadName", some "__init__"), "__init__", "BadName.__init__", defArgs s_BadName, defBody s_BadName, defScope s_BadName, [], []⟩
def d_BadAction___init__ : He.DefD := ⟨("BadAction", some "__init__"), "__init__", "BadAction.__init__", defArgs s_BadAction, defBody s_BadAction, defScope s_BadAction, [], []⟩
def d_BadColumn___init__ : He.DefD := ⟨("BadColumn", some "__init__"), "__init__", "BadColumn.__init__", defArgs s_BadColumn, defBody s_BadColumn, defScope s_BadColumn, [], []⟩
def d_BadTable___init__ : He.DefD := ⟨("BadTable", some "__init__"), "__init__", "BadTable.__init__", defArgs s_BadTable, defBody s_BadTable, defScope s_BadTable, [], []⟩
def d__law_take : He.DefD := ⟨("_law_take", none), "_law_take", "_law_take", defArgs sT, defBody sT, defScope sT, [], []⟩
def d__law_bag : He.DefD := ⟨("_law_bag", none), "_law_bag", "_law_bag", defArgs sB, defBody sB, defScope sB, [], []⟩
def d_is_integer : He.DefD := ⟨("is_integer", none), "is_integer", "is_integer", defArgs s_is_integer, defBody s_is_integer, defScope s_is_integer, [], []⟩
def d_is_name : He.DefD := ⟨("is_name", none), "is_name", "is_name", defArgs s_is_name, defBody s_is_name, defScope s_is_name, [], []⟩
def d_is_link : He.DefD := ⟨("is_link", none), "is_link", "is_link", defArgs s_is_link, defBody s_is_link, defScope s_is_link, [], []⟩
def d_may_have : He.DefD := ⟨("may_have", none), "may_have", "may_have", defArgs s_may_have, defBody s_may_have, defScope s_may_have, [], []⟩
def d_check_links : He.DefD := ⟨("check_links", none), "check_links", "check_links", defArgs s_check_links, defBody s_check_links, defScope s_check_links, [], []⟩
def d_targets_of : He.DefD := ⟨("targets_of", none), "targets_of", "targets_of", defArgs s_targets_of, defBody s_targets_of, defScope s_targets_of, [], []⟩
def d_have_one_target_twice : He.DefD := ⟨("have_one_target_twice", none), "have_one_target_twice", "have_one_target_twice", defArgs s_have_one_target_twice, defBody s_have_one_target_twice, defScope s_have_one_target_twice, [], []⟩
def d_Column___eq__ : He.DefD := ⟨("Column", some "__eq__"), "__eq__", "Column.__eq__", defArgs s_Column___eq__, defBody s_Column___eq__, defScope s_Column___eq__, [], []⟩
def d_Column___init__ : He.DefD := ⟨("Column", some "__init__"), "__init__", "Column.__init__", defArgs s_Column___init__, defBody s_Column___init__, defScope s_Column___init__, [], [("nullable", .bl false), ("default", .non)]⟩
def d__law_of : He.DefD := ⟨("_law_of", none), "_law_of", "_law_of", defArgs s__law_of, defBody s__law_of, defScope s__law_of, [], []⟩
def d__law_links : He.DefD := ⟨("_law_links", none), "_law_links", "_law_links", defArgs s__law_links, defBody s__law_links, defScope s__law_links, [], []⟩
def d__law_is_word : He.DefD := ⟨("_law_is_word", none), "_law_is_word", "_law_is_word", defArgs s__law_is_word, defBody s__law_is_word, defScope s__law_is_word, [], []⟩
def d_with_links : He.DefD := ⟨("with_links", none), "with_links", "with_links", defArgs s_with_links, defBody s_with_links, defScope s_with_links, [], []⟩
def d_Table___init__ : He.DefD := ⟨("Table", some "__init__"), "__init__", "Table.__init__", defArgs s_Table___init__, defBody s_Table___init__, defScope s_Table___init__, [], [("ids", .adr (kwAt ("Table", some "__init__") "ids"))]⟩
def d_Table___eq__ : He.DefD := ⟨("Table", some "__eq__"), "__eq__", "Table.__eq__", defArgs s_Table___eq__, defBody s_Table___eq__, defScope s_Table___eq__, [], []⟩
def d__law_table_made : He.DefD := ⟨("_law_table_made", none), "_law_table_made", "_law_table_made", defArgs s__law_table_made, defBody s__law_table_made, defScope s__law_table_made, [], []⟩
def d__law_outcome : He.DefD := ⟨("_law_outcome", none), "_law_outcome", "_law_outcome", defArgs s__law_outcome, defBody s__law_outcome, defScope s__law_outcome, [], []⟩
def d__law_may_link : He.DefD := ⟨("_law_may_link", none), "_law_may_link", "_law_may_link", defArgs s__law_may_link, defBody s__law_may_link, defScope s__law_may_link, [], []⟩
def d__law_due : He.DefD := ⟨("_law_due", none), "_law_due", "_law_due", defArgs s__law_due, defBody s__law_due, defScope s__law_due, [], []⟩
def d__law_drawn : He.DefD := ⟨("_law_drawn", none), "_law_drawn", "_law_drawn", defArgs s__law_drawn, defBody s__law_drawn, defScope s__law_drawn, [], []⟩
def d__law_bent : He.DefD := ⟨("_law_bent", none), "_law_bent", "_law_bent", defArgs s__law_bent, defBody s__law_bent, defScope s__law_bent, [], []⟩
def d__law_right : He.DefD := ⟨("_law_right", none), "_law_right", "_law_right", defArgs s__law_right, defBody s__law_right, defScope s__law_right, [], []⟩
def d_law : He.DefD := ⟨("law", none), "law", "law", defArgs s_law, defBody s_law, defScope s_law, [], []⟩
def fn : List He.DefD := [d_BadName___init__, d_BadAction___init__, d_BadColumn___init__, d_BadTable___init__, d__law_take, d__law_bag, d_is_integer, d_is_name, d_is_link, d_may_have, d_check_links, d_targets_of, d_have_one_target_twice, d_Column___eq__, d_Column___init__, d__law_of, d__law_links, d__law_is_word, d_with_links, d_Table___init__, d_Table___eq__, d__law_table_made, d__law_outcome, d__law_may_link, d__law_due, d__law_drawn, d__law_bent, d__law_right, d_law]
def fa : List He.Fa := [.glo "BadName", .glo "BadAction", .glo "BadColumn", .glo "BadTable", .glo "Column", .glo "Table", .glo "Schema", .glo "_law_take", .glo "_law_bag", .glo "is_integer", .glo "is_name", .glo "is_link", .glo "may_have", .glo "check_links", .glo "targets_of", .glo "have_one_target_twice", .glo "_law_of", .glo "_law_links", .glo "_law_is_word", .glo "with_links", .glo "_law_table_made", .glo "_law_outcome", .glo "_law_may_link", .glo "_law_due", .glo "_law_drawn", .glo "_law_bent", .glo "_law_right", .glo "law", .free "bool", .free "int", .free "isinstance", .free "len", .free "str", .free "all", .free "tuple", .free "set", .free "list", .free "range", .free "max", .free "min", .free "abs", .free "repr", .free "ValueError", .int "MOST_LETTERS" 8, .int "MOST_LINKS" 4, .int "MOST_COLUMNS" 3, .str "LETTERS" "abcdefghijklmnopqrstuvwxyz"]
def ex (K : PySem.W.Frag) : List Bool :=
  let n := He.ga K "BadName"; let a := He.ga K "BadAction"; let c := He.ga K "BadColumn"; let C := He.ga K "Column"; let S := He.ga K "Schema"; let b := He.ga K "BadTable"; let T := He.ga K "Table"
  [exB K n "ValueError.__new__" bmV, exB K a "ValueError.__new__" bmV, exB K c "ValueError.__new__" bmV, exB K b "ValueError.__new__" bmV, xB K n, xB K a, xB K c, xB K b,
   inB K n (He.ma K n "__init__"), inB K a (He.ma K a "__init__"), inB K c (He.ma K c "__init__"), inB K b (He.ma K b "__init__"), noB K n ["value"], noB K a ["value"], noB K c ["name"], noB K b ["name"],
   decide (PySem.W.kitAny K (.ref n) [.ref a, .ref b, .ref c] = some false), decide (PySem.W.kitAny K (.ref a) [.ref n, .ref b, .ref c] = some false), decide (PySem.W.kitAny K (.ref b) [.ref n, .ref a, .ref c] = some false),
   decide (PySem.W.exmOne K (.ref n) (.ref n) = some true), decide (PySem.W.exmOne K (.ref a) (.ref n) = some false), decide (PySem.W.exmOne K (.ref a) (.ref a) = some true),
   decide (PySem.W.exmOne K (.ref b) (.ref n) = some false), decide (PySem.W.exmOne K (.ref b) (.ref a) = some false), decide (PySem.W.exmOne K (.ref b) (.ref b) = some true),
   cdB K C colNs, mkB K C (He.ma K C "__init__"), eqB K C (He.ma K C "__eq__"), ctB K S "ACTIONS" ["cascade", "set_null", "set_default", "restrict", "no_action"],
   cdB K T tabNs, mkB K T (He.ma K T "__init__"), eqB K T (He.ma K T "__eq__"), tup0B K (kwAt ("Table", some "__init__") "ids" K),
   PySem.W.notFirst K T (.type "str"), PySem.W.notFirst K T (.type "tuple"), PySem.W.notFirst K T (.ref T)]
def exA (K : PySem.W.Frag) : Bool := (ex K).all id
abbrev R : PySem.W.OpenRow := PySem.W.OpenLaw.row PySem.Challenge.rw_keyactions_k02_tables_made
abbrev hk : PySem.W.Hook := hookY 5 fa fn exA
def ob (s : PySem.W.SharedT) : AlY := obY 5 fa fn exA (HandSHeadRun.getT s)
theorem ob_eq (s : PySem.W.SharedT) : ob s = hk.obs s.abs := obY_eq (HandSHeadRun.getT_eq s)
def names : List PySem.Str := (["_wall", "BadName", "BadAction", "BadColumn", "BadTable", "NoTable", "NoReference", "Full", "LETTERS", "MOST_LETTERS", "is_integer", "is_name", "MOST_LINKS", "MOST_COLUMNS", "MOST_TABLES", "MOST_REFERENCES", "Column", "Table", "Schema", "table_lines", "column_words", "link_words", "check_links", "is_link", "may_have", "is_strings", "targets_of", "have_one_target_twice", "linked", "with_links"] : List PySem.Str) ++ (["with_actions", "actions_of", "check_names", "check_targets", "_law_bag", "_law_take", "_law_of", "_law_links", "_law_table_made", "_law_outcome", "_law_is_word", "_law_may_link", "_law_due", "_law_drawn", "_law_bent", "_law_right"] : List PySem.Str)
theorem run (w : World) : HandSHeadRun.RunEq R (PySem.W.view R.prog [50]) hk ob 20000 names w := by
  intro os
  kernel_rfl
theorem exAt {K : PySem.W.Frag} (h : exA K = true) (i : Nat) {b : Bool} (e : (ex K)[i]? = some b := by rfl) : b = true := List.all_eq_true.mp h b (List.mem_of_getElem? e)
theorem facts {P : Program} {w : World} {K : PySem.W.Frag} {h : Heap} {mg : Str → Option Value} {f : Addr} (X : K.In h) (G : h.Ns mainGlobals mg) (hfa : mg ("law" : Str) = some (.ref f)) (c : He.SaysD fa fn K) (x : exA K = true) :
    ∃ fd : FuncData, (∀ (s : Shared) (v : Value), BindsTo s fd ⟨[v], []⟩ [("_law_script", v)]) ∧ ∀ base : Heap, K.In base → base.Ns mainGlobals mg → Fd P w K mg base 12 f fd ["_law_script"] (spC K 1 ct_law) := by
  obtain ⟨fd0, D_BadName___init__⟩ := c.def_ 0 (d := d_BadName___init__) rfl
  obtain ⟨fd1, D_BadAction___init__⟩ := c.def_ 1 (d := d_BadAction___init__) rfl
  obtain ⟨fd2, D_BadColumn___init__⟩ := c.def_ 2 (d := d_BadColumn___init__) rfl
  obtain ⟨fd3, D_BadTable___init__⟩ := c.def_ 3 (d := d_BadTable___init__) rfl
  obtain ⟨fd4, D__law_take⟩ := c.def_ 4 (d := d__law_take) rfl
  obtain ⟨fd5, D__law_bag⟩ := c.def_ 5 (d := d__law_bag) rfl
  obtain ⟨fd6, D_is_integer⟩ := c.def_ 6 (d := d_is_integer) rfl
  obtain ⟨fd7, D_is_name⟩ := c.def_ 7 (d := d_is_name) rfl
  obtain ⟨fd8, D_is_link⟩ := c.def_ 8 (d := d_is_link) rfl
  obtain ⟨fd9, D_may_have⟩ := c.def_ 9 (d := d_may_have) rfl
  obtain ⟨fd10, D_check_links⟩ := c.def_ 10 (d := d_check_links) rfl
  obtain ⟨fd11, D_targets_of⟩ := c.def_ 11 (d := d_targets_of) rfl
  obtain ⟨fd12, D_have_one_target_twice⟩ := c.def_ 12 (d := d_have_one_target_twice) rfl
  obtain ⟨fd13, D_Column___eq__⟩ := c.def_ 13 (d := d_Column___eq__) rfl
  obtain ⟨fd14, D_Column___init__⟩ := c.def_ 14 (d := d_Column___init__) rfl
  obtain ⟨fd15, D__law_of⟩ := c.def_ 15 (d := d__law_of) rfl
  obtain ⟨fd16, D__law_links⟩ := c.def_ 16 (d := d__law_links) rfl
  obtain ⟨fd17, D__law_is_word⟩ := c.def_ 17 (d := d__law_is_word) rfl
  obtain ⟨fd18, D_with_links⟩ := c.def_ 18 (d := d_with_links) rfl
  obtain ⟨fd19, D_Table___init__⟩ := c.def_ 19 (d := d_Table___init__) rfl
  obtain ⟨fd20, D_Table___eq__⟩ := c.def_ 20 (d := d_Table___eq__) rfl
  obtain ⟨fd21, D__law_table_made⟩ := c.def_ 21 (d := d__law_table_made) rfl
  obtain ⟨fd22, D__law_outcome⟩ := c.def_ 22 (d := d__law_outcome) rfl
  obtain ⟨fd23, D__law_may_link⟩ := c.def_ 23 (d := d__law_may_link) rfl
  obtain ⟨fd24, D__law_due⟩ := c.def_ 24 (d := d__law_due) rfl
  obtain ⟨fd25, D__law_drawn⟩ := c.def_ 25 (d := d__law_drawn) rfl
  obtain ⟨fd26, D__law_bent⟩ := c.def_ 26 (d := d__law_bent) rfl
  obtain ⟨fd27, D__law_right⟩ := c.def_ 27 (d := d__law_right) rfl
  obtain ⟨fd28, D_law⟩ := c.def_ 28 (d := d_law) rfl
  have m_BadName := He.glo_ok X G (c.fact 0 (f := .glo "BadName") rfl)
  have m_BadAction := He.glo_ok X G (c.fact 1 (f := .glo "BadAction") rfl)
  have m_BadColumn := He.glo_ok X G (c.fact 2 (f := .glo "BadColumn") rfl)
  have m_BadTable := He.glo_ok X G (c.fact 3 (f := .glo "BadTable") rfl)
  have m_Column := He.glo_ok X G (c.fact 4 (f := .glo "Column") rfl)
  have m_Table := He.glo_ok X G (c.fact 5 (f := .glo "Table") rfl)
  have m_Schema := He.glo_ok X G (c.fact 6 (f := .glo "Schema") rfl)
  have m__law_take := He.glo_ok X G (c.fact 7 (f := .glo "_law_take") rfl)
  have m__law_bag := He.glo_ok X G (c.fact 8 (f := .glo "_law_bag") rfl)
  have m_is_integer := He.glo_ok X G (c.fact 9 (f := .glo "is_integer") rfl)
  have m_is_name := He.glo_ok X G (c.fact 10 (f := .glo "is_name") rfl)
  have m_is_link := He.glo_ok X G (c.fact 11 (f := .glo "is_link") rfl)
  have m_may_have := He.glo_ok X G (c.fact 12 (f := .glo "may_have") rfl)
  have m_check_links := He.glo_ok X G (c.fact 13 (f := .glo "check_links") rfl)
  have m_targets_of := He.glo_ok X G (c.fact 14 (f := .glo "targets_of") rfl)
  have m_have_one_target_twice := He.glo_ok X G (c.fact 15 (f := .glo "have_one_target_twice") rfl)
  have m__law_of := He.glo_ok X G (c.fact 16 (f := .glo "_law_of") rfl)
  have m__law_links := He.glo_ok X G (c.fact 17 (f := .glo "_law_links") rfl)
  have m__law_is_word := He.glo_ok X G (c.fact 18 (f := .glo "_law_is_word") rfl)
  have m_with_links := He.glo_ok X G (c.fact 19 (f := .glo "with_links") rfl)
  have m__law_table_made := He.glo_ok X G (c.fact 20 (f := .glo "_law_table_made") rfl)
  have m__law_outcome := He.glo_ok X G (c.fact 21 (f := .glo "_law_outcome") rfl)
  have m__law_may_link := He.glo_ok X G (c.fact 22 (f := .glo "_law_may_link") rfl)
  have m__law_due := He.glo_ok X G (c.fact 23 (f := .glo "_law_due") rfl)
  have m__law_drawn := He.glo_ok X G (c.fact 24 (f := .glo "_law_drawn") rfl)
  have m__law_bent := He.glo_ok X G (c.fact 25 (f := .glo "_law_bent") rfl)
  have m__law_right := He.glo_ok X G (c.fact 26 (f := .glo "_law_right") rfl)
  have m_law := He.glo_ok X G (c.fact 27 (f := .glo "law") rfl)
  have m_bool := He.free_ok X G (c.fact 28 (f := .free "bool") rfl)
  have m_int := He.free_ok X G (c.fact 29 (f := .free "int") rfl)
  have m_isinstance := He.free_ok X G (c.fact 30 (f := .free "isinstance") rfl)
  have m_len := He.free_ok X G (c.fact 31 (f := .free "len") rfl)
  have m_str := He.free_ok X G (c.fact 32 (f := .free "str") rfl)
  have m_all := He.free_ok X G (c.fact 33 (f := .free "all") rfl)
  have m_tuple := He.free_ok X G (c.fact 34 (f := .free "tuple") rfl)
  have m_set := He.free_ok X G (c.fact 35 (f := .free "set") rfl)
  have m_list := He.free_ok X G (c.fact 36 (f := .free "list") rfl)
  have m_range := He.free_ok X G (c.fact 37 (f := .free "range") rfl)
  have m_max := He.free_ok X G (c.fact 38 (f := .free "max") rfl)
  have m_min := He.free_ok X G (c.fact 39 (f := .free "min") rfl)
  have m_abs := He.free_ok X G (c.fact 40 (f := .free "abs") rfl)
  have m_repr := He.free_ok X G (c.fact 41 (f := .free "repr") rfl)
  have m_ValueError := He.free_ok X G (c.fact 42 (f := .free "ValueError") rfl)
  have m_MOST_LETTERS := He.int_ok X G (c.fact 43 (f := .int "MOST_LETTERS" 8) rfl)
  have m_MOST_LINKS := He.int_ok X G (c.fact 44 (f := .int "MOST_LINKS" 4) rfl)
  have m_MOST_COLUMNS := He.int_ok X G (c.fact 45 (f := .int "MOST_COLUMNS" 3) rfl)
  have m_LETTERS := He.str_ok X G (c.fact 46 (f := .str "LETTERS" "abcdefghijklmnopqrstuvwxyz") rfl)
  have e := hfa.symm.trans m_law
  cases e
  have T_Column := cdB_ok (exAt x 25)
  have T_Table := cdB_ok (exAt x 29)
  have X1 := xB_ok (exAt x 4)
  have X2 := xB_ok (exAt x 5)
  have X3 := xB_ok (exAt x 6)
  have X4 := xB_ok (exAt x 7)
  have T_Schema_ACTIONS := ctB_ok (exAt x 28)
  have M := mkB_ok (exAt x 26)
  have EC := eqB_ok (exAt x 27)
  have MT := mkB_ok (exAt x 30)
  have ET := eqB_ok (exAt x 31)
  have hd0 := tup0B_ok (exAt x 32)
  have bnd := FunD.bindsA (ps := ["_law_script"]) D_law fun _ _ _ _ _ _ us hl => match us, hl with | [_], _ => rfl
  refine ⟨_, fun s v => bnd s [v] rfl, fun base _ _ => ?_⟩
  have E_BadName : ExG P w K mg base 1 "BadName" _ ["value"] := exg_BadName D_BadName___init__ m_BadName (exAt x 0) (exAt x 8) (exAt x 12) m_ValueError
  have E_BadAction : ExG P w K mg base 1 "BadAction" _ ["value"] := exg_BadAction D_BadAction___init__ m_BadAction (exAt x 1) (exAt x 9) (exAt x 13) m_ValueError
  have E_BadColumn : ExG P w K mg base 1 "BadColumn" _ ["name"] := exg_BadColumn D_BadColumn___init__ m_BadColumn (exAt x 2) (exAt x 10) (exAt x 14) m_ValueError
  have E_BadTable : ExG P w K mg base 1 "BadTable" _ ["name"] := exg_BadTable D_BadTable___init__ m_BadTable (exAt x 3) (exAt x 11) (exAt x 15) m_ValueError
  have F__law_take : FnG P w K mg base 1 "_law_take" 2 ctTake := fnG_of D__law_take scT m__law_take (okT (k := 0) D__law_take m_int) (FunD.bindsN D__law_take fun _ _ _ _ _ _ us hl => match us, hl with | [_, _], _ => rfl) ctTake_mono
  have F__law_bag : BagG P w K mg base 1 "_law_bag" := ⟨⟨_, _, ["_law_script", "_law_at"], rfl, okB (k := 0) D__law_bag m_len m_abs, m__law_bag, D__law_bag.kp, FunD.bindsN D__law_bag fun _ _ _ _ _ _ us hl => match us, hl with | [_, _], _ => rfl⟩⟩
  have F_is_integer := fg_is_integer (P := P) (w := w) (base := base) D_is_integer m_is_integer m_bool m_int m_isinstance
  have F_is_name := fg_is_name (P := P) (w := w) (base := base) D_is_name m_is_name m_LETTERS m_MOST_LETTERS m_all m_isinstance m_len m_str
  have F_is_link := fg_is_link (P := P) (w := w) (base := base) D_is_link m_is_link F_is_name m_isinstance m_len m_tuple
  have F_may_have := fg_may_have (P := P) (w := w) (base := base) D_may_have m_may_have m_Schema T_Schema_ACTIONS
  have F_check_links := fg_check_links (P := P) (w := w) (base := base) D_check_links m_check_links F_is_link F_may_have E_BadAction
  have F_targets_of := fg_targets_of (P := P) (w := w) (base := base) D_targets_of m_targets_of 
  have F_have_one_target_twice := fg_have_one_target_twice (P := P) (w := w) (base := base) D_have_one_target_twice m_have_one_target_twice F_targets_of m_len m_set
  have G_eq : EqG P w K mg base 1 _ (ct_Column___eq__ _) := ⟨Ct.ex_mono, _, _, _, EC, ok_Column___eq__ D_Column___eq__ m_Column m_isinstance T_Column, FunD.bindsN D_Column___eq__ fun _ _ _ _ _ _ us hl => match us, hl with | [_, _], _ => rfl⟩
  have B_Column := bd_Column (P := P) (w := w) (K := K) (mg := mg) (base := base) (f := He.ma K (He.ga K "Column") "__init__") (fd := fd14) m_MOST_LINKS m_bool F_check_links F_have_one_target_twice F_is_integer F_is_name E_BadColumn E_BadName m_isinstance m_len T_Column
  have C_Column_nullable_default := cn_a D_Column___init__ B_Column M m_Column
  have C_Column_default_nullable := cn_b D_Column___init__ B_Column M m_Column
  have C_Column := cn_c D_Column___init__ B_Column M m_Column
  have C_Column_nullable := cn_d D_Column___init__ B_Column M m_Column
  have F__law_of := fg__law_of (P := P) (w := w) (base := base) D__law_of m__law_of F__law_take m_len
  have F__law_links := fg__law_links (P := P) (w := w) (base := base) D__law_links m__law_links F__law_of F__law_take m_len m_list m_range
  have F__law_is_word := fg__law_is_word (P := P) (w := w) (base := base) D__law_is_word m__law_is_word m_all m_isinstance m_len m_str
  have F_with_links := fg_with_links (P := P) (w := w) (base := base) D_with_links m_with_links C_Column_nullable_default T_Column
  have B_Table := bd_Table (kwsT := []) (P := P) (w := w) (K := K) (mg := mg) (base := base) (f := He.ma K (He.ga K "Table") "__init__") (fd := fd19) m_MOST_COLUMNS m_MOST_LINKS F_check_links F_have_one_target_twice F_is_name F_targets_of F_with_links E_BadName E_BadTable m_len m_set m_tuple T_Column T_Table trivial
  have C_Table_ids := cn_Ta D_Table___init__ B_Table MT m_Table
  have C_Table := cn_Tb D_Table___init__ hd0 B_Table MT m_Table
  have G_tab : EqG P w K mg base 6 _ (ct_Table___eq__ _ _) := ⟨Ct.ex_mono, _, _, _, ET, ok_Table___eq__ D_Table___eq__ m_Table m_isinstance T_Table T_Column G_eq, FunD.bindsN D_Table___eq__ fun _ _ _ _ _ _ us hl => match us, hl with | [_, _], _ => rfl⟩
  have F__law_table_made := fg__law_table_made (P := P) (w := w) (base := base) D__law_table_made m__law_table_made m_len C_Table_ids
  have F__law_outcome := fg__law_outcome (P := P) (w := w) (base := base) D__law_outcome m__law_outcome F__law_table_made m_BadName X1.1 (noB_ok (exAt x 12) (by simp)) m_BadAction X2.1 (noB_ok (exAt x 13) (by simp)) m_BadTable X4.1 (noB_ok (exAt x 15) (by simp)) m_BadColumn X3.1 (noB_ok (exAt x 14) (by simp)) m_isinstance m_repr T_Table X1.2 X2.2 X4.2 (of_decide_eq_true (exAt x 16)) (of_decide_eq_true (exAt x 17)) (of_decide_eq_true (exAt x 18)) (of_decide_eq_true (exAt x 19)) (of_decide_eq_true (exAt x 20)) (of_decide_eq_true (exAt x 21)) (of_decide_eq_true (exAt x 22)) (of_decide_eq_true (exAt x 23)) (of_decide_eq_true (exAt x 24))
  have F__law_may_link := fg__law_may_link (P := P) (w := w) (base := base) D__law_may_link m__law_may_link F__law_is_word m_isinstance m_len m_str m_tuple
  have F__law_due := fg__law_due (P := P) (w := w) (base := base) D__law_due m__law_due F__law_is_word F__law_may_link m_len m_repr m_set T_Column
  have F__law_drawn := fg__law_drawn (P := P) (w := w) (base := base) D__law_drawn m__law_drawn F__law_links F__law_of F__law_take m_tuple C_Column_nullable
  have F__law_bent := fg__law_bent (P := P) (w := w) (base := base) D__law_bent m__law_bent F__law_of F__law_take m_len C_Column
  have F__law_right := fg__law_right (P := P) (w := w) (base := base) D__law_right m__law_right m_Table F__law_bent F__law_drawn F__law_due F__law_outcome m_isinstance m_list m_repr m_tuple G_eq G_tab T_Table T_Column (exAt x 33) (exAt x 34) (exAt x 35)
  exact ok_law D_law F__law_bag F__law_right m_len m_max m_min m_range C_Table T_Table
theorem law_in {K : PySem.W.Frag} {H : Hp} {a : Addr} {ns : List Int} (hl : ns.length ≤ 63) (hS : SqL K H a (ns.map V.int)) : spC K 1 ct_law [.ref a] H (fun v _ => v = .bl true) fun _ _ _ => False :=
  ⟨H, fun _ => False, 0, [some (.scr ns)], Sub.refl H, by decide, ⟨.ref a, [], rfl, ⟨a, rfl, hS⟩, rfl⟩, rfl, trivial, fun _ z => z.elim, Ct.exI ns rfl hl (fun d hd v H' P' _ r => by
    have hd : d = .bl true := hd
    subst hd
    exact r) fun _ z => z.elim⟩
end K2
open PySem PySem.W PySem.Calls PyProof.Rows
theorem PySem.Challenge.cw_keyactions_k02_tables_made_holds : PySem.Challenge.rw_keyactions_k02_tables_made.Holds := by
  w_on; o_law
  refine HandSHeadRun.head_any (r := OpenLaw.row PySem.Challenge.rw_keyactions_k02_tables_made) (q := view (OpenLaw.row PySem.Challenge.rw_keyactions_k02_tables_made).prog [50]) (H := K2.hk) (ob := K2.ob) (M := 20000) (loose := K2.names) (d := HandSHeadRun.topDef (OpenLaw.row PySem.Challenge.rw_keyactions_k02_tables_made).prog 50) (kwd := []) K2.ob_eq (by kernel_rfl) (fun s => by kernel_rfl) K2.run (by kernel_rfl) (by kernel_rfl) (by kernel_rfl) (by rfl) (by first | assumption | decide +kernel) (by decide +kernel) ⟨rfl, rfl, rfl, rfl, rfl, by decide +kernel⟩ ?hw ?hc
  case hw => w_witness2
  case hc =>
    refine Pd.walkG (l := PySem.Challenge.rw_keyactions_k02_tables_made) (n := 63) (k := 12) (x := "_law_script") rfl (by decide) (by kernel_rfl) ⟨rfl, by decide, by decide⟩ ?F
    intro w mg f h Y G hmg0
    obtain ⟨K, KX, c, x⟩ := Y
    have hmg : mg ("law" : PySem.Str) = some (.ref f) := by
      have e : (HandSHeadRun.topDef (OpenLaw.row PySem.Challenge.rw_keyactions_k02_tables_made).prog 50).name = ("law" : PySem.Str) := by kernel_rfl
      rw [← e]
      exact hmg0
    obtain ⟨fd, hb, hF⟩ := K2.facts (P := PySem.Challenge.rw_keyactions_k02_tables_made.prog) (w := w) KX G hmg c x
    exact ⟨K, fd, Pd.spC K 1 K2.ct_law, KX, hb, fun H a ns hl hS => K2.law_in hl hS, hF⟩
end
