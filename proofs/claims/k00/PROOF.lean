import PyProof.Rows.All
import Wide.All
import OpenK.AllK
import Wide.FinOn
import HandS.Base
import HandS.Call
import HandS.List
import HandS.Comp
import HandS.Ends
import HandS.Iter
import HandS.Text
import HandS.Flow
import HandS.TupAny
import HandS.IsInst
import HandS.Deep
import HandS.Zip
import HandS.Style
import HandS.Words
import HandS.WordsList
import KE.SortData
import PyProof.Rows.SetFrom
import HandS.Set
import HandS.Strs
import HandS.Rev
import HandS.ExcValue
import PyProof.ListStr
import PyProof.TupleOfStr
import HandS.Wide
import HandS.EndBits
import PySem.Challenge.RW_reportalike_k00_steps_plans_counts_or_no
set_option Elab.async false
set_option linter.all false
set_option maxRecDepth 100000
set_option maxHeartbeats 2000000
namespace Pu
open PySem PySem.Spec PyProof.Rows L2

abbrev D := PyData

/-! ### data as they lie in a frozen heap -/
mutual
inductive Rp (F : Hp) : V → D → Prop
  | non : Rp F .non .none
  | bl (b : Bool) : Rp F (.bl b) (.bool b)
  | int (i : Int) : Rp F (.int i) (.int i)
  | str (x : Str) : Rp F (.str x) (.str x)
  | lst {a : Addr} {vs : List V} {ds : List D} : Rd F a (.lst vs) → RpAll F vs ds → Rp F (.ref a) (.list ds)
  | tup {a : Addr} {vs : List V} {ds : List D} : F a = some (.tup vs) → RpAll F vs ds → Rp F (.ref a) (.tuple ds)
inductive RpAll (F : Hp) : List V → List D → Prop
  | nil : RpAll F [] []
  | cons {v : V} {vs : List V} {d : D} {ds : List D} : Rp F v d → RpAll F vs ds → RpAll F (v :: vs) (d :: ds)
end

def Ex (H H' : Hp) : Prop := ∀ a o, H a = some o → H' a = some o
theorem Ex.refl (H : Hp) : Ex H H := fun _ _ h => h
theorem Ex.trans {H H1 H2 : Hp} (a : Ex H H1) (b : Ex H1 H2) : Ex H H2 := fun x o h => b x o (a x o h)
theorem Ex.new {H : Hp} {p : Addr} {o : HO} (h : H p = none) : Ex H (upd H p o) := fun a u e => by
  rw [upd_ne (ne_of_none e h)]
  exact e
theorem Ex.mut {H H' : Hp} {p : Addr} {o : HO} (e : Ex H H') (h : H p = none) : Ex H (upd H' p o) := fun a u ha => by
  rw [upd_ne (ne_of_none ha h)]
  exact e a u ha
theorem Ex.both {H H' : Hp} {p : Addr} {o : HO} (e : Ex H H') : Ex (upd H p o) (upd H' p o) := fun a u ha => by
  by_cases h : a = p
  · subst h
    rw [upd_same] at ha ⊢
    exact ha
  · rw [upd_ne h] at ha ⊢
    exact e a u ha
theorem Ex.rd {H H' : Hp} {a : Addr} {u : HO} (e : Ex H H') (h : Rd H a u) : Rd H' a u := by
  rcases h with h | ⟨o, h⟩
  · exact Or.inl (e a _ h)
  · exact Or.inr ⟨o, e a _ h⟩
theorem Ex.back {H H' : Hp} {p : Addr} (e : Ex H H') (h : H' p = none) : H p = none := by
  cases h1 : H p with
  | none => rfl
  | some o =>
    rw [e p o h1] at h
    cases h
mutual
theorem Rp.mono {F F' : Hp} (e : Ex F F') : ∀ (d : D) (v : V), Rp F v d → Rp F' v d
  | .none, _, h => by cases h; exact .non
  | .bool _, _, h => by cases h; exact .bl _
  | .int _, _, h => by cases h; exact .int _
  | .str _, _, h => by cases h; exact .str _
  | .list ds, _, h => by
    cases h with
    | lst h1 h2 => exact .lst (e.rd h1) (RpAll.mono e ds _ h2)
  | .tuple ds, _, h => by
    cases h with
    | tup h1 h2 => exact .tup (e _ _ h1) (RpAll.mono e ds _ h2)
  | .dict _, _, h => by cases h
theorem RpAll.mono {F F' : Hp} (e : Ex F F') : ∀ (ds : List D) (vs : List V), RpAll F vs ds → RpAll F' vs ds
  | [], _, h => by cases h; exact .nil
  | d :: ds, _, h => by
    cases h with
    | cons h1 h2 => exact .cons (Rp.mono e d _ h1) (RpAll.mono e ds _ h2)
end
theorem Rp.up {F F' : Hp} {v : V} {d : D} (h : Rp F v d) (e : Ex F F') : Rp F' v d := Rp.mono e d v h
theorem RpAll.up {F F' : Hp} {v : List V} {d : List D} (h : RpAll F v d) (e : Ex F F') : RpAll F' v d := RpAll.mono e d v h
theorem RpAll.length {F : Hp} : ∀ {vs : List V} {ds : List D}, RpAll F vs ds → vs.length = ds.length
  | [], [], _ => rfl
  | _ :: _, _ :: _, .cons _ t => by rw [List.length_cons, List.length_cons, RpAll.length t]
theorem RpAll.get {F : Hp} : ∀ {vs : List V} {ds : List D} {i : Nat} {d : D}, RpAll F vs ds → ds[i]? = some d → ∃ v, vs[i]? = some v ∧ Rp F v d
  | _ :: _, _ :: _, 0, d, .cons h _, e => by
    cases (Option.some.inj (show some _ = some d from e))
    exact ⟨_, rfl, h⟩
  | _ :: vs, _ :: ds, i + 1, d, .cons _ t, e => RpAll.get (i := i) t e
  | [], [], _, _, .nil, e => nomatch e
theorem RpAll.get' {F : Hp} : ∀ {vs : List V} {ds : List D} {i : Nat} {v : V}, RpAll F vs ds → vs[i]? = some v → ∃ d, ds[i]? = some d ∧ Rp F v d
  | _ :: _, _ :: _, 0, d, .cons h _, e => by
    cases (Option.some.inj (show some _ = some d from e))
    exact ⟨_, rfl, h⟩
  | _ :: vs, _ :: ds, i + 1, d, .cons _ t, e => RpAll.get' (i := i) t e
  | [], [], _, _, .nil, e => nomatch e
theorem RpAll.append {F : Hp} : ∀ {vs ws : List V} {ds es : List D}, RpAll F vs ds → RpAll F ws es → RpAll F (vs ++ ws) (ds ++ es)
  | [], _, [], _, .nil, h => h
  | _ :: _, _, _ :: _, _, .cons h t, h' => .cons h (RpAll.append t h')
theorem RpAll.take {F : Hp} : ∀ {vs : List V} {ds : List D} (n : Nat), RpAll F vs ds → RpAll F (vs.take n) (ds.take n)
  | _, _, 0, _ => .nil
  | [], [], _ + 1, .nil => .nil
  | _ :: _, _ :: _, n + 1, .cons h t => .cons h (RpAll.take n t)
theorem RpAll.drop {F : Hp} : ∀ {vs : List V} {ds : List D} (n : Nat), RpAll F vs ds → RpAll F (vs.drop n) (ds.drop n)
  | _, _, 0, h => h
  | [], [], _ + 1, .nil => .nil
  | _ :: _, _ :: _, n + 1, .cons _ t => RpAll.drop n t
theorem RpAll.set {F : Hp} {v : V} {d : D} (h : Rp F v d) : ∀ {vs : List V} {ds : List D} (n : Nat), RpAll F vs ds → RpAll F (vs.set n v) (ds.set n d)
  | [], [], _, .nil => .nil
  | _ :: _, _ :: _, 0, .cons _ t => .cons h t
  | _ :: _, _ :: _, n + 1, .cons h' t => .cons h' (RpAll.set h n t)
theorem RpAll.reverse {F : Hp} : ∀ {vs : List V} {ds : List D}, RpAll F vs ds → RpAll F vs.reverse ds.reverse
  | [], [], .nil => .nil
  | _ :: _, _ :: _, .cons h t => by
    rw [List.reverse_cons, List.reverse_cons]
    exact RpAll.append (RpAll.reverse t) (.cons h .nil)
mutual
theorem Rp.dp {K : PySem.W.Frag} {F H : Hp} (e : Ex F H) : ∀ (d : D) (v : V), Rp F v d → Dp K H v d
  | .none, _, h => by cases h; exact .non
  | .bool _, _, h => by cases h; exact .bl _
  | .int _, _, h => by cases h; exact .int _
  | .str _, _, h => by cases h; exact .str _
  | .list ds, _, h => by
    cases h with
    | lst h1 h2 => exact .lst (.inl (e.rd h1)) (RpAll.dp e ds _ h2)
  | .tuple ds, _, h => by
    cases h with
    | tup h1 h2 => exact .tup (.inl (.inl (e _ _ h1))) (RpAll.dp e ds _ h2)
  | .dict _, _, h => by cases h
theorem RpAll.dp {K : PySem.W.Frag} {F H : Hp} (e : Ex F H) : ∀ (ds : List D) (vs : List V), RpAll F vs ds → DpAll K H vs ds
  | [], _, h => by cases h; exact .nil
  | d :: ds, _, h => by
    cases h with
    | cons h1 h2 => exact .cons (Rp.dp e d _ h1) (RpAll.dp e ds _ h2)
end

/-! ### slots, results -/
/-- what a slot bears: data that stay as they are; a list of the frame's own; a list that was lent by the caller -/
inductive C where
  | d (x : D)
  | own (xs : List D)
  | arg (xs : List D)
abbrev Rho := List (Option C)
/-- an expression's result: data; a new list that nobody holds; the list of a slot -/
inductive R where
  | d (x : D)
  | own (xs : List D)
  | sl (i : Nat)
/-- v is a list whose address F does not know -/
def OwnAt (B F H : Hp) (p : Addr) (xs : List D) : Prop := ∃ vs, F p = none ∧ B p = none ∧ H p = some (.lst vs) ∧ RpAll F vs xs
def CRep (B F H : Hp) (v : V) : C → Prop
  | .d x => Rp F v x
  | .own xs => ∃ p, v = .ref p ∧ OwnAt B F H p xs
  | .arg xs => ∃ p, v = .ref p ∧ OwnAt B F H p xs
def C.isOwn : C → Bool
  | .d _ => false
  | _ => true
structure Sta (par : L2.St) (B F0 F H : Hp) (σ : L2.St) (ρ : Rho) : Prop where
  len : σ.length = ρ.length
  f0 : Ex F0 F
  fh : Ex F H
  bh : Ex B H
  lim : ∀ a o, F a = some o → (∃ o', F0 a = some o') ∨ B a = none
  rep : ∀ (i : Nat) (c : C), ρ[i]? = some (some c) → ∃ v, σ[i]? = some (some v) ∧ CRep B F H v c
  sep : ∀ (i j : Nat) (c e : C) (v : V), ρ[i]? = some (some c) → ρ[j]? = some (some e) → c.isOwn = true → e.isOwn = true → σ[i]? = some (some v) → σ[j]? = some (some v) → i = j
  par : ∀ (i : Nat) (xs : List D), ρ[i]? = some (some (.arg xs)) → σ[i]? = par[i]?
/-- no slot of the frame's lists bears v -/
def Apart (σ : L2.St) (ρ : Rho) (v : V) : Prop := ∀ (i : Nat) (c : C), ρ[i]? = some (some c) → c.isOwn = true → σ[i]? ≠ some (some v)
def RRep (B F H : Hp) (σ : L2.St) (ρ : Rho) (v : V) : R → Prop
  | .d x => Rp F v x
  | .own xs => ∃ p, v = .ref p ∧ OwnAt B F H p xs ∧ Apart σ ρ v
  | .sl i => σ[i]? = some (some v)
/-- what a result reads as -/
def rd (ρ : Rho) : R → Option D
  | .d x => some x
  | .own xs => some (.list xs)
  | .sl i => match ρ[i]? with
    | some (some (.d x)) => some x
    | some (some (.own xs)) => some (.list xs)
    | some (some (.arg xs)) => some (.list xs)
    | _ => none
/-- v reads as d: frozen, or a list of frozen items -/
def Rdv (F H : Hp) (v : V) (d : D) : Prop := Rp F v d ∨ ∃ p vs xs, v = .ref p ∧ d = .list xs ∧ H p = some (.lst vs) ∧ RpAll F vs xs
theorem Rdv.dp {K : PySem.W.Frag} {F H : Hp} {v : V} {d : D} (e : Ex F H) (h : Rdv F H v d) : Dp K H v d := by
  rcases h with h | ⟨p, vs, xs, rfl, rfl, h1, h2⟩
  · exact Rp.dp e d v h
  · exact .lst (.inl (.inl h1)) (RpAll.dp e _ _ h2)
/-- a list | a tuple that is read -/
theorem Rdv.list {F H : Hp} {v : V} {ds : List D} (e : Ex F H) (h : Rdv F H v (.list ds)) : ∃ p vs, v = .ref p ∧ Rd H p (.lst vs) ∧ RpAll F vs ds := by
  rcases h with h | ⟨p, vs, xs, rfl, e2, h1, h2⟩
  · cases h with
    | lst h1 h2 => exact ⟨_, _, rfl, e.rd h1, h2⟩
  · cases e2
    exact ⟨p, vs, rfl, .inl h1, h2⟩
theorem Rdv.tuple {F H : Hp} {v : V} {ds : List D} (h : Rdv F H v (.tuple ds)) : ∃ p vs, v = .ref p ∧ F p = some (.tup vs) ∧ RpAll F vs ds := by
  rcases h with h | ⟨p, vs, xs, rfl, e2, h1, h2⟩
  · cases h with
    | tup h1 h2 => exact ⟨_, _, rfl, h1, h2⟩
  · cases e2
theorem Rdv.flat {F H : Hp} {v : V} {d : D} (h : Rdv F H v d) : (∀ xs, d ≠ .list xs) → Rp F v d := fun n => by
  rcases h with h | ⟨p, vs, xs, rfl, e2, h1, h2⟩
  · exact h
  · exact absurd e2 (n xs)
section
variable {par : L2.St} {B F0 F H : Hp} {σ : L2.St} {ρ ρ' : Rho}
theorem rrep_rd {v : V} {r : R} {d : D} (S : Sta par B F0 F H σ ρ) (h : RRep B F H σ ρ v r) (e : rd ρ r = some d) : Rdv F H v d := by
  cases r with
  | d x => cases e; exact .inl h
  | own xs =>
    cases e
    obtain ⟨p, rfl, ⟨vs, _, _, h1, h2⟩, _⟩ := h
    exact .inr ⟨p, vs, xs, rfl, rfl, h1, h2⟩
  | sl i =>
    unfold rd at e
    have h : σ[i]? = some (some v) := h
    cases hi : ρ[i]? with
    | none => simp only [hi] at e; cases e
    | some o =>
      cases o with
      | none => simp only [hi] at e; cases e
      | some c =>
        obtain ⟨w, hw, cr⟩ := S.rep i c hi
        rw [h] at hw
        cases hw
        cases c with
        | d x => simp only [hi] at e; cases e; exact .inl cr
        | own xs =>
          simp only [hi] at e
          cases e
          obtain ⟨p, rfl, vs, _, _, h1, h2⟩ := cr
          exact .inr ⟨p, vs, xs, rfl, rfl, h1, h2⟩
        | arg xs =>
          simp only [hi] at e
          cases e
          obtain ⟨p, rfl, vs, _, _, h1, h2⟩ := cr
          exact .inr ⟨p, vs, xs, rfl, rfl, h1, h2⟩
end
end Pu

set_option Elab.async false
set_option linter.all false
set_option maxRecDepth 100000
set_option maxHeartbeats 2000000
namespace Pu
open PySem PySem.Spec PyProof.Rows L2

abbrev M (α : Type) := Rho → Option (α × Rho)
def EvR (t : TE) (m : M R) : Prop := ∀ (par : L2.St) (B F0 F H : Hp) (σ : L2.St) (ρ : Rho) (r : R) (ρ' : Rho), m ρ = some (r, ρ') → Sta par B F0 F H σ ρ →
  ∀ Q : VK, (∀ v F' H', Ex F F' → Sta par B F0 F' H' σ ρ' → RRep B F' H' σ ρ' v r → Q v H') → t σ H Q
def EvT (t : TT) (m : M Bool) : Prop := ∀ (par : L2.St) (B F0 F H : Hp) (σ : L2.St) (ρ : Rho) (b : Bool) (ρ' : Rho), m ρ = some (b, ρ') → Sta par B F0 F H σ ρ →
  ∀ Q : Bool → Hp → Prop, (∀ F' H', Ex F F' → Sta par B F0 F' H' σ ρ' → Q b H') → t σ H Q

/-! ### guarding what is pending -/
section
variable {par : L2.St} {B F0 F H : Hp} {σ : L2.St} {ρ : Rho} {v : V} {r : R}
theorem CRep.up {B F F' H H' : Hp} {v : V} {c : C} (hc : CRep B F H v c) (e : Ex F F') (hF : ∀ p, v = .ref p → c.isOwn = true → F' p = none) (hH : ∀ p vs, v = .ref p → c.isOwn = true → H p = some (.lst vs) → H' p = some (.lst vs)) : CRep B F' H' v c := by
  cases c with
  | d x => exact Rp.up hc e
  | own xs =>
    obtain ⟨p, rfl, vs, h1, h2, h3, h4⟩ := hc
    exact ⟨p, rfl, vs, hF p rfl rfl, h2, hH p vs rfl rfl h3, h4.up e⟩
  | arg xs =>
    obtain ⟨p, rfl, vs, h1, h2, h3, h4⟩ := hc
    exact ⟨p, rfl, vs, hF p rfl rfl, h2, hH p vs rfl rfl h3, h4.up e⟩
theorem CRep.base {B B' F H : Hp} {v : V} {c : C} (hc : CRep B F H v c) (hB : ∀ p, v = .ref p → c.isOwn = true → B' p = none) : CRep B' F H v c := by
  cases c with
  | d x => exact hc
  | own xs =>
    obtain ⟨p, rfl, vs, h1, h2, h3, h4⟩ := hc
    exact ⟨p, rfl, vs, h1, hB p rfl rfl, h3, h4⟩
  | arg xs =>
    obtain ⟨p, rfl, vs, h1, h2, h3, h4⟩ := hc
    exact ⟨p, rfl, vs, h1, hB p rfl rfl, h3, h4⟩
theorem CRep.ownB {B F H : Hp} {v : V} {c : C} (hc : CRep B F H v c) (ho : c.isOwn = true) : ∃ p vs, v = .ref p ∧ F p = none ∧ B p = none ∧ H p = some (.lst vs) := by
  cases c with
  | d x => cases ho
  | own xs =>
    obtain ⟨p, rfl, vs, h1, h2, h3, h4⟩ := hc
    exact ⟨p, vs, rfl, h1, h2, h3⟩
  | arg xs =>
    obtain ⟨p, rfl, vs, h1, h2, h3, h4⟩ := hc
    exact ⟨p, vs, rfl, h1, h2, h3⟩
theorem Sta.guard (S : Sta par B F0 F H σ ρ) {p : Addr} {o : HO} (hF : F p = none) (hB : B p = none) (hH : H p = some o) (ap : Apart σ ρ (.ref p)) : Sta par (upd B p o) F0 F H σ ρ := by
  refine ⟨S.len, S.f0, S.fh, fun a u ha => ?_, fun a u ha => ?_, fun i c hi => ?_, S.sep, S.par⟩
  · by_cases h : a = p
    · subst h
      rw [upd_same] at ha
      cases ha
      exact hH
    · rw [upd_ne h] at ha
      exact S.bh a u ha
  · have h : a ≠ p := ne_of_none ha hF
    rw [upd_ne h]
    exact S.lim a u ha
  · obtain ⟨w, hw, cr⟩ := S.rep i c hi
    refine ⟨w, hw, cr.base fun q e ho => ?_⟩
    subst e
    have h : q ≠ p := fun e => ap i c hi ho (by rw [hw, e])
    rw [upd_ne h]
    obtain ⟨q', vs, e, _, h2, _⟩ := cr.ownB ho
    cases e
    exact h2
theorem Sta.unguard {p : Addr} {o : HO} (S : Sta par (upd B p o) F0 F H σ ρ) (hB : B p = none) : Sta par B F0 F H σ ρ := by
  have up : ∀ a, (upd B p o) a = none → B a = none := fun a h => by
    by_cases e : a = p
    · subst e
      exact hB
    · rw [upd_ne e] at h
      exact h
  refine ⟨S.len, S.f0, S.fh, fun a u ha => S.bh a u ?_, fun a u ha => ?_, fun i c hi => ?_, S.sep, S.par⟩
  · rw [upd_ne (ne_of_none ha hB)]
    exact ha
  · rcases S.lim a u ha with h | h
    · exact .inl h
    · exact .inr (up a h)
  · obtain ⟨w, hw, cr⟩ := S.rep i c hi
    refine ⟨w, hw, cr.base fun q e ho => ?_⟩
    obtain ⟨q', vs, e', _, h2, _⟩ := cr.ownB ho
    rw [e] at e'
    cases e'
    exact up _ h2
/-- what is guarded stands, and nobody has come to it -/
theorem Sta.guarded {p : Addr} {o : HO} (S : Sta par (upd B p o) F0 F H σ ρ) (hF0 : F0 p = none) : F p = none ∧ H p = some o ∧ Apart σ ρ (.ref p) := by
  refine ⟨?_, S.bh p o upd_same, fun i c hi ho hs => ?_⟩
  · cases e : F p with
    | none => rfl
    | some u =>
      rcases S.lim p u e with ⟨u', h⟩ | h
      · rw [hF0] at h
        cases h
      · rw [upd_same] at h
        cases h
  · obtain ⟨w, hw, cr⟩ := S.rep i c hi
    rw [hs] at hw
    cases hw
    obtain ⟨q', vs, e', _, h2, _⟩ := cr.ownB ho
    cases e'
    rw [upd_same] at h2
    cases h2
/-- the guard's base for a pending result -/
def gd (B H : Hp) (v : V) : R → Hp
  | .own _ => match v with
    | .ref p => match H p with
      | some o => upd B p o
      | none => B
    | _ => B
  | _ => B
theorem guardR (S : Sta par B F0 F H σ ρ) (h : RRep B F H σ ρ v r) : Sta par (gd B H v r) F0 F H σ ρ := by
  cases r with
  | d x => exact S
  | sl i => exact S
  | own xs =>
    obtain ⟨p, rfl, ⟨vs, h1, h2, h3, h4⟩, ap⟩ := h
    show Sta par (match H p with | some o => upd B p o | none => B) F0 F H σ ρ
    rw [h3]
    exact S.guard h1 h2 h3 ap
theorem gd_none {a : Addr} (e : (gd B H v r) a = none) : B a = none ∨ ∃ xs, r = .own xs ∧ v = .ref a := by
  cases r with
  | d x => exact .inl e
  | sl i => exact .inl e
  | own xs =>
    cases v with
    | ref p =>
      simp only [gd] at e
      cases hp : H p with
      | none => rw [hp] at e; exact .inl e
      | some o =>
        rw [hp] at e
        by_cases h : a = p
        · subst h; exact .inr ⟨xs, rfl, rfl⟩
        · have e : (upd B p o) a = none := e
          rw [upd_ne h] at e
          exact .inl e
    | _ => exact .inl e
theorem gd_lift (S : Sta par B F0 F H σ ρ) (h : RRep B F H σ ρ v r) {F' H' : Hp} {ρ' : Rho} (e : Ex F F') (S' : Sta par (gd B H v r) F0 F' H' σ ρ') : Sta par B F0 F' H' σ ρ' ∧ RRep B F' H' σ ρ' v r := by
  cases r with
  | d x => exact ⟨S', Rp.up h e⟩
  | sl i => exact ⟨S', h⟩
  | own xs =>
    obtain ⟨p, rfl, ⟨vs, h1, h2, h3, h4⟩, ap⟩ := h
    have S' : Sta par (match H p with | some o => upd B p o | none => B) F0 F' H' σ ρ' := S'
    rw [h3] at S'
    obtain ⟨g1, g2, g3⟩ := S'.guarded (S.f0.back h1)
    exact ⟨S'.unguard h2, p, rfl, ⟨vs, g1, h2, g2, h4.up e⟩, g3⟩
/-- a result that came under the guard -/
theorem gd_res (S : Sta par B F0 F H σ ρ) (h : RRep B F H σ ρ v r) {F' H' : Hp} {ρ' : Rho} {w : V} {s : R} (hw : RRep (gd B H v r) F' H' σ ρ' w s) : RRep B F' H' σ ρ' w s := by
  cases s with
  | d x => exact hw
  | sl i => exact hw
  | own ys =>
    obtain ⟨q, rfl, ⟨ws, h1, h2, h3, h4⟩, ap⟩ := hw
    refine ⟨q, rfl, ⟨ws, h1, ?_, h3, h4⟩, ap⟩
    rcases gd_none h2 with h | ⟨xs, rfl, rfl⟩
    · exact h
    · obtain ⟨p, e, ⟨vs, _, h2', h3', _⟩, _⟩ := h
      cases e
      have h2 : (match H q with | some o => upd B q o | none => B) q = none := h2
      rw [h3'] at h2
      have h2 : (upd B q (.lst vs)) q = none := h2
      rw [upd_same] at h2
      cases h2
/-- two pending new lists stand apart -/
theorem gd_apart (S : Sta par B F0 F H σ ρ) (h : RRep B F H σ ρ v r) {F' H' : Hp} {ρ' : Rho} {w : V} {xs ys : List D} (hr : r = .own xs) (hw : RRep (gd B H v r) F' H' σ ρ' w (.own ys)) : v ≠ w := by
  subst hr
  rintro rfl
  obtain ⟨p, rfl, ⟨vs, h1, h2, h3, h4⟩, ap⟩ := h
  obtain ⟨q, e, ⟨ws, k1, k2, k3, k4⟩, _⟩ := hw
  cases e
  have k2 : (match H p with | some o => upd B p o | none => B) p = none := k2
  rw [h3] at k2
  have k2 : (upd B p (.lst vs)) p = none := k2
  rw [upd_same] at k2
  cases k2
end

/-! ### names, constants -/
def sVar (i : Nat) : M R := fun ρ => match ρ[i]? with
  | some (some (.d x)) => some (.d x, ρ)
  | some (some (.own _)) => some (.sl i, ρ)
  | some (some (.arg _)) => some (.sl i, ρ)
  | _ => none
theorem ev_var {i : Nat} : EvR (tVar i) (sVar i) := by
  intro par B F0 F H σ ρ r ρ' e S Q q
  unfold sVar at e
  cases hi : ρ[i]? with
  | none => simp only [hi] at e; cases e
  | some o =>
    cases o with
    | none => simp only [hi] at e; cases e
    | some c =>
      obtain ⟨v, hv, cr⟩ := S.rep i c hi
      cases c with
      | d x => simp only [hi] at e; cases e; exact ⟨v, hv, q v F H (Ex.refl F) S cr⟩
      | own xs => simp only [hi] at e; cases e; exact ⟨v, hv, q v F H (Ex.refl F) S hv⟩
      | arg xs => simp only [hi] at e; cases e; exact ⟨v, hv, q v F H (Ex.refl F) S hv⟩
def sC (x : D) : M R := fun ρ => some (.d x, ρ)
theorem ev_c {v : V} {x : D} (h : ∀ F, Rp F v x) : EvR (tC v) (sC x) := by
  intro par B F0 F H σ ρ r ρ' e S Q q
  cases e
  exact q v F H (Ex.refl F) S (h F)
theorem ev_int {i : Int} : EvR (tC (.int i)) (sC (.int i)) := ev_c fun _ => .int i
theorem ev_str {i : Str} : EvR (tC (.str i)) (sC (.str i)) := ev_c fun _ => .str i
theorem ev_bl {i : Bool} : EvR (tC (.bl i)) (sC (.bool i)) := ev_c fun _ => .bl i
theorem ev_non : EvR (tC .non) (sC .none) := ev_c fun _ => .non

/-! ### two-place operations -/
def sOp (g : D → D → Option R) (a b : M R) : M R := fun ρ => match a ρ with
  | none => none
  | some (r1, ρ1) => match b ρ1 with
    | none => none
    | some (r2, ρ2) => match rd ρ2 r1, rd ρ2 r2 with
      | some x, some y => (g x y).map fun z => (z, ρ2)
      | _, _ => none
/-- the result says nothing of slots -/
def R.noSl : R → Bool
  | .sl _ => false
  | _ => true
def OpS (r : R2) (g : D → D → Option R) : Prop := ∀ (par : L2.St) (B F0 F H : Hp) (σ : L2.St) (ρ : Rho) (v w : V) (x y : D) (z : R), g x y = some z → Sta par B F0 F H σ ρ → Rdv F H v x → Rdv F H w y →
  ∀ Q : VK, (∀ u F' H', Ex F F' → Sta par B F0 F' H' σ ρ → RRep B F' H' σ ρ u z → Q u H') → r v w H Q
theorem ev_op {ta tb : TE} {m n : M R} {r : R2} {g : D → D → Option R} (ha : EvR ta m) (hb : EvR tb n) (ho : OpS r g) : EvR (tOp r ta tb) (sOp g m n) := by
  intro par B F0 F H σ ρ z ρ' e S Q q
  unfold sOp at e
  cases e1 : m ρ with
  | none => rw [e1] at e; cases e
  | some p1 =>
    obtain ⟨r1, ρ1⟩ := p1
    rw [e1] at e
    cases e2 : n ρ1 with
    | none => simp only [e2] at e; cases e
    | some p2 =>
      obtain ⟨r2, ρ2⟩ := p2
      simp only [e2] at e
      cases e3 : rd ρ2 r1 with
      | none => simp only [e3] at e; cases e
      | some x =>
        cases e4 : rd ρ2 r2 with
        | none => simp only [e3, e4] at e; cases e
        | some y =>
          simp only [e3, e4] at e
          cases e5 : g x y with
          | none => rw [e5] at e; cases e
          | some z' =>
            rw [e5] at e
            cases e
            refine ha par B F0 F H σ ρ r1 ρ1 e1 S _ fun v F1 H1 x1 S1 h1 => ?_
            refine hb par (gd B H1 v r1) F0 F1 H1 σ ρ1 r2 ρ' e2 (guardR S1 h1) _ fun w F2 H2 x2 S2 h2 => ?_
            obtain ⟨S3, h3⟩ := gd_lift S1 h1 x2 S2
            have h4 := gd_res S1 h1 h2
            exact ho par B F0 F2 H2 σ ρ' v w x y z e5 S3 (rrep_rd S3 h3 e3) (rrep_rd S3 h4 e4) Q fun u F3 H3 x3 S4 h5 => q u F3 H3 ((x1.trans x2).trans x3) S4 h5
theorem OpS.or {r r' : R2} {g g' : D → D → Option R} (h : OpS r g) (h' : OpS r' g') : OpS (fun x y H Q => r x y H Q ∨ r' x y H Q) (fun x y => match g x y with | some z => some z | none => g' x y) := by
  intro par B F0 F H σ ρ v w x y z e S hv hw Q q
  cases e1 : g x y with
  | some z' =>
    simp only [e1] at e
    cases e
    exact .inl (h par B F0 F H σ ρ v w x y z e1 S hv hw Q q)
  | none =>
    simp only [e1] at e
    exact .inr (h' par B F0 F H σ ρ v w x y z e S hv hw Q q)
/-- one-place -/
def sUn (g : D → Option R) (a : M R) : M R := fun ρ => match a ρ with
  | none => none
  | some (r1, ρ1) => match rd ρ1 r1 with
    | some x => (g x).map fun z => (z, ρ1)
    | none => none
def UnS (r : V → Hp → VK → Prop) (g : D → Option R) : Prop := ∀ (par : L2.St) (B F0 F H : Hp) (σ : L2.St) (ρ : Rho) (v : V) (x : D) (z : R), g x = some z → Sta par B F0 F H σ ρ → Rdv F H v x →
  ∀ Q : VK, (∀ u F' H', Ex F F' → Sta par B F0 F' H' σ ρ → RRep B F' H' σ ρ u z → Q u H') → r v H Q
theorem ev_k {te : TE} {m : M R} {k : V → Hp → VK → Prop} {g : D → Option R} (ha : EvR te m) (hk : UnS k g) : EvR (fun σ H Q => te σ H fun x H1 => k x H1 Q) (sUn g m) := by
  intro par B F0 F H σ ρ z ρ' e S Q q
  unfold sUn at e
  cases e1 : m ρ with
  | none => rw [e1] at e; cases e
  | some p1 =>
    obtain ⟨r1, ρ1⟩ := p1
    simp only [e1] at e
    cases e3 : rd ρ1 r1 with
    | none => simp only [e3] at e; cases e
    | some x =>
      simp only [e3] at e
      cases e5 : g x with
      | none => rw [e5] at e; cases e
      | some z' =>
        rw [e5] at e
        cases e
        refine ha par B F0 F H σ ρ r1 ρ' e1 S _ fun v F1 H1 x1 S1 h1 => ?_
        exact hk par B F0 F1 H1 σ ρ' v x z e5 S1 (rrep_rd S1 h1 e3) Q fun u F3 H3 x3 S4 h5 => q u F3 H3 (x1.trans x3) S4 h5
theorem ev_un {r : V → Hp → VK → Prop} {ta : TE} {m : M R} {g : D → Option R} (ha : EvR ta m) (ho : UnS r g) : EvR (tUn r ta) (sUn g m) := ev_k (te := ta) (k := r) ha ho

/-! ### operations by their readings -/
/-- a flat result -/
theorem q_flat {par : L2.St} {B F0 F H : Hp} {σ : L2.St} {ρ : Rho} {u : V} {x : D} {Q : VK} (S : Sta par B F0 F H σ ρ) (h : Rp F u x) (q : ∀ u F' H', Ex F F' → Sta par B F0 F' H' σ ρ → RRep B F' H' σ ρ u (.d x) → Q u H') : Q u H := q u F H (Ex.refl F) S h
theorem rdv_int {F H : Hp} {v : V} {i : Int} (h : Rdv F H v (.int i)) : v = .int i := by
  have := h.flat fun xs e => nomatch e
  cases this
  rfl
theorem rdv_str {F H : Hp} {v : V} {i : Str} (h : Rdv F H v (.str i)) : v = .str i := by
  have := h.flat fun xs e => nomatch e
  cases this
  rfl
theorem rdv_bl {F H : Hp} {v : V} {i : Bool} (h : Rdv F H v (.bool i)) : v = .bl i := by
  have := h.flat fun xs e => nomatch e
  cases this
  rfl
theorem rdv_non {F H : Hp} {v : V} (h : Rdv F H v .none) : v = .non := by
  have := h.flat fun xs e => nomatch e
  cases this
  rfl
def gI (c : Int → Int → Bool) (f : Int → Int → D) : D → D → Option R
  | .int i, .int j => if c i j = true then some (.d (f i j)) else none
  | _, _ => none
theorem gI_inv {c : Int → Int → Bool} {f : Int → Int → D} {x y : D} {z : R} (e : gI c f x y = some z) : ∃ i j, x = .int i ∧ y = .int j ∧ c i j = true ∧ z = .d (f i j) := by
  unfold gI at e
  split at e
  · split at e
    · cases e
      exact ⟨_, _, rfl, rfl, by assumption, rfl⟩
    · cases e
  · cases e
theorem os_I {Cp : Int → Int → Prop} {gv : Int → Int → V} {c : Int → Int → Bool} {f : Int → Int → D} (hc : ∀ i j, c i j = true → Cp i j) (hf : ∀ F i j, Rp F (gv i j) (f i j)) : OpS (rI Cp gv) (gI c f) := by
  intro par B F0 F H σ ρ v w x y z e S hv hw Q q
  obtain ⟨i, j, rfl, rfl, h, rfl⟩ := gI_inv e
  exact ⟨i, j, rdv_int hv, rdv_int hw, hc i j h, q_flat S (hf F i j) q⟩
theorem os_I0 {gv : Int → Int → V} {f : Int → Int → D} (hf : ∀ F i j, Rp F (gv i j) (f i j)) : OpS (rI0 gv) (gI (fun _ _ => true) f) := by
  intro par B F0 F H σ ρ v w x y z e S hv hw Q q
  obtain ⟨i, j, rfl, rfl, h, rfl⟩ := gI_inv e
  exact ⟨i, j, rdv_int hv, rdv_int hw, q_flat S (hf F i j) q⟩
abbrev gAdd := gI (fun _ _ => true) fun i j => .int (i + j)
abbrev gSubI := gI (fun _ _ => true) fun i j => .int (i - j)
theorem os_add : OpS (rI0 fun i j => .int (i + j)) gAdd := os_I0 fun _ _ _ => .int _
theorem os_sub : OpS (rI0 fun i j => .int (i - j)) gSubI := os_I0 fun _ _ _ => .int _
def cMul (i j : Int) : Bool := decide (-(2 ^ 64) < i ∧ i < 2 ^ 64) || decide (-(2 ^ 64) < j ∧ j < 2 ^ 64)
abbrev gMul := gI cMul fun i j => .int (i * j)
theorem os_mul : OpS (rI CMul fun i j => .int (i * j)) gMul := os_I (fun i j h => by
  unfold cMul at h
  rw [Bool.or_eq_true, decide_eq_true_eq, decide_eq_true_eq] at h
  exact h) fun _ _ _ => .int _
def cDiv (i j : Int) : Bool := decide (0 < j) && decide (j < 1073741824)
abbrev gFdiv := gI cDiv fun i j => .int (i / j)
theorem os_fdiv : OpS (rI CDiv fun i j => .int (i / j)) gFdiv := os_I (fun i j h => by
  unfold cDiv at h
  rw [Bool.and_eq_true, decide_eq_true_eq, decide_eq_true_eq] at h
  exact h) fun _ _ _ => .int _
abbrev gMod := gI (fun _ j => decide (0 < j)) fun i j => .int (i % j)
theorem os_mod : OpS (rI (fun _ j => 0 < j) fun i j => .int (i % j)) gMod := os_I (fun i j h => of_decide_eq_true h) fun _ _ _ => .int _
def cPow (i j : Int) : Bool := decide (0 ≤ j) && decide (j ≤ 1000000) && decide (i.natAbs < 2 ^ 64)
abbrev gPow := gI cPow fun i j => .int (i ^ j.toNat)
theorem os_pow : OpS (rI CPow fun i j => .int (i ^ j.toNat)) gPow := os_I (fun i j h => by
  unfold cPow at h
  rw [Bool.and_eq_true, Bool.and_eq_true, decide_eq_true_eq, decide_eq_true_eq, decide_eq_true_eq] at h
  exact ⟨h.1.1, h.1.2, h.2⟩) fun _ _ _ => .int _
abbrev gLt := gI (fun _ _ => true) fun i j => .bool (decide (i < j))
abbrev gLe := gI (fun _ _ => true) fun i j => .bool (decide (i ≤ j))
abbrev gGt := gI (fun _ _ => true) fun i j => .bool (decide (j < i))
abbrev gGe := gI (fun _ _ => true) fun i j => .bool (decide (j ≤ i))
theorem os_lt : OpS (rI0 fun i j => .bl (decide (i < j))) gLt := os_I0 fun _ _ _ => .bl _
theorem os_le : OpS (rI0 fun i j => .bl (decide (i ≤ j))) gLe := os_I0 fun _ _ _ => .bl _
theorem os_gt : OpS (rI0 fun i j => .bl (decide (j < i))) gGt := os_I0 fun _ _ _ => .bl _
theorem os_ge : OpS (rI0 fun i j => .bl (decide (j ≤ i))) gGe := os_I0 fun _ _ _ => .bl _
/-- by texts -/
def gS (f : Str → Str → D) : D → D → Option R
  | .str i, .str j => some (.d (f i j))
  | _, _ => none
theorem os_S {gv : Str → Str → V} {f : Str → Str → D} (hf : ∀ F i j, Rp F (gv i j) (f i j)) : OpS (fun x y H Q => ∃ i j, x = .str i ∧ y = .str j ∧ Q (gv i j) H) (gS f) := by
  intro par B F0 F H σ ρ v w x y z e S hv hw Q q
  unfold gS at e
  split at e
  · cases e
    exact ⟨_, _, rdv_str hv, rdv_str hw, q_flat S (hf F _ _) q⟩
  · cases e
abbrev gLtS := gS fun i j => .bool (decide (i.cps.toList < j.cps.toList))
abbrev gLeS := gS fun i j => .bool (!decide (j.cps.toList < i.cps.toList))
theorem os_ltS : OpS (fun x y H Q => ∃ i j, x = .str i ∧ y = .str j ∧ Q (.bl (decide (i.cps.toList < j.cps.toList))) H) gLtS := os_S (gv := fun i j => .bl (decide (i.cps.toList < j.cps.toList))) fun _ _ _ => .bl _
theorem os_leS : OpS (fun x y H Q => ∃ i j, x = .str i ∧ y = .str j ∧ Q (.bl (!decide (j.cps.toList < i.cps.toList))) H) gLeS := os_S (gv := fun i j => .bl (!decide (j.cps.toList < i.cps.toList))) fun _ _ _ => .bl _
def big : Nat := 1000000
theorem big_line : big ≤ sizeLine := by decide
def gCatS : D → D → Option R
  | .str i, .str j => if i.length + j.length ≤ big then some (.d (.str (i ++ j))) else none
  | _, _ => none
theorem os_catS : OpS (fun x y H Q => ∃ i j, x = .str i ∧ y = .str j ∧ i.length + j.length ≤ sizeLine ∧ Q (.str (i ++ j)) H) gCatS := by
  intro par B F0 F H σ ρ v w x y z e S hv hw Q q
  unfold gCatS at e
  split at e
  · split at e
    · cases e
      exact ⟨_, _, rdv_str hv, rdv_str hw, Nat.le_trans (by assumption) big_line, q_flat S (.str _) q⟩
    · cases e
  · cases e
/-- == of data -/
def gEq : D → D → Option R := fun x y => if SeqAt.shaped x = true ∧ SeqAt.shaped y = true then some (.d (.bool (PyData.eqv x y))) else none
def gNe : D → D → Option R := fun x y => if SeqAt.shaped x = true ∧ SeqAt.shaped y = true then some (.d (.bool (!PyData.eqv x y))) else none
theorem os_eq {K : PySem.W.Frag} : OpS (rEqD K) gEq := by
  intro par B F0 F H σ ρ v w x y z e S hv hw Q q
  unfold gEq at e
  split at e
  · rename_i h
    cases e
    exact ⟨x, y, hv.dp S.fh, hw.dp S.fh, h.1, h.2, q_flat S (.bl _) q⟩
  · cases e
theorem os_ne {K : PySem.W.Frag} : OpS (rNeD K) gNe := by
  intro par B F0 F H σ ρ v w x y z e S hv hw Q q
  unfold gNe at e
  split at e
  · rename_i h
    cases e
    exact ⟨x, y, hv.dp S.fh, hw.dp S.fh, h.1, h.2, q_flat S (.bl _) q⟩
  · cases e
end Pu

set_option Elab.async false
set_option linter.all false
set_option maxRecDepth 100000
set_option maxHeartbeats 2000000
namespace Pu
open PySem PySem.Spec PyProof.Rows L2

/-! ### truth -/
def dTru : D → Option Bool
  | .none => some false
  | .bool b => some b
  | .int i => some (i != 0)
  | .str x => if x.length ≤ big then some ((x.length : Int) != 0) else none
  | .list xs => some (!xs.isEmpty)
  | .tuple xs => some (!xs.isEmpty)
  | .dict _ => none
theorem isEmpty_rp {F : Hp} {vs : List V} {ds : List D} (h : RpAll F vs ds) : vs.isEmpty = ds.isEmpty := by
  cases h <;> rfl
theorem tru_of {K : PySem.W.Frag} {F H : Hp} {v : V} {x : D} {b : Bool} (e : Ex F H) (h : Rdv F H v x) (t : dTru x = some b) : TruV K v H b := by
  cases x with
  | none => cases rdv_non h; cases t; rfl
  | bool c => cases rdv_bl h; cases t; rfl
  | int i => cases rdv_int h; cases t; rfl
  | str z =>
    cases rdv_str h
    simp only [dTru] at t
    split at t
    · rename_i hz
      cases t
      exact ⟨Nat.le_trans hz big_line, rfl⟩
    · cases t
  | list xs =>
    obtain ⟨p, vs, rfl, h1, h2⟩ := h.list e
    cases t
    exact .inl ⟨vs, .inl h1, by rw [isEmpty_rp h2]⟩
  | tuple xs =>
    obtain ⟨p, vs, rfl, h1, h2⟩ := h.tuple
    cases t
    exact .inr (.inl ⟨vs, .inl (.inl (e _ _ h1)), by rw [isEmpty_rp h2]⟩)
  | dict _ => cases t
def sTru (m : M R) : M Bool := fun ρ => match m ρ with
  | none => none
  | some (r, ρ1) => match rd ρ1 r with
    | none => none
    | some x => (dTru x).map fun b => (b, ρ1)
theorem sTru_inv {m : M R} {ρ ρ' : Rho} {b : Bool} (e : sTru m ρ = some (b, ρ')) : ∃ r x, m ρ = some (r, ρ') ∧ rd ρ' r = some x ∧ dTru x = some b := by
  unfold sTru at e
  cases e1 : m ρ with
  | none => rw [e1] at e; cases e
  | some p =>
    obtain ⟨r, ρ1⟩ := p
    simp only [e1] at e
    cases e2 : rd ρ1 r with
    | none => simp only [e2] at e; cases e
    | some x =>
      simp only [e2] at e
      cases e3 : dTru x with
      | none => rw [e3] at e; cases e
      | some c => rw [e3] at e; cases e; exact ⟨r, x, rfl, e2, e3⟩
theorem et_truth {K : PySem.W.Frag} {te : TE} {m : M R} (h : EvR te m) : EvT (fun σ H Q => te σ H fun x H' => ∃ k, TruV K x H' k ∧ Q k H') (sTru m) := by
  intro par B F0 F H σ ρ b ρ' e S Q q
  obtain ⟨r, x, e1, e2, e3⟩ := sTru_inv e
  refine h par B F0 F H σ ρ r ρ' e1 S _ fun v F1 H1 x1 S1 h1 => ?_
  exact ⟨b, tru_of S1.fh (rrep_rd S1 h1 e2) e3, q F1 H1 x1 S1⟩
/-- a bool as a test -/
def sTst (m : M R) : M Bool := fun ρ => match m ρ with
  | some (.d (.bool b), ρ1) => some (b, ρ1)
  | _ => none
theorem et_test {te : TE} {m : M R} (h : EvR te m) : EvT (tTest te) (sTst m) := by
  intro par B F0 F H σ ρ b ρ' e S Q q
  unfold sTst at e
  split at e
  · rename_i c ρ1 e1
    cases e
    refine h par B F0 F H σ ρ _ ρ' e1 S _ fun v F1 H1 x1 S1 h1 => ?_
    cases h1
    exact ⟨b, rfl, q F1 H1 x1 S1⟩
  · cases e
def sAnd (m n : M Bool) : M Bool := fun ρ => match m ρ with
  | none => none
  | some (true, ρ1) => n ρ1
  | some (false, ρ1) => some (false, ρ1)
def sOr (m n : M Bool) : M Bool := fun ρ => match m ρ with
  | none => none
  | some (true, ρ1) => some (true, ρ1)
  | some (false, ρ1) => n ρ1
def sNot (m : M Bool) : M Bool := fun ρ => match m ρ with
  | none => none
  | some (b, ρ1) => some (!b, ρ1)
theorem et_and {t u : TT} {m n : M Bool} (h : EvT t m) (k : EvT u n) : EvT (tAnd t u) (sAnd m n) := by
  intro par B F0 F H σ ρ b ρ' e S Q q
  unfold sAnd at e
  split at e
  · cases e
  · rename_i ρ1 e1
    refine h par B F0 F H σ ρ _ ρ1 e1 S _ fun F1 H1 x1 S1 => ?_
    show u σ H1 Q
    exact k par B F0 F1 H1 σ ρ1 b ρ' e S1 Q fun F2 H2 x2 S2 => q F2 H2 (x1.trans x2) S2
  · rename_i ρ1 e1
    cases e
    refine h par B F0 F H σ ρ _ _ e1 S _ fun F1 H1 x1 S1 => ?_
    show Q false H1
    exact q F1 H1 x1 S1
theorem et_or {t u : TT} {m n : M Bool} (h : EvT t m) (k : EvT u n) : EvT (tOr t u) (sOr m n) := by
  intro par B F0 F H σ ρ b ρ' e S Q q
  unfold sOr at e
  split at e
  · cases e
  · rename_i ρ1 e1
    cases e
    refine h par B F0 F H σ ρ _ _ e1 S _ fun F1 H1 x1 S1 => ?_
    show Q true H1
    exact q F1 H1 x1 S1
  · rename_i ρ1 e1
    refine h par B F0 F H σ ρ _ ρ1 e1 S _ fun F1 H1 x1 S1 => ?_
    show u σ H1 Q
    exact k par B F0 F1 H1 σ ρ1 b ρ' e S1 Q fun F2 H2 x2 S2 => q F2 H2 (x1.trans x2) S2
theorem et_not {t : TT} {m : M Bool} (h : EvT t m) : EvT (tNot t) (sNot m) := by
  intro par B F0 F H σ ρ b ρ' e S Q q
  unfold sNot at e
  split at e
  · cases e
  · rename_i c ρ1 e1
    cases e
    exact h par B F0 F H σ ρ _ _ e1 S _ fun F1 H1 x1 S1 => q F1 H1 x1 S1
/-! ### and, or, not, if as values -/
def sAndV (a b : M R) : M R := fun ρ => match a ρ with
  | none => none
  | some (r, ρ1) => match rd ρ1 r with
    | none => none
    | some x => match dTru x with
      | none => none
      | some true => b ρ1
      | some false => some (r, ρ1)
def sOrV (a b : M R) : M R := fun ρ => match a ρ with
  | none => none
  | some (r, ρ1) => match rd ρ1 r with
    | none => none
    | some x => match dTru x with
      | none => none
      | some true => some (r, ρ1)
      | some false => b ρ1
def sNotV (a : M R) : M R := fun ρ => match a ρ with
  | none => none
  | some (r, ρ1) => match rd ρ1 r with
    | none => none
    | some x => (dTru x).map fun b => (.d (.bool (!b)), ρ1)
theorem ev_andT {K : PySem.W.Frag} {ta tb : TE} {a b : M R} (ha : EvR ta a) (hb : EvR tb b) : EvR (tAndT K ta tb) (sAndV a b) := by
  intro par B F0 F H σ ρ z ρ' e S Q q
  unfold sAndV at e
  split at e
  · cases e
  · rename_i r ρ1 e1
    split at e
    · cases e
    · rename_i x e2
      refine ha par B F0 F H σ ρ r ρ1 e1 S _ fun v F1 H1 x1 S1 h1 => ?_
      split at e
      · cases e
      · rename_i e3
        refine ⟨true, tru_of S1.fh (rrep_rd S1 h1 e2) e3, ?_⟩
        rw [if_pos rfl]
        exact hb par B F0 F1 H1 σ ρ1 z ρ' e S1 Q fun u F2 H2 x2 S2 h2 => q u F2 H2 (x1.trans x2) S2 h2
      · rename_i e3
        refine ⟨false, tru_of S1.fh (rrep_rd S1 h1 e2) e3, ?_⟩
        rw [if_neg Bool.false_ne_true]
        cases e
        exact q v F1 H1 x1 S1 h1
theorem ev_orT {K : PySem.W.Frag} {ta tb : TE} {a b : M R} (ha : EvR ta a) (hb : EvR tb b) : EvR (tOrT K ta tb) (sOrV a b) := by
  intro par B F0 F H σ ρ z ρ' e S Q q
  unfold sOrV at e
  split at e
  · cases e
  · rename_i r ρ1 e1
    split at e
    · cases e
    · rename_i x e2
      refine ha par B F0 F H σ ρ r ρ1 e1 S _ fun v F1 H1 x1 S1 h1 => ?_
      split at e
      · cases e
      · rename_i e3
        refine ⟨true, tru_of S1.fh (rrep_rd S1 h1 e2) e3, ?_⟩
        rw [if_pos rfl]
        cases e
        exact q v F1 H1 x1 S1 h1
      · rename_i e3
        refine ⟨false, tru_of S1.fh (rrep_rd S1 h1 e2) e3, ?_⟩
        rw [if_neg Bool.false_ne_true]
        exact hb par B F0 F1 H1 σ ρ1 z ρ' e S1 Q fun u F2 H2 x2 S2 h2 => q u F2 H2 (x1.trans x2) S2 h2
theorem ev_notT {K : PySem.W.Frag} {ta : TE} {a : M R} (ha : EvR ta a) : EvR (tNotT K ta) (sNotV a) := by
  intro par B F0 F H σ ρ z ρ' e S Q q
  unfold sNotV at e
  split at e
  · cases e
  · rename_i r ρ1 e1
    split at e
    · cases e
    · rename_i x e2
      cases e3 : dTru x with
      | none => rw [e3] at e; cases e
      | some b =>
        rw [e3] at e
        cases e
        refine ha par B F0 F H σ ρ r ρ' e1 S _ fun v F1 H1 x1 S1 h1 => ?_
        exact ⟨b, tru_of S1.fh (rrep_rd S1 h1 e2) e3, q _ F1 H1 x1 S1 (.bl _)⟩
def sIf (c : M Bool) (a b : M R) : M R := fun ρ => match c ρ with
  | none => none
  | some (true, ρ1) => a ρ1
  | some (false, ρ1) => b ρ1
theorem ev_if {t : TT} {ta tb : TE} {c : M Bool} {a b : M R} (hc : EvT t c) (ha : EvR ta a) (hb : EvR tb b) : EvR (tIf t ta tb) (sIf c a b) := by
  intro par B F0 F H σ ρ z ρ' e S Q q
  unfold sIf at e
  split at e
  · cases e
  · rename_i ρ1 e1
    refine hc par B F0 F H σ ρ _ ρ1 e1 S _ fun F1 H1 x1 S1 => ?_
    show ta σ H1 Q
    exact ha par B F0 F1 H1 σ ρ1 z ρ' e S1 Q fun u F2 H2 x2 S2 h2 => q u F2 H2 (x1.trans x2) S2 h2
  · rename_i ρ1 e1
    refine hc par B F0 F H σ ρ _ ρ1 e1 S _ fun F1 H1 x1 S1 => ?_
    show tb σ H1 Q
    exact hb par B F0 F1 H1 σ ρ1 z ρ' e S1 Q fun u F2 H2 x2 S2 h2 => q u F2 H2 (x1.trans x2) S2 h2
/-- a < b < c -/
def sChain (g g' : D → D → Option R) (a b c : M R) : M R := fun ρ => match a ρ with
  | some (.d x, ρ1) => match b ρ1 with
    | some (.d y, ρ2) => match g x y with
      | some (.d (.bool true)) => (match c ρ2 with
        | some (.d z, ρ3) => (g' y z).map fun r => (r, ρ3)
        | _ => none)
      | some (.d (.bool false)) => some (.d (.bool false), ρ2)
      | _ => none
    | _ => none
  | _ => none
theorem ev_chain {r r' : R2} {g g' : D → D → Option R} {ta tb tc : TE} {a b c : M R} (ho : OpS r g) (ho' : OpS r' g') (ha : EvR ta a) (hb : EvR tb b) (hc : EvR tc c) : EvR (tChain r r' ta tb tc) (sChain g g' a b c) := by
  intro par B F0 F H σ ρ z ρ' e S Q q
  unfold sChain at e
  split at e
  · rename_i x ρ1 e1
    split at e
    · rename_i y ρ2 e2
      refine ha par B F0 F H σ ρ _ ρ1 e1 S _ fun v F1 H1 x1 S1 h1 => ?_
      refine hb par B F0 F1 H1 σ ρ1 _ ρ2 e2 S1 _ fun w F2 H2 x2 S2 h2 => ?_
      have h1' : Rp F2 v x := Rp.up h1 x2
      split at e
      · rename_i e3
        split at e
        · rename_i z' ρ3 e4
          cases e5 : g' y z' with
          | none => rw [e5] at e; cases e
          | some r3 =>
            rw [e5] at e
            cases e
            refine ho par B F0 F2 H2 σ ρ2 v w x y _ e3 S2 (.inl h1') (.inl h2) _ fun u F3 H3 x3 S3 h3 => ?_
            cases h3
            refine ⟨true, rfl, ?_⟩
            rw [if_pos rfl]
            refine hc par B F0 F3 H3 σ ρ2 _ ρ' e4 S3 _ fun w2 F4 H4 x4 S4 h4 => ?_
            exact ho' par B F0 F4 H4 σ ρ' w w2 y z' z e5 S4 (.inl (Rp.up (Rp.up h2 x3) x4)) (.inl h4) Q fun u F5 H5 x5 S5 h5 => q u F5 H5 ((((x1.trans x2).trans x3).trans x4).trans x5) S5 h5
        · cases e
      · rename_i e3
        cases e
        refine ho par B F0 F2 H2 σ ρ' v w x y _ e3 S2 (.inl h1') (.inl h2) _ fun u F3 H3 x3 S3 h3 => ?_
        cases h3
        refine ⟨false, rfl, ?_⟩
        rw [if_neg Bool.false_ne_true]
        exact q _ F3 H3 ((x1.trans x2).trans x3) S3 (.bl _)
      · cases e
    · cases e
  · cases e
end Pu

set_option Elab.async false
set_option linter.all false
set_option maxRecDepth 100000
set_option maxHeartbeats 2000000
namespace Pu
open PySem PySem.Spec PyProof.Rows L2

/-! ### argument lists -/
def OwnNd : List V → List R → Prop
  | v :: vs, r :: rs => (∀ xs, r = .own xs → ∀ (j : Nat) ys, rs[j]? = some (.own ys) → vs[j]? ≠ some v) ∧ OwnNd vs rs
  | _, _ => True
def RReps (B F H : Hp) (σ : L2.St) (ρ : Rho) (vs : List V) (rs : List R) : Prop := Paired (fun v r => RRep B F H σ ρ v r) vs rs ∧ OwnNd vs rs
def EvA (t : TA) (m : M (List R)) : Prop := ∀ (par : L2.St) (B F0 F H : Hp) (σ : L2.St) (ρ : Rho) (rs : List R) (ρ' : Rho), m ρ = some (rs, ρ') → Sta par B F0 F H σ ρ →
  ∀ Q : List V → Hp → Prop, (∀ vs F' H', Ex F F' → Sta par B F0 F' H' σ ρ' → RReps B F' H' σ ρ' vs rs → Q vs H') → t σ H Q
def aNil : M (List R) := fun ρ => some ([], ρ)
def aCons (a : M R) (b : M (List R)) : M (List R) := fun ρ => match a ρ with
  | none => none
  | some (r, ρ1) => match b ρ1 with
    | none => none
    | some (rs, ρ2) => some (r :: rs, ρ2)
theorem ea_nil : EvA tNil aNil := by
  intro par B F0 F H σ ρ rs ρ' e S Q q
  cases e
  exact q [] F H (Ex.refl F) S ⟨.nil, trivial⟩
theorem paired_get {α β : Type} {P : α → β → Prop} : ∀ {xs : List α} {ys : List β} {i : Nat} {y : β}, Paired P xs ys → ys[i]? = some y → ∃ x, xs[i]? = some x ∧ P x y
  | _ :: _, _ :: _, 0, y, .cons h _, e => by
    cases (Option.some.inj (show some _ = some y from e))
    exact ⟨_, rfl, h⟩
  | _ :: xs, _ :: ys, i + 1, y, .cons _ t, e => paired_get (i := i) t e
  | [], [], _, _, .nil, e => nomatch e
theorem paired_len {α β : Type} {P : α → β → Prop} : ∀ {xs : List α} {ys : List β}, Paired P xs ys → xs.length = ys.length
  | [], [], _ => rfl
  | _ :: _, _ :: _, .cons _ t => by rw [List.length_cons, List.length_cons, paired_len t]
theorem ea_cons {ta : TE} {tb : TA} {a : M R} {b : M (List R)} (ha : EvR ta a) (hb : EvA tb b) : EvA (tCons ta tb) (aCons a b) := by
  intro par B F0 F H σ ρ rs ρ' e S Q q
  unfold aCons at e
  split at e
  · cases e
  · rename_i r ρ1 e1
    split at e
    · cases e
    · rename_i rs' ρ2 e2
      cases e
      refine ha par B F0 F H σ ρ r ρ1 e1 S _ fun v F1 H1 x1 S1 h1 => ?_
      refine hb par (gd B H1 v r) F0 F1 H1 σ ρ1 rs' ρ' e2 (guardR S1 h1) _ fun vs F2 H2 x2 S2 h2 => ?_
      obtain ⟨S3, h3⟩ := gd_lift S1 h1 x2 S2
      refine q (v :: vs) F2 H2 (x1.trans x2) S3 ⟨.cons h3 (Paired.mapP h2.1 fun w s hw => gd_res S1 h1 hw), fun xs hr j ys hj hv => ?_, h2.2⟩
      obtain ⟨w, hw, rw_⟩ := paired_get h2.1 hj
      rw [hv] at hw
      cases hw
      exact gd_apart S1 h1 hr rw_ rfl

/-! ### freezing -/
def fz (ρ : Rho) : R → Option (D × Rho)
  | .d x => some (x, ρ)
  | .own xs => some (.list xs, ρ)
  | .sl i => match ρ[i]? with
    | some (some (.d x)) => some (x, ρ)
    | some (some (.own xs)) => some (.list xs, ρ.set i (some (.d (.list xs))))
    | _ => none
def fzs : Rho → List R → Option (List D × Rho)
  | ρ, [] => some ([], ρ)
  | ρ, r :: rs => match fz ρ r with
    | none => none
    | some (x, ρ1) => match fzs ρ1 rs with
      | none => none
      | some (xs, ρ2) => some (x :: xs, ρ2)
section
variable {par : L2.St} {B F0 F H : Hp} {σ : L2.St} {ρ ρ' : Rho} {v : V} {r : R}
/-- an address of its own comes into the frozen part -/
theorem Sta.freeze (S : Sta par B F0 F H σ ρ) {p : Addr} {o : HO} (hF : F p = none) (hB : B p = none) (hH : H p = some o) (ap : Apart σ ρ (.ref p)) : Sta par B F0 (upd F p o) H σ ρ := by
  have x : Ex F (upd F p o) := Ex.new hF
  refine ⟨S.len, S.f0.trans x, fun a u ha => ?_, S.bh, fun a u ha => ?_, fun i c hi => ?_, S.sep, S.par⟩
  · by_cases h : a = p
    · subst h; rw [upd_same] at ha; cases ha; exact hH
    · rw [upd_ne h] at ha; exact S.fh a u ha
  · by_cases h : a = p
    · subst h; exact .inr hB
    · rw [upd_ne h] at ha; exact S.lim a u ha
  · obtain ⟨w, hw, cr⟩ := S.rep i c hi
    refine ⟨w, hw, cr.up x (fun q e ho => ?_) fun q vs _ _ h => h⟩
    subst e
    have h : q ≠ p := fun e => ap i c hi ho (by rw [hw, e])
    obtain ⟨q', vs, e, h1, _, _⟩ := cr.ownB ho
    cases e
    rw [upd_ne h]
    exact h1
theorem set_get {α : Type} {l : List α} {i j : Nat} {x y : α} (h : (l.set i x)[j]? = some y) : (j = i ∧ y = x) ∨ (j ≠ i ∧ l[j]? = some y) := by
  by_cases e : i = j
  · subst e
    by_cases hl : i < l.length
    · rw [List.getElem?_set_self hl] at h
      cases h
      exact .inl ⟨rfl, rfl⟩
    · rw [List.getElem?_eq_none (by simpa using hl)] at h
      cases h
  · rw [List.getElem?_set_ne e] at h
    exact .inr ⟨fun z => e z.symm, h⟩
/-- the list of a slot comes into the frozen part -/
theorem Sta.freezeSl (S : Sta par B F0 F H σ ρ) {i : Nat} {xs : List D} (hi : ρ[i]? = some (some (.own xs))) (hv : σ[i]? = some (some v)) :
    ∃ F', Ex F F' ∧ Sta par B F0 F' H σ (ρ.set i (some (.d (.list xs)))) ∧ Rp F' v (.list xs) ∧ (∀ w s, (∀ ys, s = .own ys → v ≠ w) → RRep B F H σ ρ w s → RRep B F' H σ (ρ.set i (some (.d (.list xs)))) w s) := by
  obtain ⟨w, hw, cr⟩ := S.rep i _ hi
  rw [hv] at hw
  cases hw
  obtain ⟨p, rfl, vs, h1, h2, h3, h4⟩ := cr
  have x : Ex F (upd F p (.lst vs)) := Ex.new h1
  have new : Rp (upd F p (.lst vs)) (.ref p) (.list xs) := .lst (.inl upd_same) (h4.up x)
  refine ⟨upd F p (.lst vs), x, ⟨?_, S.f0.trans x, fun a u ha => ?_, S.bh, fun a u ha => ?_, fun j c hj => ?_, fun j k c e u hj hk hc he hu hw => ?_, fun j ys hj => ?_⟩, new, fun w s hne hs => ?_⟩
  · rw [List.length_set]; exact S.len
  · by_cases h : a = p
    · subst h; rw [upd_same] at ha; cases ha; exact h3
    · rw [upd_ne h] at ha; exact S.fh a u ha
  · by_cases h : a = p
    · subst h; exact .inr h2
    · rw [upd_ne h] at ha; exact S.lim a u ha
  · rcases set_get hj with ⟨rfl, e⟩ | ⟨hne, hj⟩
    · cases e
      exact ⟨_, hv, new⟩
    · obtain ⟨w, hw, cr⟩ := S.rep j c hj
      refine ⟨w, hw, cr.up x (fun q e ho => ?_) fun q vs _ _ h => h⟩
      subst e
      have h : q ≠ p := fun e => by
        subst e
        exact hne (S.sep j i c _ (.ref q) hj hi ho rfl hw hv)
      obtain ⟨q', vs, e, h1, _, _⟩ := cr.ownB ho
      cases e
      rw [upd_ne h]
      exact h1
  · rcases set_get hj with ⟨rfl, e'⟩ | ⟨_, hj⟩
    · cases e'; cases hc
    · rcases set_get hk with ⟨rfl, e'⟩ | ⟨_, hk⟩
      · cases e'; cases he
      · exact S.sep j k c e u hj hk hc he hu hw
  · rcases set_get hj with ⟨rfl, e'⟩ | ⟨_, hj⟩
    · cases e'
    · exact S.par j ys hj
  · cases s with
    | d y => exact Rp.up hs x
    | sl j => exact hs
    | own ys =>
      obtain ⟨q, rfl, ⟨ws, k1, k2, k3, k4⟩, ap⟩ := hs
      have h : q ≠ p := fun e => hne ys rfl (by rw [e])
      refine ⟨q, rfl, ⟨ws, by rw [upd_ne h]; exact k1, k2, k3, k4.up x⟩, fun j c hj ho => ?_⟩
      rcases set_get hj with ⟨rfl, e'⟩ | ⟨_, hj⟩
      · cases e'; cases ho
      · exact ap j c hj ho
theorem fz_ok (S : Sta par B F0 F H σ ρ) (h : RRep B F H σ ρ v r) {x : D} (e : fz ρ r = some (x, ρ')) :
    ∃ F', Ex F F' ∧ Sta par B F0 F' H σ ρ' ∧ Rp F' v x ∧ (∀ w s, (∀ xs ys, r = .own xs → s = .own ys → v ≠ w) → RRep B F H σ ρ w s → RRep B F' H σ ρ' w s) := by
  cases r with
  | d y => cases e; exact ⟨F, Ex.refl F, S, h, fun w s _ hs => hs⟩
  | own xs =>
    cases e
    obtain ⟨p, rfl, ⟨vs, h1, h2, h3, h4⟩, ap⟩ := h
    have x : Ex F (upd F p (.lst vs)) := Ex.new h1
    refine ⟨upd F p (.lst vs), x, S.freeze h1 h2 h3 ap, .lst (.inl upd_same) (h4.up x), fun w s hne hs => ?_⟩
    cases s with
    | d y => exact Rp.up hs x
    | sl j => exact hs
    | own ys =>
      obtain ⟨q, rfl, ⟨ws, k1, k2, k3, k4⟩, ap⟩ := hs
      have h : q ≠ p := fun e => hne xs ys rfl rfl (by rw [e])
      exact ⟨q, rfl, ⟨ws, by rw [upd_ne h]; exact k1, k2, k3, k4.up x⟩, ap⟩
  | sl i =>
    have h : σ[i]? = some (some v) := h
    unfold fz at e
    simp only at e
    split at e
    · rename_i y hi
      cases e
      obtain ⟨w, hw, cr⟩ := S.rep i _ hi
      rw [h] at hw
      cases hw
      exact ⟨F, Ex.refl F, S, cr, fun w s _ hs => hs⟩
    · rename_i xs hi
      cases e
      obtain ⟨F', x, S', n, k⟩ := S.freezeSl hi h
      refine ⟨F', x, S', n, fun w s hne hs => k w s (fun ys es ev => ?_) hs⟩
      -- a pending list is none of the slots'
      subst es ev
      obtain ⟨q, rfl, _, ap⟩ := hs
      exact ap i _ hi rfl h
    · cases e
theorem fzs_ok : ∀ {rs : List R} {vs : List V} {xs : List D} {F : Hp} {ρ : Rho}, Sta par B F0 F H σ ρ → RReps B F H σ ρ vs rs → fzs ρ rs = some (xs, ρ') →
    ∃ F', Ex F F' ∧ Sta par B F0 F' H σ ρ' ∧ RpAll F' vs xs
  | [], vs, xs, F, ρ, S, h, e => by
    cases e
    obtain ⟨h1, _⟩ := h
    cases h1
    exact ⟨F, Ex.refl F, S, .nil⟩
  | r :: rs, vs, xs, F, ρ, S, h, e => by
    obtain ⟨h1, h2⟩ := h
    cases h1 with
    | cons hv ht =>
      rename_i v vs
      obtain ⟨n1, n2⟩ := h2
      unfold fzs at e
      split at e
      · cases e
      · rename_i x ρ1 e1
        split at e
        · cases e
        · rename_i xs' ρ2 e2
          cases e
          obtain ⟨F1, x1, S1, r1, k1⟩ := fz_ok S hv e1
          have ht' : RReps B F1 H σ ρ1 vs rs := by
            refine ⟨?_, n2⟩
            have go : ∀ (ws : List V) (ss : List R), Paired (fun v r => RRep B F H σ ρ v r) ws ss → (∀ (j : Nat) w s, ws[j]? = some w → ss[j]? = some s → ∀ xs ys, r = .own xs → s = .own ys → v ≠ w) → Paired (fun v r => RRep B F1 H σ ρ1 v r) ws ss := by
              intro ws ss p
              induction p with
              | nil => intro _; exact .nil
              | cons h t ih => 
                intro hn
                exact .cons (k1 _ _ (hn 0 _ _ rfl rfl) h) (ih fun j w s a b => hn (j + 1) w s a b)
            refine go vs rs ht fun j w s hw hs xs ys er es => ?_
            subst er es
            rintro rfl
            exact n1 xs rfl j ys hs hw
          obtain ⟨F2, x2, S2, r2⟩ := fzs_ok S1 ht' e2
          exact ⟨F2, x1.trans x2, S2, .cons (Rp.up r1 x2) r2⟩
end

/-! ### displays -/
/-- a new object of frozen items -/
theorem Sta.newT {par : L2.St} {B F0 F H : Hp} {σ : L2.St} {ρ : Rho} (S : Sta par B F0 F H σ ρ) {p : Addr} {o : HO} (hp : H p = none) : Sta par B F0 (upd F p o) (upd H p o) σ ρ := by
  have hF : F p = none := S.fh.back hp
  have hB : B p = none := S.bh.back hp
  have xF : Ex F (upd F p o) := Ex.new hF
  refine ⟨S.len, S.f0.trans xF, S.fh.both, S.bh.trans (Ex.new hp), fun a u ha => ?_, fun i c hi => ?_, S.sep, S.par⟩
  · by_cases h : a = p
    · subst h; exact .inr hB
    · rw [upd_ne h] at ha; exact S.lim a u ha
  · obtain ⟨w, hw, cr⟩ := S.rep i c hi
    refine ⟨w, hw, cr.up xF (fun q e ho => ?_) fun q vs e ho h => ?_⟩
    · subst e
      obtain ⟨q', vs, e, h1, _, h3⟩ := cr.ownB ho
      cases e
      rw [upd_ne (ne_of_none h3 hp)]
      exact h1
    · rw [upd_ne (ne_of_none h hp)]
      exact h
/-- a new list that is nobody's -/
theorem Sta.newL {par : L2.St} {B F0 F H : Hp} {σ : L2.St} {ρ : Rho} (S : Sta par B F0 F H σ ρ) {p : Addr} {o : HO} (hp : H p = none) : Sta par B F0 F (upd H p o) σ ρ := by
  have x : Ex H (upd H p o) := Ex.new hp
  refine ⟨S.len, S.f0, S.fh.trans x, S.bh.trans x, S.lim, fun i c hi => ?_, S.sep, S.par⟩
  obtain ⟨w, hw, cr⟩ := S.rep i c hi
  exact ⟨w, hw, cr.up (Ex.refl F) (fun q e ho => by
    subst e
    obtain ⟨q', vs, e, h1, _, h3⟩ := cr.ownB ho
    cases e
    exact h1) fun q vs e ho h => x _ _ h⟩
theorem newL_rep {par : L2.St} {B F0 F H : Hp} {σ : L2.St} {ρ : Rho} (S : Sta par B F0 F H σ ρ) {p : Addr} {vs : List V} {xs : List D} (hp : H p = none) (h : RpAll F vs xs) : RRep B F (upd H p (.lst vs)) σ ρ (.ref p) (.own xs) := by
  refine ⟨p, rfl, ⟨vs, S.fh.back hp, S.bh.back hp, upd_same, h⟩, fun i c hi ho hs => ?_⟩
  obtain ⟨w, hw, cr⟩ := S.rep i c hi
  rw [hs] at hw
  cases hw
  obtain ⟨q, ws, e, _, _, h3⟩ := cr.ownB ho
  cases e
  rw [hp] at h3
  cases h3
theorem newT_rep {par : L2.St} {B F0 F H : Hp} {σ : L2.St} {ρ : Rho} (S : Sta par B F0 F H σ ρ) {p : Addr} {vs : List V} {xs : List D} (hp : H p = none) (h : RpAll F vs xs) : Rp (upd F p (.tup vs)) (.ref p) (.tuple xs) :=
  .tup upd_same (h.up (Ex.new (S.fh.back hp)))
def sTup (m : M (List R)) : M R := fun ρ => match m ρ with
  | none => none
  | some (rs, ρ1) => match fzs ρ1 rs with
    | none => none
    | some (xs, ρ2) => if xs.length ≤ big then some (.d (.tuple xs), ρ2) else none
def sLst (m : M (List R)) : M R := fun ρ => match m ρ with
  | none => none
  | some (rs, ρ1) => match fzs ρ1 rs with
    | none => none
    | some (xs, ρ2) => if xs.length ≤ big then some (.own xs, ρ2) else none
theorem ev_tup {t : TA} {m : M (List R)} (h : EvA t m) : EvR (tTup t) (sTup m) := by
  intro par B F0 F H σ ρ z ρ' e S Q q
  unfold sTup at e
  split at e
  · cases e
  · rename_i rs ρ1 e1
    split at e
    · cases e
    · rename_i xs ρ2 e2
      split at e
      · rename_i hz
        cases e
        refine h par B F0 F H σ ρ rs ρ1 e1 S _ fun vs F1 H1 x1 S1 h1 => ?_
        obtain ⟨F2, x2, S2, r2⟩ := fzs_ok S1 h1 e2
        refine ⟨by rw [r2.length]; exact Nat.le_trans hz big_line, fun p hp => ?_⟩
        exact q (.ref p) _ _ ((x1.trans x2).trans (Ex.new (S2.fh.back hp))) (S2.newT hp) (newT_rep S2 hp r2)
      · cases e
theorem ev_lst {t : TA} {m : M (List R)} (h : EvA t m) : EvR (tLst t) (sLst m) := by
  intro par B F0 F H σ ρ z ρ' e S Q q
  unfold sLst at e
  split at e
  · cases e
  · rename_i rs ρ1 e1
    split at e
    · cases e
    · rename_i xs ρ2 e2
      split at e
      · rename_i hz
        cases e
        refine h par B F0 F H σ ρ rs ρ1 e1 S _ fun vs F1 H1 x1 S1 h1 => ?_
        obtain ⟨F2, x2, S2, r2⟩ := fzs_ok S1 h1 e2
        refine ⟨by rw [r2.length]; exact Nat.le_trans hz big_line, fun p hp => ?_⟩
        exact q (.ref p) _ _ (x1.trans x2) (S2.newL hp) (newL_rep S2 hp r2)
      · cases e
/-! ### subscripts, slices -/
def gIx : D → D → Option R
  | .list xs, .int i => (atI xs i).map .d
  | .tuple xs, .int i => (atI xs i).map .d
  | .str z, .int i => if z.length ≤ big then (atI z.cps.toList i).map fun c => .d (.str ⟨#[c]⟩) else none
  | _, _ => none
theorem atI_rp {F : Hp} {vs : List V} {xs : List D} {i : Int} {d : D} (h : RpAll F vs xs) (e : atI xs i = some d) : ∃ v, atI vs i = some v ∧ Rp F v d := by
  unfold atI at e ⊢
  rw [h.length]
  cases hx : ixN xs.length i with
  | none => rw [hx] at e; cases e
  | some j =>
    rw [hx] at e
    obtain ⟨v, hv, r⟩ := h.get (show xs[j]? = some d from e)
    exact ⟨v, hv, r⟩
theorem os_ix {K : PySem.W.Frag} : OpS (rIx K) gIx := by
  intro par B F0 F H σ ρ v w x y z e S hv hw Q q
  unfold gIx at e
  split at e
  · rename_i xs i
    cases e1 : atI xs i with
    | none => rw [e1] at e; cases e
    | some d =>
      rw [e1] at e
      cases e
      obtain ⟨p, vs, rfl, h1, h2⟩ := hv.list S.fh
      obtain ⟨u, hu, r⟩ := atI_rp h2 e1
      exact .inl ⟨p, vs, i, u, rfl, rdv_int hw, .inl h1, hu, q_flat S r q⟩
  · rename_i xs i
    cases e1 : atI xs i with
    | none => rw [e1] at e; cases e
    | some d =>
      rw [e1] at e
      cases e
      obtain ⟨p, vs, rfl, h1, h2⟩ := hv.tuple
      obtain ⟨u, hu, r⟩ := atI_rp h2 e1
      exact .inr (.inl ⟨p, vs, i, u, rfl, rdv_int hw, .inl (.inl (S.fh _ _ h1)), hu, q_flat S r q⟩)
  · rename_i s i
    split at e
    · rename_i hz
      cases e1 : atI s.cps.toList i with
      | none => rw [e1] at e; cases e
      | some c =>
        rw [e1] at e
        cases e
        exact .inr (.inr ⟨s, i, c, rdv_str hv, rdv_int hw, Nat.le_trans hz big_line, e1, q_flat S (.str _) q⟩)
    · cases e
  · cases e
end Pu

set_option Elab.async false
set_option linter.all false
set_option maxRecDepth 100000
set_option maxHeartbeats 2000000
namespace Pu
open PySem PySem.Spec PyProof.Rows L2

/-! ### + and * of lists and tuples -/
def gCatL : D → D → Option R
  | .list xs, .list ys => if xs.length + ys.length ≤ big then some (.own (xs ++ ys)) else none
  | _, _ => none
def gCatT : D → D → Option R
  | .tuple xs, .tuple ys => if xs.length + ys.length ≤ big then some (.d (.tuple (xs ++ ys))) else none
  | _, _ => none
/-- xs + ys, also of lists that the caller has laid -/
def rCatR : R2 := fun x y H Q => ∃ l b xs zs, x = .ref l ∧ y = .ref b ∧ Rd H l (.lst xs) ∧ Rd H b (.lst zs) ∧ xs.length + zs.length ≤ sizeLine ∧
  ∀ p, H p = none → Q (.ref p) (upd H p (.lst (xs ++ zs)))
theorem op_catR {X : Cx} : OpR X (binaryOp .Add) rCatR := by
  rintro pins s σ H _ _ v u Q I rx ry ⟨l, b, xs, zs, rfl, rfl, hl, hb, hz, q⟩
  cases rx
  cases ry
  obtain ⟨_, us, n, r1, g1⟩ := hl.ok I.hok
  obtain ⟨_, ws, m, r2, g2⟩ := hb.ok I.hok
  have e1 := r1.length
  have e2 := r2.length
  refine PySem.P.add_list g1 g2 ?_ (by rw [List.size_toArray, List.size_toArray, ← e1, ← e2]; exact hz)
  rw [show us.toArray ++ ws.toArray = (us ++ ws).toArray by simp]
  refine ⟨.ref _, _, I.lnew (t' := s.toks) (r1.append r2) ?_, rfl, q _ I.fresh⟩
  rw [List.length_append]
  exact hz
/-- xs * k -/
def rRepR : R2 := fun x y H Q => ∃ l k xs, x = .ref l ∧ y = .int k ∧ Rd H l (.lst xs) ∧ -(2 ^ 63) ≤ k ∧ k < 2 ^ 63 ∧ xs.length * k.toNat ≤ sizeLine ∧
  ∀ p, H p = none → Q (.ref p) (upd H p (.lst (List.replicate k.toNat xs).flatten))
theorem op_repR {X : Cx} : OpR X (binaryOp .Mult) rRepR := by
  rintro pins s σ H _ _ v u Q I rx ry ⟨l, k, xs, rfl, rfl, hl, k1, k2, hz, q⟩
  cases rx
  obtain ⟨tk, rfl⟩ := ry
  obtain ⟨_, us, n, r1, g1⟩ := hl.ok I.hok
  have e1 := r1.length
  have z1 : us.toArray.size * k.toNat ≤ sizeLine := by
    rw [List.size_toArray, ← e1]
    exact hz
  have z2 : ¬ us.toArray.size * k.toNat > (2 ^ 63 - 1) / 8 := by
    have q1 : (sizeLine : Nat) ≤ (2 ^ 63 - 1) / 8 := by decide
    omega
  have z3 : ¬ (!Builtin.List.listFitsIndex k) = true := by rw [fitsIndex_both k1 k2]; exact Bool.false_ne_true
  have z4 : ¬ Builtin.List.listTooLong (us.toArray.size * k.toNat) = true := by rw [notLongL z1]; exact Bool.false_ne_true
  have fl : ∀ m : Nat, List.foldl (fun a b => a ++ b) #[] (List.replicate m us.toArray) = (List.replicate m us).flatten.toArray := fun m => by
    have q1 := foldl_rep us m []
    rw [List.nil_append] at q1
    exact q1
  have made : List.foldl (fun a b => a ++ b) #[] (List.replicate (if us.toArray.isEmpty = true then 0 else k.toNat) us.toArray) = (List.replicate k.toNat us).flatten.toArray := by
    rw [fl]
    cases us with
    | nil => simp
    | cons a r' => rw [if_neg (by simp)]
  have tI := typeIs_int s k tk
  have tL : s.TypeIs (.ref l) "list" := ⟨_, g1, rfl⟩
  refine wpAny_binaryOp_repeat_ref (T := "list") (U := "int") (by decide) tL (fun z => typeIs_int z k tk) noFill_list_mul F.fills_int_mul F.slot_int_rmul repeat_list F.slot_int_index.lookup ?_
  refine call_meets F.slot_int_rmul tI F.entry_int_rmul (F.args_int_rmul_2 _ _) (int___rmul___int_list k tk l us.toArray n) ⟨g1, rfl, tL, ?_⟩
  refine call_meets F.slot_list_mul tL F.entry_list_mul (F.args_list_mul_2 _ _) (AutoListH.list___mul___list_int_3 l us.toArray n k tk z3 z2 z4) ⟨g1, ?_⟩
  rw [made]
  refine ⟨.ref _, _, I.lnew (t' := s.toks) (r1.rep k.toNat) ?_, rfl, q _ I.fresh⟩
  rw [PyProof.Rows.lm_len_rep_flat, Nat.mul_comm]
  exact hz
theorem os_catL : OpS rCatR gCatL := by
  intro par B F0 F H σ ρ v w x y z e S hv hw Q q
  unfold gCatL at e
  split at e
  · split at e
    · rename_i xs ys hz
      cases e
      obtain ⟨p, vs, rfl, h1, h2⟩ := hv.list S.fh
      obtain ⟨p', ws, rfl, k1, k2⟩ := hw.list S.fh
      refine ⟨p, p', vs, ws, rfl, rfl, h1, k1, by rw [h2.length, k2.length]; exact Nat.le_trans hz big_line, fun n hn => ?_⟩
      exact q (.ref n) F _ (Ex.refl F) (S.newL hn) (newL_rep S hn (h2.append k2))
    · cases e
  · cases e
theorem os_catT {K : PySem.W.Frag} : OpS (rCatA K) gCatT := by
  intro par B F0 F H σ ρ v w x y z e S hv hw Q q
  unfold gCatT at e
  split at e
  · split at e
    · rename_i xs ys hz
      cases e
      obtain ⟨p, vs, rfl, h1, h2⟩ := hv.tuple
      obtain ⟨p', ws, rfl, k1, k2⟩ := hw.tuple
      have r1 : Rp F (.ref p) (.tuple xs) := .tup h1 h2
      have r2 : Rp F (.ref p') (.tuple ys) := .tup k1 k2
      refine ⟨p, p', vs, ws, rfl, rfl, .inl (.inl (S.fh _ _ h1)), .inl (.inl (S.fh _ _ k1)), by rw [h2.length, k2.length]; exact Nat.le_trans hz big_line, fun ev => ?_, fun _ ew => ?_, fun _ _ n hn => ?_⟩
      · subst ev
        cases h2
        exact q_flat S r2 q
      · subst ew
        cases k2
        rw [List.append_nil] at q
        exact q_flat S r1 q
      · exact q (.ref n) _ _ (Ex.new (S.fh.back hn)) (S.newT hn) (newT_rep S hn (h2.append k2))
    · cases e
  · cases e
def gRep : D → D → Option R
  | .list xs, .int k => if xs.length ≤ 1000 ∧ -1000 ≤ k ∧ k ≤ 1000 then some (.own (List.replicate k.toNat xs).flatten) else none
  | _, _ => none
theorem rep_rp {F : Hp} {vs : List V} {xs : List D} (h : RpAll F vs xs) : ∀ n : Nat, RpAll F (List.replicate n vs).flatten (List.replicate n xs).flatten
  | 0 => .nil
  | n + 1 => by
    rw [List.replicate_succ, List.replicate_succ, List.flatten_cons, List.flatten_cons]
    exact h.append (rep_rp h n)
theorem os_rep : OpS rRepR gRep := by
  intro par B F0 F H σ ρ v w x y z e S hv hw Q q
  unfold gRep at e
  split at e
  · split at e
    · rename_i xs k hz
      cases e
      obtain ⟨p, vs, rfl, h1, h2⟩ := hv.list S.fh
      refine ⟨p, k, vs, rfl, rdv_int hw, h1, by omega, by omega, ?_, fun n hn => ?_⟩
      · rw [h2.length]
        have a : xs.length * k.toNat ≤ 1000 * 1000 := Nat.mul_le_mul hz.1 (by omega)
        exact Nat.le_trans a big_line
      · exact q (.ref n) F _ (Ex.refl F) (S.newL hn) (newL_rep S hn (rep_rp h2 _))
    · cases e
  · cases e
/-! ### in, not in -/
section
variable {X : Cx}
def rInDT (K : PySem.W.Frag) : R2 := fun x y H Q => ∃ d ds, Dp K H x d ∧ (Dp K H y (.list ds) ∨ Dp K H y (.tuple ds)) ∧ SeqAt.shaped d = true ∧ SeqAt.shaped (.list ds) = true ∧ Q (.bl (ds.any fun z => PyData.eqv z d)) H
def rNotInDT (K : PySem.W.Frag) : R2 := fun x y H Q => ∃ d ds, Dp K H x d ∧ (Dp K H y (.list ds) ∨ Dp K H y (.tuple ds)) ∧ SeqAt.shaped d = true ∧ SeqAt.shaped (.list ds) = true ∧ Q (.bl (!ds.any fun z => PyData.eqv z d)) H
theorem op_inDT (hu : X.A.units + 65 < cLine) : OpR X (compareOp .In) (rInDT X.K) := by
  intro pins s σ H x y v u Q I rx ry h
  obtain ⟨d, ds, hd, he, sd, se, q⟩ := h
  obtain ⟨as, r1⟩ := Dp.reads I d x v hd rx
  rcases he with he | he
  · obtain ⟨bs, r2⟩ := Dp.reads I (.list ds) y u he ry
    exact SeqAt.in_list_reads r2 r1 (SeqAt.canLay_of_shaped se) (SeqAt.canLay_of_shaped sd) (room_in_shaped sd hu) ⟨.bl _, H, I, rfl, q⟩
  · obtain ⟨bs, r2⟩ := Dp.reads I (.tuple ds) y u he ry
    exact SeqAt.in_tuple_reads r2 r1 (SeqAt.canLay_of_shaped se) (SeqAt.canLay_of_shaped sd) (room_in_shaped sd hu) ⟨.bl _, H, I, rfl, q⟩
theorem op_notInDT (hu : X.A.units + 65 < cLine) : OpR X (compareOp .NotIn) (rNotInDT X.K) := by
  intro pins s σ H x y v u Q I rx ry h
  obtain ⟨d, ds, hd, he, sd, se, q⟩ := h
  obtain ⟨as, r1⟩ := Dp.reads I d x v hd rx
  rcases he with he | he
  · obtain ⟨bs, r2⟩ := Dp.reads I (.list ds) y u he ry
    exact SeqAt.notIn_list_reads r2 r1 (SeqAt.canLay_of_shaped se) (SeqAt.canLay_of_shaped sd) (room_in_shaped sd hu) ⟨.bl _, H, I, rfl, q⟩
  · obtain ⟨bs, r2⟩ := Dp.reads I (.tuple ds) y u he ry
    exact SeqAt.notIn_tuple_reads r2 r1 (SeqAt.canLay_of_shaped se) (SeqAt.canLay_of_shaped sd) (room_in_shaped sd hu) ⟨.bl _, H, I, rfl, q⟩
end
def gIn (neg : Bool) : D → D → Option R
  | d, .list ds => if SeqAt.shaped d = true ∧ SeqAt.shaped (.list ds) = true then some (.d (.bool (if neg then !ds.any fun z => PyData.eqv z d else ds.any fun z => PyData.eqv z d))) else none
  | d, .tuple ds => if SeqAt.shaped d = true ∧ SeqAt.shaped (.list ds) = true then some (.d (.bool (if neg then !ds.any fun z => PyData.eqv z d else ds.any fun z => PyData.eqv z d))) else none
  | _, _ => none
theorem os_in {K : PySem.W.Frag} : OpS (rInDT K) (gIn false) := by
  intro par B F0 F H σ ρ v w x y z e S hv hw Q q
  unfold gIn at e
  split at e
  · split at e
    · rename_i h
      cases e
      exact ⟨x, _, hv.dp S.fh, .inl (hw.dp S.fh), h.1, h.2, q_flat S (.bl _) q⟩
    · cases e
  · split at e
    · rename_i h
      cases e
      exact ⟨x, _, hv.dp S.fh, .inr (hw.dp S.fh), h.1, h.2, q_flat S (.bl _) q⟩
    · cases e
  · cases e
theorem os_notIn {K : PySem.W.Frag} : OpS (rNotInDT K) (gIn true) := by
  intro par B F0 F H σ ρ v w x y z e S hv hw Q q
  unfold gIn at e
  split at e
  · split at e
    · rename_i h
      cases e
      exact ⟨x, _, hv.dp S.fh, .inl (hw.dp S.fh), h.1, h.2, q_flat S (.bl _) q⟩
    · cases e
  · split at e
    · rename_i h
      cases e
      exact ⟨x, _, hv.dp S.fh, .inr (hw.dp S.fh), h.1, h.2, q_flat S (.bl _) q⟩
    · cases e
  · cases e
/-- one sign in a text -/
def gInS (neg : Bool) : D → D → Option R
  | .str i, .str j => match i.cps.toList with
    | [c] => some (.d (.bool (if neg then !decide (c ∈ j.cps.toList) else decide (c ∈ j.cps.toList))))
    | _ => none
  | _, _ => none
theorem one_sign {i : Str} {c : Nat} (h : i.cps.toList = [c]) : i = ⟨#[c]⟩ := by
  cases i with
  | mk a =>
    have h : a.toList = [c] := h
    have : a = [c].toArray := by rw [← h]
    rw [this]
theorem os_inS : OpS (fun x y H Q => ∃ (c : Nat) (z : Str), x = .str ⟨#[c]⟩ ∧ y = .str z ∧ Q (.bl (decide (c ∈ z.cps.toList))) H) (gInS false) := by
  intro par B F0 F H σ ρ v w x y z e S hv hw Q q
  unfold gInS at e
  split at e
  · split at e
    · rename_i i j c hc
      cases e
      cases one_sign hc
      exact ⟨c, _, rdv_str hv, rdv_str hw, q_flat S (.bl _) q⟩
    · cases e
  · cases e
theorem os_notInS : OpS (fun x y H Q => ∃ (c : Nat) (z : Str), x = .str ⟨#[c]⟩ ∧ y = .str z ∧ Q (.bl (!decide (c ∈ z.cps.toList))) H) (gInS true) := by
  intro par B F0 F H σ ρ v w x y z e S hv hw Q q
  unfold gInS at e
  split at e
  · split at e
    · rename_i i j c hc
      cases e
      cases one_sign hc
      exact ⟨c, _, rdv_str hv, rdv_str hw, q_flat S (.bl _) q⟩
    · cases e
  · cases e
/-- is None, is not None -/
def dNon : D → Bool
  | .none => true
  | _ => false
def gIsN (neg : Bool) : D → D → Option R
  | x, .none => some (.d (.bool (if neg then !dNon x else dNon x)))
  | _, _ => none
theorem rdv_isN {F H : Hp} {v : V} {x : D} (h : Rdv F H v x) : decide (v = .non) = dNon x := by
  rcases h with h | ⟨p, vs, xs, rfl, rfl, _, _⟩
  · cases h <;> rfl
  · rfl
theorem os_isN : OpS (fun x y H Q => y = .non ∧ Q (.bl (decide (x = .non))) H) (gIsN false) := by
  intro par B F0 F H σ ρ v w x y z e S hv hw Q q
  unfold gIsN at e
  split at e
  · cases e
    refine ⟨rdv_non hw, ?_⟩
    rw [rdv_isN hv]
    exact q_flat S (.bl _) q
  · cases e
theorem os_notN : OpS (fun x y H Q => y = .non ∧ Q (.bl (!decide (x = .non))) H) (gIsN true) := by
  intro par B F0 F H σ ρ v w x y z e S hv hw Q q
  unfold gIsN at e
  split at e
  · cases e
    refine ⟨rdv_non hw, ?_⟩
    rw [rdv_isN hv]
    exact q_flat S (.bl _) q
  · cases e
/-! ### built-in calls of data -/
/-- a call by values -/
def CallS (r : List V → Hp → VK → Prop) (g : List D → Option R) : Prop := ∀ (par : L2.St) (B F0 F H : Hp) (σ : L2.St) (ρ : Rho) (vs : List V) (xs : List D) (z : R), g xs = some z → Sta par B F0 F H σ ρ → Paired (Rdv F H) vs xs →
  ∀ Q : VK, (∀ u F' H', Ex F F' → Sta par B F0 F' H' σ ρ → RRep B F' H' σ ρ u z → Q u H') → r vs H Q
def rds (ρ : Rho) : List R → Option (List D)
  | [] => some []
  | r :: rs => match rd ρ r, rds ρ rs with
    | some x, some xs => some (x :: xs)
    | _, _ => none
theorem rds_ok {par : L2.St} {B F0 F H : Hp} {σ : L2.St} {ρ : Rho} (S : Sta par B F0 F H σ ρ) : ∀ {vs : List V} {rs : List R} {xs : List D}, Paired (fun v r => RRep B F H σ ρ v r) vs rs → rds ρ rs = some xs → Paired (Rdv F H) vs xs
  | _, [], _, h, e => by cases h; cases e; exact .nil
  | _, r :: rs, _, h, e => by
    cases h with
    | cons h t =>
      unfold rds at e
      split at e
      · rename_i x xs e1 e2
        cases e
        exact .cons (rrep_rd S h e1) (rds_ok S t e2)
      · cases e
def sCB (g : List D → Option R) (m : M (List R)) : M R := fun ρ => match m ρ with
  | none => none
  | some (rs, ρ1) => match rds ρ1 rs with
    | none => none
    | some xs => (g xs).map fun z => (z, ρ1)
theorem ev_cb {t : TA} {m : M (List R)} {r : List V → Hp → VK → Prop} {g : List D → Option R} (ht : EvA t m) (hr : CallS r g) : EvR (tCB r t) (sCB g m) := by
  intro par B F0 F H σ ρ z ρ' e S Q q
  unfold sCB at e
  split at e
  · cases e
  · rename_i rs ρ1 e1
    split at e
    · cases e
    · rename_i xs e2
      cases e5 : g xs with
      | none => rw [e5] at e; cases e
      | some z' =>
        rw [e5] at e
        cases e
        refine ht par B F0 F H σ ρ rs ρ' e1 S _ fun vs F1 H1 x1 S1 h1 => ?_
        exact hr par B F0 F1 H1 σ ρ' vs xs z e5 S1 (rds_ok S1 h1.1 e2) Q fun u F2 H2 x2 S2 h2 => q u F2 H2 (x1.trans x2) S2 h2
theorem p1 {F H : Hp} {vs : List V} {x : D} (h : Paired (Rdv F H) vs [x]) : ∃ v, vs = [v] ∧ Rdv F H v x := by
  cases h with
  | cons h t => cases t; exact ⟨_, rfl, h⟩
theorem p2 {F H : Hp} {vs : List V} {x y : D} (h : Paired (Rdv F H) vs [x, y]) : ∃ v w, vs = [v, w] ∧ Rdv F H v x ∧ Rdv F H w y := by
  cases h with
  | cons h t =>
    obtain ⟨w, rfl, h2⟩ := p1 t
    exact ⟨_, w, rfl, h, h2⟩
def gLen : List D → Option R
  | [.list xs] => some (.d (.int (xs.length : Int)))
  | [.tuple xs] => some (.d (.int (xs.length : Int)))
  | _ => none
def gLenS : List D → Option R
  | [.str x] => if x.length ≤ big then some (.d (.int (x.length : Int))) else none
  | _ => none
theorem CallS.or {r r' : List V → Hp → VK → Prop} {g g' : List D → Option R} (h : CallS r g) (h' : CallS r' g') : CallS (fun xs H Q => r xs H Q ∨ r' xs H Q) (fun x => match g x with | some z => some z | none => g' x) := by
  intro par B F0 F H σ ρ vs xs z e S hv Q q
  cases e1 : g xs with
  | some z' =>
    simp only [e1] at e
    cases e
    exact .inl (h par B F0 F H σ ρ vs xs z e1 S hv Q q)
  | none =>
    simp only [e1] at e
    exact .inr (h' par B F0 F H σ ρ vs xs z e S hv Q q)
theorem CallR.or {X : Cx} {f : Value} {r r' : List V → Hp → VK → Prop} (h : CallR X f r) (h' : CallR X f r') : CallR X f (fun xs H Q => r xs H Q ∨ r' xs H Q) := by
  intro pins s σ H xs us Q I rr hh
  rcases hh with hh | hh
  · exact h pins s σ H xs us Q I rr hh
  · exact h' pins s σ H xs us Q I rr hh
theorem cs_len {K : PySem.W.Frag} : CallS (fun xs H Q => ∃ p ys, xs = [.ref p] ∧ (SqL K H p ys ∨ SqT K H p ys) ∧ Q (.int ys.length) H) gLen := by
  intro par B F0 F H σ ρ vs xs z e S hv Q q
  unfold gLen at e
  split at e
  · cases e
    obtain ⟨v, rfl, h⟩ := p1 hv
    obtain ⟨p, ws, rfl, h1, h2⟩ := h.list S.fh
    refine ⟨p, ws, rfl, .inl (.inl h1), ?_⟩
    rw [h2.length]
    exact q_flat S (.int _) q
  · cases e
    obtain ⟨v, rfl, h⟩ := p1 hv
    obtain ⟨p, ws, rfl, h1, h2⟩ := h.tuple
    refine ⟨p, ws, rfl, .inr (.inl (.inl (S.fh _ _ h1))), ?_⟩
    rw [h2.length]
    exact q_flat S (.int _) q
  · cases e
theorem cs_lenS : CallS (fun xs H Q => ∃ z : Str, xs = [.str z] ∧ z.length ≤ sizeLine ∧ Q (.int z.length) H) gLenS := by
  intro par B F0 F H σ ρ vs xs z e S hv Q q
  unfold gLenS at e
  split at e
  · split at e
    · rename_i hz
      cases e
      obtain ⟨v, rfl, h⟩ := p1 hv
      rw [rdv_str h]
      exact ⟨_, rfl, Nat.le_trans hz big_line, q_flat S (.int _) q⟩
    · cases e
  · cases e
def gAbs : List D → Option R
  | [.int i] => some (.d (.int (if i < 0 then -i else i)))
  | _ => none
theorem cs_abs : CallS (fun xs H Q => ∃ i, xs = [.int i] ∧ Q (.int (if i < 0 then -i else i)) H) gAbs := by
  intro par B F0 F H σ ρ vs xs z e S hv Q q
  unfold gAbs at e
  split at e
  · cases e
    obtain ⟨v, rfl, h⟩ := p1 hv
    rw [rdv_int h]
    exact ⟨_, rfl, q_flat S (.int _) q⟩
  · cases e
def gInt : List D → Option R
  | [.int i] => some (.d (.int i))
  | [.bool k] => some (.d (.int (if k then 1 else 0)))
  | _ => none
theorem cs_int : CallS (fun xs H Q => (∃ i, xs = [.int i] ∧ Q (.int i) H) ∨ ∃ k, xs = [.bl k] ∧ Q (.int (if k then 1 else 0)) H) gInt := by
  intro par B F0 F H σ ρ vs xs z e S hv Q q
  unfold gInt at e
  split at e
  · cases e
    obtain ⟨v, rfl, h⟩ := p1 hv
    rw [rdv_int h]
    exact .inl ⟨_, rfl, q_flat S (.int _) q⟩
  · cases e
    obtain ⟨v, rfl, h⟩ := p1 hv
    rw [rdv_bl h]
    exact .inr ⟨_, rfl, q_flat S (.int _) q⟩
  · cases e
def gMin2 : List D → Option R
  | [.int i, .int j] => some (.d (.int (if j < i then j else i)))
  | _ => none
theorem cs_min2 : CallS (fun xs H Q => ∃ i j, xs = [.int i, .int j] ∧ Q (.int (if j < i then j else i)) H) gMin2 := by
  intro par B F0 F H σ ρ vs xs z e S hv Q q
  unfold gMin2 at e
  split at e
  · cases e
    obtain ⟨v, w, rfl, h, k⟩ := p2 hv
    rw [rdv_int h, rdv_int k]
    exact ⟨_, _, rfl, q_flat S (.int _) q⟩
  · cases e
def gMax2 : List D → Option R
  | [.int i, .int j] => some (.d (.int (if j > i then j else i)))
  | _ => none
theorem cs_max2 : CallS (fun xs H Q => ∃ i j, xs = [.int i, .int j] ∧ Q (.int (if j > i then j else i)) H) gMax2 := by
  intro par B F0 F H σ ρ vs xs z e S hv Q q
  unfold gMax2 at e
  split at e
  · cases e
    obtain ⟨v, w, rfl, h, k⟩ := p2 hv
    rw [rdv_int h, rdv_int k]
    exact ⟨_, _, rfl, q_flat S (.int _) q⟩
  · cases e
/-- lists of bools -/
def bools : List D → Option (List Bool)
  | [] => some []
  | .bool b :: xs => (bools xs).map (b :: ·)
  | _ :: _ => none
theorem bools_rp {F : Hp} : ∀ {xs : List D} {bs : List Bool} {vs : List V}, bools xs = some bs → RpAll F vs xs → vs = bs.map V.bl
  | [], _, _, e, h => by cases e; cases h; rfl
  | x :: xs, bs, _, e, h => by
    cases x with
    | bool b =>
      unfold bools at e
      cases e1 : bools xs with
      | none => rw [e1] at e; cases e
      | some cs =>
        rw [e1] at e
        cases e
        cases h with
        | cons h t =>
          cases h
          rw [bools_rp e1 t]
          rfl
    | _ => cases e
def gAll : List D → Option R
  | [.list xs] => (bools xs).map fun bs => .d (.bool (bs.all id))
  | _ => none
def gAny : List D → Option R
  | [.list xs] => (bools xs).map fun bs => .d (.bool (bs.any id))
  | _ => none
theorem cs_all {K : PySem.W.Frag} : CallS (rAll K) gAll := by
  intro par B F0 F H σ ρ vs xs z e S hv Q q
  unfold gAll at e
  split at e
  · rename_i ys
    cases e1 : bools ys with
    | none => rw [e1] at e; cases e
    | some bs =>
      rw [e1] at e
      cases e
      obtain ⟨v, rfl, h⟩ := p1 hv
      obtain ⟨p, ws, rfl, h1, h2⟩ := h.list S.fh
      refine ⟨p, bs, rfl, ?_, q_flat S (.bl _) q⟩
      rw [← bools_rp e1 h2]
      exact .inl h1
  · cases e
theorem cs_any {K : PySem.W.Frag} : CallS (rAny K) gAny := by
  intro par B F0 F H σ ρ vs xs z e S hv Q q
  unfold gAny at e
  split at e
  · rename_i ys
    cases e1 : bools ys with
    | none => rw [e1] at e; cases e
    | some bs =>
      rw [e1] at e
      cases e
      obtain ⟨v, rfl, h⟩ := p1 hv
      obtain ⟨p, ws, rfl, h1, h2⟩ := h.list S.fh
      refine ⟨p, bs, rfl, ?_, q_flat S (.bl _) q⟩
      rw [← bools_rp e1 h2]
      exact .inl h1
  · cases e
def gTuple : List D → Option R
  | [.list xs] => some (.d (.tuple xs))
  | [.tuple xs] => some (.d (.tuple xs))
  | _ => none
theorem cs_tuple {K : PySem.W.Frag} : CallS (fun xs H Q => ∃ p ys, xs = [.ref p] ∧ ((SqL K H p ys ∧ ∀ l, H l = none → Q (.ref l) (upd H l (.tup ys))) ∨ (SqT K H p ys ∧ Q (.ref p) H))) gTuple := by
  intro par B F0 F H σ ρ vs xs z e S hv Q q
  unfold gTuple at e
  split at e
  · cases e
    obtain ⟨v, rfl, h⟩ := p1 hv
    obtain ⟨p, ws, rfl, h1, h2⟩ := h.list S.fh
    exact ⟨p, ws, rfl, .inl ⟨.inl h1, fun l hl => q (.ref l) _ _ (Ex.new (S.fh.back hl)) (S.newT hl) (newT_rep S hl h2)⟩⟩
  · cases e
    obtain ⟨v, rfl, h⟩ := p1 hv
    obtain ⟨p, ws, rfl, h1, h2⟩ := h.tuple
    exact ⟨p, ws, rfl, .inr ⟨.inl (.inl (S.fh _ _ h1)), q_flat S (.tup h1 h2) q⟩⟩
  · cases e
def gList : List D → Option R
  | [.list xs] => some (.own xs)
  | [.tuple xs] => some (.own xs)
  | _ => none
theorem cs_list {K : PySem.W.Frag} : CallS (fun xs H Q => ∃ p ys, xs = [.ref p] ∧ (SqL K H p ys ∨ SqT K H p ys) ∧ ∀ l, H l = none → Q (.ref l) (upd H l (.lst ys))) gList := by
  intro par B F0 F H σ ρ vs xs z e S hv Q q
  unfold gList at e
  split at e
  · cases e
    obtain ⟨v, rfl, h⟩ := p1 hv
    obtain ⟨p, ws, rfl, h1, h2⟩ := h.list S.fh
    exact ⟨p, ws, rfl, .inl (.inl h1), fun l hl => q (.ref l) F _ (Ex.refl F) (S.newL hl) (newL_rep S hl h2)⟩
  · cases e
    obtain ⟨v, rfl, h⟩ := p1 hv
    obtain ⟨p, ws, rfl, h1, h2⟩ := h.tuple
    exact ⟨p, ws, rfl, .inr (.inl (.inl (S.fh _ _ h1))), fun l hl => q (.ref l) F _ (Ex.refl F) (S.newL hl) (newL_rep S hl h2)⟩
  · cases e
/-! ### isinstance -/
def tyName : D → Option String
  | .none => some "NoneType"
  | .bool _ => some "bool"
  | .int _ => some "int"
  | .str _ => some "str"
  | .list _ => some "list"
  | .tuple _ => some "tuple"
  | .dict _ => none
theorem rdv_ty {K : PySem.W.Frag} {F H : Hp} {v : V} {x : D} {t : String} (e : Ex F H) (h : Rdv F H v x) (ht : tyName x = some t) : TyX K H v (.type t) := by
  cases x with
  | none => cases rdv_non h; cases ht; exact .base .non
  | bool b => cases rdv_bl h; cases ht; exact .base (.bl b)
  | int i => cases rdv_int h; cases ht; exact .base (.int i)
  | str i => cases rdv_str h; cases ht; exact .base (.str i)
  | list xs =>
    obtain ⟨p, vs, rfl, h1, h2⟩ := h.list e
    cases ht
    rcases h1 with h1 | ⟨o, h1⟩
    · exact .base (.lst h1)
    · exact .base (.frz h1)
  | tuple xs =>
    obtain ⟨p, vs, rfl, h1, h2⟩ := h.tuple
    cases ht
    exact .base (.tup (e _ _ h1))
  | dict _ => cases ht
/-- what isinstance tells of data -/
def isTy (T : String) : D → Option Bool
  | .none => some (T == "NoneType")
  | .bool _ => some (T == "bool" || T == "int")
  | .int _ => some (T == "int")
  | .str _ => some (T == "str")
  | .list _ => some (T == "list")
  | .tuple _ => some (T == "tuple")
  | .dict _ => none
def Plain (T : String) : Prop := ∀ x b, isTy T x = some b → ∃ t, tyName x = some t ∧ kitB t T = some b
theorem plain_of {T : String} (h1 : kitB "NoneType" T = some (T == "NoneType")) (h2 : kitB "bool" T = some (T == "bool" || T == "int")) (h3 : kitB "int" T = some (T == "int")) (h4 : kitB "str" T = some (T == "str"))
    (h5 : kitB "list" T = some (T == "list")) (h6 : kitB "tuple" T = some (T == "tuple")) : Plain T := by
  intro x b e
  cases x with
  | none => cases e; exact ⟨_, rfl, h1⟩
  | bool _ => cases e; exact ⟨_, rfl, h2⟩
  | int _ => cases e; exact ⟨_, rfl, h3⟩
  | str _ => cases e; exact ⟨_, rfl, h4⟩
  | list _ => cases e; exact ⟨_, rfl, h5⟩
  | tuple _ => cases e; exact ⟨_, rfl, h6⟩
  | dict _ => cases e
theorem plain_int : Plain "int" := plain_of (by decide +kernel) (by decide +kernel) (by decide +kernel) (by decide +kernel) (by decide +kernel) (by decide +kernel)
theorem plain_bool : Plain "bool" := plain_of (by decide +kernel) (by decide +kernel) (by decide +kernel) (by decide +kernel) (by decide +kernel) (by decide +kernel)
theorem plain_str : Plain "str" := plain_of (by decide +kernel) (by decide +kernel) (by decide +kernel) (by decide +kernel) (by decide +kernel) (by decide +kernel)
theorem plain_list : Plain "list" := plain_of (by decide +kernel) (by decide +kernel) (by decide +kernel) (by decide +kernel) (by decide +kernel) (by decide +kernel)
theorem plain_tuple : Plain "tuple" := plain_of (by decide +kernel) (by decide +kernel) (by decide +kernel) (by decide +kernel) (by decide +kernel) (by decide +kernel)
theorem plain_dict : Plain "dict" := plain_of (by decide +kernel) (by decide +kernel) (by decide +kernel) (by decide +kernel) (by decide +kernel) (by decide +kernel)
def gIsi (T : String) : D → Option R := fun x => (isTy T x).map fun b => .d (.bool b)
def gIsi2 (T U : String) : D → Option R := fun x => match isTy T x, isTy U x with
  | some b, some c => some (.d (.bool (b || c)))
  | _, _ => none
theorem ev_isi {K : PySem.W.Frag} {T : String} {te : TE} {m : M R} (hT : Plain T) (h : EvR te m) : EvR (tCB (rIsi K) (tCons te (tCons (tC (.ty T)) tNil))) (sUn (gIsi T) m) := by
  refine ev_k (te := te) (k := fun x H Q => rIsi K [x, .ty T] H Q) h ?_
  intro par B F0 F H σ ρ v x z e S hv Q q
  unfold gIsi at e
  cases e1 : isTy T x with
  | none => rw [e1] at e; cases e
  | some b =>
    rw [e1] at e
    cases e
    obtain ⟨t, h1, h2⟩ := hT x b e1
    exact ⟨v, .ty T, .type t, .type T, b, rfl, .ty T, rdv_ty S.fh hv h1, kit_ty h2, q_flat S (.bl _) q⟩
theorem ev_isi2 {K : PySem.W.Frag} {T U : String} {te : TE} {m : M R} (hT : Plain T) (hU : Plain U) (h : EvR te m) : EvR (tCB (rIsiT K) (tCons te (tCons (tTup (tCons (tC (.ty T)) (tCons (tC (.ty U)) tNil))) tNil))) (sUn (gIsi2 T U) m) := by
  refine ev_k (te := te) (k := fun x H Q => (2 ≤ sizeLine ∧ ∀ p, H p = none → rIsiT K [x, .ref p] (upd H p (.tup [.ty T, .ty U])) Q)) h ?_
  intro par B F0 F H σ ρ v x z e S hv Q q
  unfold gIsi2 at e
  split at e
  · rename_i b c e1 e2
    cases e
    obtain ⟨t, h1, h2⟩ := hT x b e1
    obtain ⟨t', k1, k2⟩ := hU x c e2
    rw [h1] at k1
    cases k1
    refine ⟨by decide, fun p hp => ?_⟩
    have ty : TyX K (upd H p (.tup [.ty T, .ty U])) v (.type t) := by
      have hv2 : Rdv F (upd H p (.tup [.ty T, .ty U])) v x := by
        rcases hv with h | ⟨a, vs, xs, rfl, rfl, h1, h2⟩
        · exact .inl h
        · exact .inr ⟨a, vs, xs, rfl, rfl, Ex.new hp _ _ h1, h2⟩
      exact rdv_ty (S.fh.trans (Ex.new hp)) hv2 h1
    refine ⟨v, p, [.ty T, .ty U], .type t, [.type T, .type U], b || c, rfl, upd_same, .cons (.ty T) (.cons (.ty U) .nil), ty, ?_, ?_⟩
    · refine kitAny_cons (kit_ty h2) (fun eb => ?_) fun eb => by rw [eb]; rfl
      refine kitAny_cons (kit_ty k2) (fun ec => ?_) fun ec => by rw [ec, Bool.or_true]
      rw [eb, ec]
      exact kitAny_nil
    · exact q _ F _ (Ex.refl F) (S.newL hp) (.bl _)
  · cases e
end Pu

set_option Elab.async false
set_option linter.all false
set_option maxRecDepth 100000
set_option maxHeartbeats 2000000
namespace Pu
open PySem PySem.Spec PyProof.Rows L2

/-! ### slices -/
def EvO (t : TO) (m : M (Option Int)) : Prop := ∀ (par : L2.St) (B F0 F H : Hp) (σ : L2.St) (ρ : Rho) (o : Option Int) (ρ' : Rho), m ρ = some (o, ρ') → Sta par B F0 F H σ ρ →
  ∀ Q : Option Int → Hp → Prop, (∀ F' H', Ex F F' → Sta par B F0 F' H' σ ρ' → Q o H') → t σ H Q
def oNone : M (Option Int) := fun ρ => some (none, ρ)
def oSome (m : M R) : M (Option Int) := fun ρ => match m ρ with
  | some (.d (.int i), ρ1) => some (some i, ρ1)
  | _ => none
theorem eo_none : EvO tNoPart oNone := by
  intro par B F0 F H σ ρ o ρ' e S Q q
  cases e
  exact q F H (Ex.refl F) S
theorem eo_some {te : TE} {m : M R} (h : EvR te m) : EvO (tPart te) (oSome m) := by
  intro par B F0 F H σ ρ o ρ' e S Q q
  unfold oSome at e
  split at e
  · rename_i i ρ1 e1
    cases e
    refine h par B F0 F H σ ρ _ ρ' e1 S _ fun v F1 H1 x1 S1 h1 => ?_
    cases h1
    exact ⟨i, rfl, q F1 H1 x1 S1⟩
  · cases e
abbrev R3 := V → Option Int → Option Int → Hp → VK → Prop
def SlS (r : R3) (g : D → Option Int → Option Int → Option R) : Prop := ∀ (par : L2.St) (B F0 F H : Hp) (σ : L2.St) (ρ : Rho) (v : V) (x : D) (lo hi : Option Int) (z : R), g x lo hi = some z → Sta par B F0 F H σ ρ → Rdv F H v x →
  ∀ Q : VK, (∀ u F' H', Ex F F' → Sta par B F0 F' H' σ ρ → RRep B F' H' σ ρ u z → Q u H') → r v lo hi H Q
def sSl (g : D → Option Int → Option Int → Option R) (a : M R) (l h : M (Option Int)) : M R := fun ρ => match a ρ with
  | none => none
  | some (r, ρ1) => match l ρ1 with
    | none => none
    | some (lo, ρ2) => match h ρ2 with
      | none => none
      | some (hi, ρ3) => match rd ρ3 r with
        | none => none
        | some x => (g x lo hi).map fun z => (z, ρ3)
theorem ev_sl {te : TE} {tl th : TO} {r : R3} {g : D → Option Int → Option Int → Option R} {a : M R} {l h : M (Option Int)} (hr : SlS r g) (ha : EvR te a) (hl : EvO tl l) (hh : EvO th h) : EvR (tSl r te tl th) (sSl g a l h) := by
  intro par B F0 F H σ ρ z ρ' e S Q q
  unfold sSl at e
  split at e
  · cases e
  · rename_i r1 ρ1 e1
    split at e
    · cases e
    · rename_i lo ρ2 e2
      split at e
      · cases e
      · rename_i hi ρ3 e3
        split at e
        · cases e
        · rename_i x e4
          cases e5 : g x lo hi with
          | none => rw [e5] at e; cases e
          | some z' =>
            rw [e5] at e
            cases e
            refine ha par B F0 F H σ ρ r1 ρ1 e1 S _ fun v F1 H1 x1 S1 h1 => ?_
            refine hl par (gd B H1 v r1) F0 F1 H1 σ ρ1 lo ρ2 e2 (guardR S1 h1) _ fun F2 H2 x2 S2 => ?_
            refine hh par (gd B H1 v r1) F0 F2 H2 σ ρ2 hi ρ' e3 S2 _ fun F3 H3 x3 S3 => ?_
            obtain ⟨S4, h4⟩ := gd_lift S1 h1 (x2.trans x3) S3
            exact hr par B F0 F3 H3 σ ρ' v x lo hi z e5 S4 (rrep_rd S4 h4 e4) Q fun u F5 H5 x5 S5 h5 => q u F5 H5 (((x1.trans x2).trans x3).trans x5) S5 h5
def cutD (xs : List D) (lo hi : Option Int) : List D := (xs.drop (HT.sIx xs.length 0 lo)).take (HT.sIx xs.length xs.length hi - HT.sIx xs.length 0 lo)
theorem cut_rp {F : Hp} {vs : List V} {xs : List D} (h : RpAll F vs xs) (lo hi : Option Int) : RpAll F (cutV vs lo hi) (cutD xs lo hi) := by
  unfold cutV cutD
  rw [h.length]
  exact (h.drop _).take _
def gSl : D → Option Int → Option Int → Option R
  | .list xs, lo, hi => some (.own (cutD xs lo hi))
  | .tuple xs, lo, hi => some (.d (.tuple (cutD xs lo hi)))
  | _, _, _ => none
theorem cut_whole {xs : List D} {lo hi : Option Int} (h : HT.sIx xs.length 0 lo = 0 ∧ HT.sIx xs.length xs.length hi = xs.length) : cutD xs lo hi = xs := by
  unfold cutD
  rw [h.1, h.2, Nat.sub_zero, List.drop_zero, List.take_length]
theorem ss_seq {K : PySem.W.Frag} : SlS (fun x lo hi H Q => rSlL K x lo hi H Q ∨ rSlA K x lo hi H Q) gSl := by
  intro par B F0 F H σ ρ v x lo hi z e S hv Q q
  unfold gSl at e
  split at e
  · cases e
    obtain ⟨p, vs, rfl, h1, h2⟩ := hv.list S.fh
    exact .inl ⟨p, vs, rfl, .inl h1, fun n hn => q (.ref n) F _ (Ex.refl F) (S.newL hn) (newL_rep S hn (cut_rp h2 _ _))⟩
  · cases e
    obtain ⟨p, vs, rfl, h1, h2⟩ := hv.tuple
    refine .inr ⟨p, vs, rfl, .inl (.inl (S.fh _ _ h1)), fun w => ?_, fun _ n hn => q (.ref n) _ _ (Ex.new (S.fh.back hn)) (S.newT hn) (newT_rep S hn (cut_rp h2 _ _))⟩
    rw [h2.length] at w
    rw [cut_whole w] at q
    exact q_flat S (.tup h1 h2) q
  · cases e
/-! ### targets -/
def EvG (g : TG) (m : D → Rho → Option Rho) (js : List Nat) : Prop := ∀ (par : L2.St) (B F0 F H : Hp) (σ : L2.St) (ρ : Rho) (v : V) (x : D) (ρ' : Rho), m x ρ = some ρ' → Sta par B F0 F H σ ρ → Rp F v x →
  ∀ Q : L2.St → Hp → Prop, (∀ σ', Sta par B F0 F H σ' ρ' → (∀ vs, (∀ j ∈ js, j ∈ vs) → wipe σ' vs = wipe σ vs) → Q σ' H) → g v σ H Q
def setC (i : Nat) (c : C) (ρ : Rho) : Option Rho := match ρ[i]? with
  | some (some (.arg _)) => none
  | some _ => some (ρ.set i (some c))
  | none => none
theorem setC_inv {i : Nat} {c : C} {ρ ρ' : Rho} (e : setC i c ρ = some ρ') : i < ρ.length ∧ ρ' = ρ.set i (some c) ∧ ∀ xs, ρ[i]? ≠ some (some (.arg xs)) := by
  unfold setC at e
  split at e
  · cases e
  · rename_i o hn hi
    cases e
    refine ⟨?_, rfl, fun xs hx => ?_⟩
    · exact (List.getElem?_eq_some_iff.mp hi).1
    · exact hn xs (Option.some.inj (hi.symm.trans hx))
  · cases e
theorem Sta.setC {par : L2.St} {B F0 F H : Hp} {σ : L2.St} {ρ ρ' : Rho} (S : Sta par B F0 F H σ ρ) {i : Nat} {v : V} {c : C} (e : setC i c ρ = some ρ') (hc : CRep B F H v c) (ap : c.isOwn = true → Apart σ ρ v) (hna : ∀ xs, c ≠ .arg xs) : Sta par B F0 F H (σ.set i (some v)) ρ' := by
  obtain ⟨hi, rfl, hn⟩ := setC_inv e
  have hs : i < σ.length := by rw [S.len]; exact hi
  refine ⟨by rw [List.length_set, List.length_set]; exact S.len, S.f0, S.fh, S.bh, S.lim, fun j c' hj => ?_, fun j k c1 c2 u hj hk o1 o2 hu hw => ?_, fun j xs hj => ?_⟩
  · rcases set_get hj with ⟨rfl, e'⟩ | ⟨hne, hj⟩
    · cases e'
      exact ⟨v, List.getElem?_set_self hs, hc⟩
    · obtain ⟨w, hw, cr⟩ := S.rep j c' hj
      exact ⟨w, by rw [List.getElem?_set_ne (fun z => hne z.symm)]; exact hw, cr⟩
  · rcases set_get hj with ⟨rfl, e1⟩ | ⟨n1, hj⟩
    · cases e1
      rcases set_get hk with ⟨rfl, e2⟩ | ⟨n2, hk⟩
      · rfl
      · rw [List.getElem?_set_self hs] at hu
        rw [List.getElem?_set_ne (fun z => n2 z.symm)] at hw
        cases hu
        exact absurd hw (ap o1 k c2 hk o2)
    · rcases set_get hk with ⟨ek, e2⟩ | ⟨n2, hk⟩
      · cases e2
        rw [ek, List.getElem?_set_self hs] at hw
        rw [List.getElem?_set_ne (fun z => n1 z.symm)] at hu
        cases hw
        exact absurd hu (ap o2 j c1 hj o1)
      · rw [List.getElem?_set_ne (fun z => n1 z.symm)] at hu
        rw [List.getElem?_set_ne (fun z => n2 z.symm)] at hw
        exact S.sep j k c1 c2 u hj hk o1 o2 hu hw
  · rcases set_get hj with ⟨rfl, e1⟩ | ⟨n1, hj⟩
    · cases e1
      exact absurd rfl (hna xs)
    · rw [List.getElem?_set_ne (fun z => n1 z.symm)]
      exact S.par j xs hj
theorem wipe_get {σ : L2.St} {i : Nat} : ∀ {vs : List Nat}, i ∈ vs → i < σ.length → (wipe σ vs)[i]? = some none
  | [], h, _ => by cases h
  | v :: vs, h, hl => by
    unfold wipe
    by_cases e : v = i
    · subst e
      rw [List.getElem?_set_self (by rw [wipe_length]; exact hl)]
    · rw [List.getElem?_set_ne e]
      rcases List.mem_cons.mp h with h | h
      · exact absurd h.symm e
      · exact wipe_get h hl
theorem wipe_ext {σ τ : L2.St} {vs : List Nat} (hl : σ.length = τ.length) (h : ∀ j, j ∉ vs → σ[j]? = τ[j]?) : wipe σ vs = wipe τ vs := by
  apply List.ext_getElem?
  intro j
  by_cases hj : j ∈ vs
  · by_cases hb : j < σ.length
    · rw [wipe_get hj hb, wipe_get hj (by omega)]
    · rw [List.getElem?_eq_none (by rw [wipe_length]; omega), List.getElem?_eq_none (by rw [wipe_length]; omega)]
  · rw [wipe_out hj, wipe_out hj]
    exact h j hj
theorem wipe_set {σ : L2.St} {i : Nat} {o : Option V} {vs : List Nat} (h : i ∈ vs) : wipe (σ.set i o) vs = wipe σ vs :=
  wipe_ext (by rw [List.length_set]) fun j hj => List.getElem?_set_ne fun e => hj (by rw [← e]; exact h)
theorem wipe_wipe {σ : L2.St} {vs : List Nat} : wipe (wipe σ vs) vs = wipe σ vs :=
  wipe_ext (wipe_length _ _) fun j hj => wipe_out hj
def gN (i : Nat) (x : D) : Rho → Option Rho := setC i (.d x)
theorem eg_name {i : Nat} : EvG (gName i) (gN i) [i] := by
  intro par B F0 F H σ ρ v x ρ' e S h Q q
  exact q _ (S.setC e h (fun z => by cases z) fun xs z => by cases z) fun vs hv => wipe_set (hv i List.mem_cons_self)
def EvGs (g : TGs) (m : List D → Rho → Option Rho) (js : List Nat) : Prop := ∀ (par : L2.St) (B F0 F H : Hp) (σ : L2.St) (ρ : Rho) (vs : List V) (xs : List D) (ρ' : Rho), m xs ρ = some ρ' → Sta par B F0 F H σ ρ → RpAll F vs xs →
  ∀ Q : L2.St → Hp → Prop, (∀ σ', Sta par B F0 F H σ' ρ' → (∀ vs, (∀ j ∈ js, j ∈ vs) → wipe σ' vs = wipe σ vs) → Q σ' H) → g vs σ H Q
def gsNil (xs : List D) (ρ : Rho) : Option Rho := match xs with
  | [] => some ρ
  | _ => none
def gsCons (a : D → Rho → Option Rho) (b : List D → Rho → Option Rho) (xs : List D) (ρ : Rho) : Option Rho := match xs with
  | x :: xs => (match a x ρ with
    | none => none
    | some ρ1 => b xs ρ1)
  | [] => none
theorem egs_nil : EvGs gNil gsNil [] := by
  intro par B F0 F H σ ρ vs xs ρ' e S h Q q
  unfold gsNil at e
  split at e
  · cases e
    cases h
    exact ⟨rfl, q σ S fun _ _ => rfl⟩
  · cases e
theorem egs_cons {g : TG} {gs : TGs} {a : D → Rho → Option Rho} {b : List D → Rho → Option Rho} {js ks : List Nat} (ha : EvG g a js) (hb : EvGs gs b ks) : EvGs (gCons g gs) (gsCons a b) (js ++ ks) := by
  intro par B F0 F H σ ρ vs xs ρ' e S h Q q
  cases xs with
  | nil => cases e
  | cons x xs =>
    simp only [gsCons] at e
    cases e1 : a x ρ with
    | none => rw [e1] at e; cases e
    | some ρ1 =>
      simp only [e1] at e
      cases h with
      | cons h t =>
        refine ⟨_, _, rfl, ha par B F0 F H σ ρ _ x ρ1 e1 S h _ fun σ1 S1 w1 => ?_⟩
        refine hb par B F0 F H σ1 ρ1 _ xs ρ' e S1 t _ fun σ2 S2 w2 => ?_
        exact q σ2 S2 fun vs hv => (w2 vs fun j hj => hv j (List.mem_append_right _ hj)).trans (w1 vs fun j hj => hv j (List.mem_append_left _ hj))
def gT (n : Nat) (m : List D → Rho → Option Rho) (x : D) (ρ : Rho) : Option Rho := match x with
  | .tuple xs => if xs.length = n then m xs ρ else none
  | _ => none
theorem eg_tup {K : PySem.W.Frag} {n : Nat} {gs : TGs} {m : List D → Rho → Option Rho} {js : List Nat} (h : EvGs gs m js) : EvG (gTup K n gs) (gT n m) js := by
  intro par B F0 F H σ ρ v x ρ' e S hv Q q
  unfold gT at e
  split at e
  · split at e
    · rename_i xs hl
      cases hv with
      | tup h1 h2 => exact ⟨_, _, rfl, .inl (.inl (S.fh _ _ h1)), by rw [h2.length]; exact hl, h par B F0 F H σ ρ _ xs ρ' e S h2 Q q⟩
    · cases e
  · cases e
/-! ### what is walked -/
/-- J walks xs: its items are frozen, or pairs that are new -/
def Walk (F : Hp) (J : It) (xs : List D) : Prop := ∀ (i : Nat) (F' H' : Hp), Ex F F' → Ex F' H' →
  (xs.length ≤ i → J.stop i H') ∧ (∀ d, xs[i]? = some d → J.go i H' ∧ ∀ x H'', J.yld i H' x H'' → (H'' = H' ∧ Rp F' x d) ∨ ∃ T vs ds, x = .ref T ∧ H' T = none ∧ H'' = upd H' T (.tup vs) ∧ d = .tuple ds ∧ RpAll F' vs ds)
def EvI (wi : TI) (m : M (List D)) : Prop := ∀ (par : L2.St) (B F0 F H : Hp) (σ : L2.St) (ρ : Rho) (xs : List D) (ρ' : Rho), m ρ = some (xs, ρ') → Sta par B F0 F H σ ρ →
  ∀ R : It → Hp → Prop, (∀ J F' H', Ex F F' → Sta par B F0 F' H' σ ρ' → Walk F' J xs → R J H') → wi σ H R
/-- a frozen list or tuple -/
def sFz (m : M R) : M D := fun ρ => match m ρ with
  | none => none
  | some (r, ρ1) => fz ρ1 r
def iSq (m : M R) : M (List D) := fun ρ => match sFz m ρ with
  | some (.list xs, ρ1) => some (xs, ρ1)
  | some (.tuple xs, ρ1) => some (xs, ρ1)
  | _ => none
theorem walk_list {K : PySem.W.Frag} {F : Hp} {a : Addr} {vs : List V} {xs : List D} (h : Rd F a (.lst vs)) (r : RpAll F vs xs) : Walk F (Itl K a) xs := by
  intro i F' H' x1 x2
  have hs : SqL K H' a vs := .inl (x2.rd (x1.rd h))
  refine ⟨fun hi => ⟨vs, hs, by rw [r.length]; exact hi⟩, fun d hd => ?_⟩
  obtain ⟨v, hv, rv⟩ := r.get hd
  refine ⟨⟨vs, v, hs, hv⟩, fun x H'' y => ?_⟩
  obtain ⟨rfl, y⟩ := y
  have e : vs[i]? = some x := y vs hs
  rw [hv] at e
  cases e
  exact .inl ⟨rfl, Rp.up rv x1⟩
theorem walk_tup {K : PySem.W.Frag} {F : Hp} {a : Addr} {vs : List V} {xs : List D} (h : F a = some (.tup vs)) (r : RpAll F vs xs) : Walk F (Itt K a) xs := by
  intro i F' H' x1 x2
  have hs : SqT K H' a vs := .inl (.inl (x2 _ _ (x1 _ _ h)))
  refine ⟨fun hi => ⟨vs, hs, by rw [r.length]; exact hi⟩, fun d hd => ?_⟩
  obtain ⟨v, hv, rv⟩ := r.get hd
  refine ⟨⟨vs, v, hs, hv⟩, fun x H'' y => ?_⟩
  obtain ⟨rfl, y⟩ := y
  have e : vs[i]? = some x := y vs hs
  rw [hv] at e
  cases e
  exact .inl ⟨rfl, Rp.up rv x1⟩
theorem ev_fz {te : TE} {m : M R} (h : EvR te m) {par : L2.St} {B F0 F H : Hp} {σ : L2.St} {ρ : Rho} {x : D} {ρ' : Rho} (e : sFz m ρ = some (x, ρ')) (S : Sta par B F0 F H σ ρ) {Q : VK}
    (q : ∀ v F' H', Ex F F' → Sta par B F0 F' H' σ ρ' → Rp F' v x → Q v H') : te σ H Q := by
  unfold sFz at e
  split at e
  · cases e
  · rename_i r ρ1 e1
    refine h par B F0 F H σ ρ r ρ1 e1 S _ fun v F1 H1 x1 S1 h1 => ?_
    obtain ⟨F2, x2, S2, r2, _⟩ := fz_ok S1 h1 e
    exact q v F2 H1 (x1.trans x2) S2 r2
/-- either kind -/
def iEither (w w' : TI) : TI := fun σ H R => w σ H R ∨ w' σ H R
theorem pi_either {X : Cx} {tg e : Expr} {w w' : TI} (h : PI X tg e w) (h' : PI X tg e w') : PI X tg e (iEither w w') := ⟨fun pins s σ H R I q => by
  rcases q with q | q
  · exact h.run pins s σ H R I q
  · exact h'.run pins s σ H R I q⟩
theorem ei_sq {K : PySem.W.Frag} {te : TE} {m : M R} (h : EvR te m) : EvI (iEither (iList K te) (iTup K te)) (iSq m) := by
  intro par B F0 F H σ ρ xs ρ' e S R q
  unfold iSq at e
  split at e
  · rename_i ys ρ1 e1
    cases e
    refine .inl (ev_fz h e1 S fun v F' H' x1 S1 r1 => ?_)
    cases r1 with
    | lst h1 h2 => exact ⟨_, rfl, ⟨_, .inl (S1.fh.rd h1)⟩, q _ F' H' x1 S1 (walk_list h1 h2)⟩
  · rename_i ys ρ1 e1
    cases e
    refine .inr (ev_fz h e1 S fun v F' H' x1 S1 r1 => ?_)
    cases r1 with
    | tup h1 h2 => exact ⟨_, rfl, ⟨_, .inl (.inl (S1.fh _ _ h1))⟩, q _ F' H' x1 S1 (walk_tup h1 h2)⟩
  · cases e
/-- the signs of a text -/
def signs (x : Str) : List D := x.cps.toList.map fun c => .str ⟨#[c]⟩
/-- range(n), range(a, b) -/
def rng (lo : Int) (n : Nat) : List D := (List.range n).map fun i => .int (lo + (i : Nat))
def iR1 (m : M R) : M (List D) := fun ρ => match m ρ with
  | some (.d (.int n), ρ1) => if -(2 ^ 62) ≤ n ∧ n < 2 ^ 62 then some (rng 0 n.toNat, ρ1) else none
  | _ => none
def iR2 (a b : M R) : M (List D) := fun ρ => match a ρ with
  | some (.d (.int i), ρ1) => (match b ρ1 with
    | some (.d (.int j), ρ2) => if (-(2 ^ 62) ≤ i ∧ i < 2 ^ 62) ∧ -(2 ^ 62) ≤ j ∧ j < 2 ^ 62 then some (rng i (j - i).toNat, ρ2) else none
    | _ => none)
  | _ => none
theorem walk_rng {F : Hp} {lo : Int} {n : Nat} : Walk F (Itr lo n) (rng lo n) := by
  intro i F' H' x1 x2
  refine ⟨fun hi => by unfold rng at hi; rw [List.length_map, List.length_range] at hi; exact hi, fun d hd => ?_⟩
  unfold rng at hd
  rw [List.getElem?_map] at hd
  by_cases hi : i < n
  · rw [List.getElem?_range hi] at hd
    cases hd
    refine ⟨hi, fun x H'' y => ?_⟩
    obtain ⟨rfl, rfl⟩ := y
    exact .inl ⟨rfl, .int _⟩
  · rw [List.getElem?_eq_none (by rw [List.length_range]; omega)] at hd
    cases hd
theorem ei_r1 {te : TE} {m : M R} (h : EvR te m) : EvI (iRng1 (tCons te tNil)) (iR1 m) := by
  intro par B F0 F H σ ρ xs ρ' e S R q
  unfold iR1 at e
  split at e
  · rename_i n ρ1 e1
    split at e
    · rename_i hb
      cases e
      refine h par B F0 F H σ ρ _ ρ' e1 S _ fun v F1 H1 x1 S1 h1 => ?_
      cases h1
      exact ⟨n, rfl, hb.1, hb.2, q _ F1 H1 x1 S1 walk_rng⟩
    · cases e
  · cases e
theorem ei_r2 {ta tb : TE} {a b : M R} (ha : EvR ta a) (hb : EvR tb b) : EvI (iRng2 (tCons ta (tCons tb tNil))) (iR2 a b) := by
  intro par B F0 F H σ ρ xs ρ' e S R q
  unfold iR2 at e
  split at e
  · rename_i i ρ1 e1
    split at e
    · rename_i j ρ2 e2
      split at e
      · rename_i hz
        cases e
        refine ha par B F0 F H σ ρ _ ρ1 e1 S _ fun v F1 H1 x1 S1 h1 => ?_
        refine hb par B F0 F1 H1 σ ρ1 _ ρ' e2 S1 _ fun w F2 H2 x2 S2 h2 => ?_
        cases h1
        cases h2
        exact ⟨i, j, rfl, ⟨hz.1.1, hz.1.2, hz.2.1, hz.2.2⟩, q _ F2 H2 (x1.trans x2) S2 walk_rng⟩
      · cases e
    · cases e
  · cases e
/-- enumerate of a list -/
def enm (xs : List D) : List D := (xs.zipIdx).map fun p => .tuple [.int (p.2 : Nat), p.1]
def iEn (m : M R) : M (List D) := fun ρ => match sFz m ρ with
  | some (.list xs, ρ1) => some (enm xs, ρ1)
  | _ => none
theorem enm_get {xs : List D} {i : Nat} {d : D} (h : (enm xs)[i]? = some d) : ∃ x, xs[i]? = some x ∧ d = .tuple [.int (i : Nat), x] := by
  unfold enm at h
  rw [List.getElem?_map, List.getElem?_zipIdx] at h
  cases hx : xs[i]? with
  | none => rw [hx] at h; cases h
  | some x =>
    rw [hx] at h
    cases h
    exact ⟨x, rfl, by rw [Nat.zero_add]⟩
theorem ei_en {K : PySem.W.Frag} {te : TE} {m : M R} (h : EvR te m) : EvI (iEnum K (tCons te tNil)) (iEn m) := by
  intro par B F0 F H σ ρ xs ρ' e S R q
  unfold iEn at e
  split at e
  · rename_i ys ρ1 e1
    cases e
    refine ev_fz h e1 S fun v F' H' x1 S1 r1 => ?_
    cases r1 with
    | lst h1 h2 =>
      rename_i a vs
      refine ⟨a, vs, rfl, .inl (S1.fh.rd h1), q _ F' H' x1 S1 ?_⟩
      intro i F2 H2 k1 k2
      have hs : SqL K H2 a vs := .inl (k2.rd (k1.rd h1))
      refine ⟨fun hi => ⟨vs, hs, by unfold enm at hi; rw [List.length_map, List.length_zipIdx] at hi; rw [h2.length]; exact hi⟩, fun d hd => ?_⟩
      obtain ⟨y, hy, rfl⟩ := enm_get hd
      obtain ⟨u, hu, ru⟩ := h2.get hy
      refine ⟨⟨vs, u, hs, hu⟩, fun x H'' yl => ?_⟩
      obtain ⟨T, z, rfl, nT, rfl, hz⟩ := yl
      have ez : vs[i]? = some z := hz vs hs
      rw [hu] at ez
      cases ez
      exact .inr ⟨T, _, _, rfl, nT, rfl, rfl, .cons (.int _) (.cons (Rp.up ru k1) .nil)⟩
  · cases e
/-- zip of two lists, of two tuples -/
def zp (xs ys : List D) : List D := (xs.zip ys).map fun p => .tuple [p.1, p.2]
def iZp (m : M (List R)) : M (List D) := fun ρ => match m ρ with
  | none => none
  | some (rs, ρ1) => match fzs ρ1 rs with
    | some ([.list xs, .list ys], ρ2) => some (zp xs ys, ρ2)
    | some ([.tuple xs, .tuple ys], ρ2) => some (zp xs ys, ρ2)
    | _ => none
theorem zp_get {xs ys : List D} {i : Nat} {d : D} (h : (zp xs ys)[i]? = some d) : ∃ x y, xs[i]? = some x ∧ ys[i]? = some y ∧ d = .tuple [x, y] := by
  unfold zp at h
  rw [List.getElem?_map] at h
  cases hx : (xs.zip ys)[i]? with
  | none => rw [hx] at h; cases h
  | some p =>
    rw [hx] at h
    cases h
    obtain ⟨h1, h2⟩ := List.getElem?_zip_eq_some.mp hx
    exact ⟨p.1, p.2, h1, h2, rfl⟩
theorem zp_len {xs ys : List D} {i : Nat} (h : (zp xs ys).length ≤ i) : xs.length ≤ i ∨ ys.length ≤ i := by
  unfold zp at h
  rw [List.length_map, List.length_zip] at h
  omega
theorem ei_zp {K : PySem.W.Frag} {t : TA} {m : M (List R)} (h : EvA t m) : EvI (RZ.iZipA K t) (iZp m) := by
  intro par B F0 F H σ ρ xs ρ' e S R q
  unfold iZp at e
  split at e
  · cases e
  · rename_i rs ρ1 e1
    refine h par B F0 F H σ ρ rs ρ1 e1 S _ fun vs F1 H1 x1 S1 h1 => ?_
    split at e
    · rename_i as bs ρ2 e2
      cases e
      obtain ⟨F2, x2, S2, r2⟩ := fzs_ok S1 h1 e2
      cases r2 with
      | cons ra rt =>
        cases rt with
        | cons rb rt =>
          cases rt
          cases ra with
          | lst a1 a2 =>
            cases rb with
            | lst b1 b2 =>
              refine ⟨_, _, _, _, rfl, .inl ⟨.inl (S2.fh.rd a1), .inl (S2.fh.rd b1), q _ F2 H1 (x1.trans x2) S2 ?_⟩⟩
              intro i F3 H3 k1 k2
              have sa : SqL K H3 _ _ := .inl (k2.rd (k1.rd a1))
              have sb : SqL K H3 _ _ := .inl (k2.rd (k1.rd b1))
              refine ⟨fun hi => ⟨_, _, sa, sb, by rw [a2.length, b2.length]; exact zp_len hi⟩, fun d hd => ?_⟩
              obtain ⟨x, y, hx, hy, rfl⟩ := zp_get hd
              obtain ⟨u, hu, ru⟩ := a2.get hx
              obtain ⟨w, hw, rw_⟩ := b2.get hy
              refine ⟨⟨_, _, u, w, sa, sb, hu, hw⟩, fun z H'' yl => ?_⟩
              obtain ⟨T, u', w', rfl, nT, rfl, hu', hw'⟩ := yl
              have e1 := (hu' _ sa).symm.trans hu
              have e2 := (hw' _ sb).symm.trans hw
              cases e1
              cases e2
              exact .inr ⟨T, _, _, rfl, nT, rfl, rfl, .cons (Rp.up ru k1) (.cons (Rp.up rw_ k1) .nil)⟩
    · rename_i as bs ρ2 e2
      cases e
      obtain ⟨F2, x2, S2, r2⟩ := fzs_ok S1 h1 e2
      cases r2 with
      | cons ra rt =>
        cases rt with
        | cons rb rt =>
          cases rt
          cases ra with
          | tup a1 a2 =>
            cases rb with
            | tup b1 b2 =>
              refine ⟨_, _, _, _, rfl, .inr ⟨.inl (.inl (S2.fh _ _ a1)), .inl (.inl (S2.fh _ _ b1)), q _ F2 H1 (x1.trans x2) S2 ?_⟩⟩
              intro i F3 H3 k1 k2
              have sa : SqT K H3 _ _ := .inl (.inl (k2 _ _ (k1 _ _ a1)))
              have sb : SqT K H3 _ _ := .inl (.inl (k2 _ _ (k1 _ _ b1)))
              refine ⟨fun hi => ⟨_, _, sa, sb, by rw [a2.length, b2.length]; exact zp_len hi⟩, fun d hd => ?_⟩
              obtain ⟨x, y, hx, hy, rfl⟩ := zp_get hd
              obtain ⟨u, hu, ru⟩ := a2.get hx
              obtain ⟨w, hw, rw_⟩ := b2.get hy
              refine ⟨⟨_, _, u, w, sa, sb, hu, hw⟩, fun z H'' yl => ?_⟩
              obtain ⟨T, u', w', rfl, nT, rfl, hu', hw'⟩ := yl
              have e1 := (hu' _ sa).symm.trans hu
              have e2 := (hw' _ sb).symm.trans hw
              cases e1
              cases e2
              exact .inr ⟨T, _, _, rfl, nT, rfl, rfl, .cons (Rp.up ru k1) (.cons (Rp.up rw_ k1) .nil)⟩
    · cases e
end Pu

set_option Elab.async false
set_option linter.all false
set_option maxRecDepth 100000
set_option maxHeartbeats 2000000
namespace Pu
open PySem PySem.Spec PyProof.Rows L2

/-! ### forgetting slots -/
def wipeR (ρ : Rho) : List Nat → Rho
  | [] => ρ
  | v :: vs => (wipeR ρ vs).set v none
theorem wipeR_length (ρ : Rho) : ∀ vs : List Nat, (wipeR ρ vs).length = ρ.length
  | [] => rfl
  | v :: vs => by unfold wipeR; rw [List.length_set, wipeR_length ρ vs]
theorem wipeR_get {ρ : Rho} {i : Nat} {c : C} : ∀ {vs : List Nat}, (wipeR ρ vs)[i]? = some (some c) → ρ[i]? = some (some c) ∧ i ∉ vs
  | [], h => ⟨h, by simp⟩
  | v :: vs, h => by
    unfold wipeR at h
    rcases set_get h with ⟨_, e⟩ | ⟨hne, h⟩
    · cases e
    · obtain ⟨h1, h2⟩ := wipeR_get h
      exact ⟨h1, fun m => by
        rcases List.mem_cons.mp m with m | m
        · exact hne m
        · exact h2 m⟩
theorem wipeR_keep {ρ : Rho} {i : Nat} {c : C} (h : ρ[i]? = some (some c)) : ∀ {vs : List Nat}, i ∉ vs → (wipeR ρ vs)[i]? = some (some c)
  | [], _ => h
  | v :: vs, hn => by
    unfold wipeR
    rw [List.getElem?_set_ne fun e => hn (by rw [e]; exact List.mem_cons_self)]
    exact wipeR_keep h fun m => hn (List.mem_cons_of_mem _ m)
/-- a state seen by fewer slots, over slots that agree there -/
theorem Sta.less {par : L2.St} {B F0 F H : Hp} {σ τ : L2.St} {ρ π : Rho} (S : Sta par B F0 F H σ ρ) (hl : τ.length = π.length) (h : ∀ (i : Nat) c, π[i]? = some (some c) → ρ[i]? = some (some c) ∧ τ[i]? = σ[i]?) : Sta par B F0 F H τ π := by
  refine ⟨hl, S.f0, S.fh, S.bh, S.lim, fun i c hi => ?_, fun i j c e v hi hj hc he hv hw => ?_, fun i xs hi => ?_⟩
  · obtain ⟨h1, h2⟩ := h i c hi
    rw [h2]
    exact S.rep i c h1
  · obtain ⟨h1, h2⟩ := h i c hi
    obtain ⟨k1, k2⟩ := h j e hj
    rw [h2] at hv
    rw [k2] at hw
    exact S.sep i j c e v h1 k1 hc he hv hw
  · obtain ⟨h1, h2⟩ := h i _ hi
    rw [h2]
    exact S.par i xs h1
theorem Sta.wipe {par : L2.St} {B F0 F H : Hp} {σ : L2.St} {ρ : Rho} (S : Sta par B F0 F H σ ρ) (vs : List Nat) : Sta par B F0 F H (wipe σ vs) (wipeR ρ vs) :=
  S.less (by rw [wipe_length, wipeR_length]; exact S.len) fun i c h => by
    obtain ⟨h1, h2⟩ := wipeR_get h
    exact ⟨h1, wipe_out h2⟩
/-- back from a block -/
theorem Sta.unwipe {par : L2.St} {B F0 F H : Hp} {σ τ : L2.St} {ρ : Rho} {vs : List Nat} (S : Sta par B F0 F H τ ρ) (hl : σ.length = ρ.length) (hw : L2.wipe τ vs = L2.wipe σ vs) : Sta par B F0 F H σ (wipeR ρ vs) :=
  S.less (by rw [wipeR_length]; exact hl) fun i c h => by
    obtain ⟨h1, h2⟩ := wipeR_get h
    refine ⟨h1, ?_⟩
    have e1 : (L2.wipe τ vs)[i]? = τ[i]? := wipe_out h2
    have e2 : (L2.wipe σ vs)[i]? = σ[i]? := wipe_out h2
    rw [← e1, ← e2, hw]

/-! ### comprehensions -/
def goLc (vs : List Nat) (g : D → Rho → Option Rho) (t : M Bool) (e : M R) : List D → List D → Rho → Option (List D × Rho)
  | [], acc, ρ => some (acc, ρ)
  | x :: xs, acc, ρ => match g x ρ with
    | none => none
    | some ρ1 => match t ρ1 with
      | none => none
      | some (false, ρ2) => goLc vs g t e xs acc (wipeR ρ2 vs)
      | some (true, ρ2) => match sFz e ρ2 with
        | none => none
        | some (y, ρ3) => if acc.length < big then goLc vs g t e xs (acc ++ [y]) (wipeR ρ3 vs) else none
def sLc (vs : List Nat) (i : M (List D)) (g : D → Rho → Option Rho) (t : M Bool) (e : M R) : M R := fun ρ => match i ρ with
  | none => none
  | some (xs, ρ1) => match goLc vs g t e xs [] (wipeR ρ1 vs) with
    | none => none
    | some (ys, ρ2) => some (.own ys, ρ2)
theorem et_yes : EvT tYes (fun ρ => some (true, ρ)) := by
  intro par B F0 F H σ ρ b ρ' e S Q q
  cases e
  exact q F H (Ex.refl F) S
/-- one turn's new pair on the frozen part -/
theorem Sta.pair {par : L2.St} {B F0 F H H' : Hp} {σ : L2.St} {ρ : Rho} {x : V} {d : D} (S : Sta par B F0 F H σ ρ) (h : (H' = H ∧ Rp F x d) ∨ ∃ T vs ds, x = .ref T ∧ H T = none ∧ H' = upd H T (.tup vs) ∧ d = .tuple ds ∧ RpAll F vs ds) :
    ∃ F', Ex F F' ∧ Sta par B F0 F' H' σ ρ ∧ Rp F' x d := by
  rcases h with ⟨rfl, r⟩ | ⟨T, vs, ds, rfl, hT, rfl, rfl, r⟩
  · exact ⟨F, Ex.refl F, S, r⟩
  · exact ⟨_, Ex.new (S.fh.back hT), S.newT hT, newT_rep S hT r⟩
theorem ev_lc {wi : TI} {g : TG} {tt : TT} {te : TE} {vs js : List Nat} {i : M (List D)} {gm : D → Rho → Option Rho} {t : M Bool} {e : M R} (hi : EvI wi i) (hg : EvG g gm js) (hj : ∀ j ∈ js, j ∈ vs) (ht : EvT tt t) (he : EvR te e) :
    EvR (tLc wi g tt te vs) (sLc vs i gm t e) := by
  intro par B F0 F H σ ρ z ρ' ee S Q q
  unfold sLc at ee
  split at ee
  · cases ee
  · rename_i xs ρ1 e1
    split at ee
    · cases ee
    · rename_i ys ρ2 e2
      cases ee
      refine hi par B F0 F H σ ρ xs ρ1 e1 S _ fun J F1 H1 x1 S1 wk => ?_
      intro p hp
      -- the invariant: the list so far, what is left
      refine ⟨fun n m H2 => ∃ F2 acc vacc ρ2, m = xs.length - n ∧ n ≤ xs.length ∧ Ex F1 F2 ∧ Sta par (upd B p (.lst vacc)) F0 F2 H2 σ ρ2 ∧ RpAll F2 vacc acc ∧ wipeR ρ2 vs = ρ2 ∧ goLc vs gm t e (xs.drop n) acc ρ2 = some (ys, ρ'), ⟨xs.length, F1, [], [], wipeR ρ1 vs, by simp, Nat.zero_le _, Ex.refl _, ?_, .nil, ?_, by rw [List.drop_zero]; exact e2⟩, ?_⟩
      · have S2 : Sta par B F0 F1 (upd H1 p (.lst [])) σ (wipeR ρ1 vs) := (S1.newL hp).less (by rw [wipeR_length]; exact S1.len) fun i c h => ⟨(wipeR_get h).1, rfl⟩
        have r : RRep B F1 (upd H1 p (.lst [])) σ (wipeR ρ1 vs) (.ref p) (.own []) := by
          obtain ⟨p', ep, ow, ap⟩ := newL_rep (xs := []) S1 hp .nil
          exact ⟨p', ep, ow, fun i c h ho => ap i c (wipeR_get h).1 ho⟩
        obtain ⟨p', ep, ⟨_, h1, h2, h3, _⟩, ap⟩ := r
        cases ep
        rw [upd_same] at h3
        cases h3
        exact S2.guard h1 h2 upd_same ap
      · apply List.ext_getElem?
        intro j
        have idem : ∀ (π : Rho) (ws : List Nat) (j : Nat), j ∈ ws → j < π.length → (wipeR π ws)[j]? = some none := by
          intro π ws
          induction ws with
          | nil => intro j h; cases h
          | cons w ws ih =>
            intro j h hl
            unfold wipeR
            by_cases ew : w = j
            · subst ew
              rw [List.getElem?_set_self (by rw [wipeR_length]; exact hl)]
            · rw [List.getElem?_set_ne ew]
              rcases List.mem_cons.mp h with h | h
              · exact absurd h.symm ew
              · exact ih j h hl
        have out : ∀ (π : Rho) (ws : List Nat) (j : Nat), j ∉ ws → (wipeR π ws)[j]? = π[j]? := by
          intro π ws
          induction ws with
          | nil => intro j _; rfl
          | cons w ws ih =>
            intro j h
            unfold wipeR
            rw [List.getElem?_set_ne fun e => h (by rw [e]; exact List.mem_cons_self)]
            exact ih j fun m => h (List.mem_cons_of_mem _ m)
        by_cases hjv : j ∈ vs
        · by_cases hl : j < ρ1.length
          · rw [idem _ _ _ hjv (by rw [wipeR_length]; exact hl), idem _ _ _ hjv hl]
          · rw [List.getElem?_eq_none (by rw [wipeR_length, wipeR_length]; omega), List.getElem?_eq_none (by rw [wipeR_length]; omega)]
        · exact out _ _ _ hjv
      · rintro n m H2 ⟨F2, acc, vacc, ρ2, rfl, hn, x2, S2, ra, hw, eg⟩
        have hB : B p = none := S1.bh.back hp
        have hF0 : F0 p = none := (S1.f0.trans S1.fh).back hp
        by_cases hlt : n < xs.length
        · obtain ⟨d, hd⟩ : ∃ d, xs[n]? = some d := ⟨xs[n], List.getElem?_eq_getElem hlt⟩
          have hdrop : xs.drop n = d :: xs.drop (n + 1) := by
            rw [List.drop_eq_getElem_cons hlt]
            rw [List.getElem?_eq_getElem hlt] at hd
            cases hd
            rfl
          rw [hdrop] at eg
          unfold goLc at eg
          obtain ⟨_, wk2⟩ := wk n F2 H2 x2 S2.fh
          obtain ⟨go, yl⟩ := wk2 d hd
          refine .inr ⟨go, fun H5 => ∃ F5 acc5 vacc5 ρ5, Ex F1 F5 ∧ Sta par (upd B p (.lst vacc5)) F0 F5 H5 σ ρ5 ∧ RpAll F5 vacc5 acc5 ∧ wipeR ρ5 vs = ρ5 ∧ goLc vs gm t e (xs.drop (n + 1)) acc5 ρ5 = some (ys, ρ'), fun H5 ⟨F5, acc5, vacc5, ρ5, a1, a2, a3, a4, a5⟩ => ⟨xs.length - (n + 1), by omega, F5, acc5, vacc5, ρ5, rfl, hlt, a1, a2, a3, a4, a5⟩, fun x H3 y3 => ?_⟩
          obtain ⟨F3, x3, S3, r3⟩ := S2.pair (yl x H3 y3)
          split at eg
          · cases eg
          · rename_i ρ3 e3
            have S3w : Sta par (upd B p (.lst vacc)) F0 F3 H3 (wipe σ vs) ρ2 := by
              have := S3.wipe vs
              rw [hw] at this
              exact this
            refine hg par _ F0 F3 H3 (wipe σ vs) ρ2 x d ρ3 e3 S3w r3 _ fun σ4 S4 w4 => ?_
            have w5 : L2.wipe σ4 vs = L2.wipe σ vs := (w4 vs hj).trans wipe_wipe
            refine ⟨w5, ?_⟩
            -- from a state of the block to the next turn
            have idem2 : ∀ π : Rho, wipeR (wipeR π vs) vs = wipeR π vs := fun π => by
              apply List.ext_getElem?
              intro j
              have idem : ∀ (ws : List Nat) (π : Rho) (j : Nat), j ∈ ws → j < π.length → (wipeR π ws)[j]? = some none := by
                intro ws
                induction ws with
                | nil => intro _ j h; cases h
                | cons w ws ih =>
                  intro π j h hl
                  unfold wipeR
                  by_cases ew : w = j
                  · subst ew
                    rw [List.getElem?_set_self (by rw [wipeR_length]; exact hl)]
                  · rw [List.getElem?_set_ne ew]
                    rcases List.mem_cons.mp h with h | h
                    · exact absurd h.symm ew
                    · exact ih π j h hl
              have out : ∀ (ws : List Nat) (π : Rho) (j : Nat), j ∉ ws → (wipeR π ws)[j]? = π[j]? := by
                intro ws
                induction ws with
                | nil => intro _ j _; rfl
                | cons w ws ih =>
                  intro π j h
                  unfold wipeR
                  rw [List.getElem?_set_ne fun e => h (by rw [e]; exact List.mem_cons_self)]
                  exact ih π j fun m => h (List.mem_cons_of_mem _ m)
              by_cases hjv : j ∈ vs
              · by_cases hl : j < π.length
                · rw [idem _ _ _ hjv (by rw [wipeR_length]; exact hl), idem _ _ _ hjv hl]
                · rw [List.getElem?_eq_none (by rw [wipeR_length, wipeR_length]; omega), List.getElem?_eq_none (by rw [wipeR_length]; omega)]
              · exact out _ _ _ hjv
            have nxt : ∀ {F5 H5 : Hp} {ρ5 : Rho} {vc : List V}, Sta par (upd B p (.lst vc)) F0 F5 H5 σ4 ρ5 → Sta par (upd B p (.lst vc)) F0 F5 H5 σ (wipeR ρ5 vs) := fun {F5 H5 ρ5 vc} S5 => S5.unwipe (by rw [← S5.len, ← wipe_length σ4 vs, w5, wipe_length]) w5
            split at eg
            · cases eg
            · rename_i ρ4 e4
              refine ht par _ F0 F3 H3 σ4 ρ3 false ρ4 e4 S4 _ fun F4 H4 x4 S5 => ?_
              rw [if_neg Bool.false_ne_true]
              exact ⟨F4, acc, vacc, _, (x2.trans x3).trans x4, nxt S5, (ra.up x3).up x4, idem2 _, eg⟩
            · rename_i ρ4 e4
              refine ht par _ F0 F3 H3 σ4 ρ3 true ρ4 e4 S4 _ fun F4 H4 x4 S5 => ?_
              rw [if_pos rfl]
              split at eg
              · cases eg
              · rename_i yv ρ5 e5
                split at eg
                · rename_i hz
                  refine ev_fz he e5 S5 fun w F6 H6 x6 S6 r6 => ?_
                  have hD : H6 p = some (.lst vacc) := S6.bh _ _ upd_same
                  have ra6 : RpAll F6 vacc acc := ((ra.up x3).up x4).up x6
                  refine ⟨vacc, hD, by rw [ra6.length]; exact Nat.lt_of_lt_of_le hz big_line, F6, acc ++ [yv], vacc ++ [w], wipeR ρ5 vs, ((x2.trans x3).trans x4).trans x6, ?_, ra6.append (.cons r6 .nil), idem2 _, eg⟩
                  -- the list has grown
                  obtain ⟨g1, g2, g3⟩ := S6.guarded hF0
                  have U : Sta par B F0 F6 (upd H6 p (.lst (vacc ++ [w]))) σ4 ρ5 := by
                    have V := S6.unguard hB
                    refine ⟨V.len, V.f0, V.fh.mut g1, V.bh.mut hB, V.lim, fun i c hc => ?_, V.sep, V.par⟩
                    obtain ⟨u, hu, cr⟩ := V.rep i c hc
                    refine ⟨u, hu, cr.up (Ex.refl _) (fun q eq ho => ?_) fun q ws eq ho hq => ?_⟩
                    · subst eq
                      obtain ⟨q', ws, eq, k1, _, _⟩ := cr.ownB ho
                      cases eq
                      exact k1
                    · subst eq
                      have hne : q ≠ p := fun ez => g3 i c hc ho (by rw [hu, ez])
                      rw [upd_ne hne]
                      exact hq
                  exact nxt (U.guard g1 hB upd_same g3)
                · cases eg
        · have en : n = xs.length := by omega
          subst en
          rw [List.drop_length] at eg
          cases eg
          obtain ⟨wk1, _⟩ := wk xs.length F2 H2 x2 S2.fh
          refine .inl ⟨wk1 (Nat.le_refl _), ?_⟩
          obtain ⟨g1, g2, g3⟩ := S2.guarded hF0
          exact q (.ref p) F2 H2 (x1.trans x2) (S2.unguard hB) ⟨p, rfl, ⟨vacc, g1, hB, g2, ra⟩, g3⟩
end Pu

set_option Elab.async false
set_option linter.all false
set_option maxRecDepth 100000
set_option maxHeartbeats 2000000
namespace Pu
open PySem PySem.Spec PyProof.Rows L2

inductive Res where
  | nx (ρ : Rho)
  | rt (r : R) (ρ : Rho)
  | bk (ρ : Rho)
  | ct (ρ : Rho)
def Post (par : L2.St) (B F0 F : Hp) (D : Ends) : Res → Prop
  | .nx ρ => ∀ σ F' H', Ex F F' → Sta par B F0 F' H' σ ρ → D.nx σ H'
  | .rt r ρ => ∀ v σ F' H', Ex F F' → Sta par B F0 F' H' σ ρ → RRep B F' H' σ ρ v r → D.rt v H'
  | .bk ρ => ∀ σ F' H', Ex F F' → Sta par B F0 F' H' σ ρ → D.bk σ H'
  | .ct ρ => ∀ σ F' H', Ex F F' → Sta par B F0 F' H' σ ρ → D.ct σ H'
abbrev MS := Rho → Option Res
def EvS (t : TS) (m : MS) : Prop := ∀ (par : L2.St) (B F0 F H : Hp) (σ : L2.St) (ρ : Rho) (res : Res), m ρ = some res → Sta par B F0 F H σ ρ → ∀ D : Ends, Post par B F0 F D res → t D σ H
theorem Post.up {par : L2.St} {B F0 F F' : Hp} {D : Ends} {res : Res} (x : Ex F F') (h : Post par B F0 F D res) : Post par B F0 F' D res := by
  cases res with
  | nx ρ => exact fun σ F2 H2 e S => h σ F2 H2 (x.trans e) S
  | rt r ρ => exact fun v σ F2 H2 e S q => h v σ F2 H2 (x.trans e) S q
  | bk ρ => exact fun σ F2 H2 e S => h σ F2 H2 (x.trans e) S
  | ct ρ => exact fun σ F2 H2 e S => h σ F2 H2 (x.trans e) S
/-! ### blocks -/
def zNext : MS := fun ρ => some (.nx ρ)
def zSeq (a b : MS) : MS := fun ρ => match a ρ with
  | some (.nx ρ1) => b ρ1
  | o => o
theorem es_next : EvS tNext zNext := by
  intro par B F0 F H σ ρ res e S D q
  cases e
  exact q σ F H (Ex.refl F) S
theorem es_seq {t u : TS} {a b : MS} (ha : EvS t a) (hb : EvS u b) : EvS (tSeq t u) (zSeq a b) := by
  intro par B F0 F H σ ρ res e S D q
  unfold zSeq at e
  split at e
  · rename_i ρ1 e1
    refine ha par B F0 F H σ ρ _ e1 S { D with nx := u D } fun σ1 F1 H1 x1 S1 => ?_
    exact hb par B F0 F1 H1 σ1 ρ1 res e S1 D (q.up x1)
  · rename_i o hn
    cases res with
    | nx ρ1 => exact absurd e (hn ρ1)
    | rt r ρ1 => exact ha par B F0 F H σ ρ _ e S { D with nx := u D } q
    | bk ρ1 => exact ha par B F0 F H σ ρ _ e S { D with nx := u D } q
    | ct ρ1 => exact ha par B F0 F H σ ρ _ e S { D with nx := u D } q
def zBreak : MS := fun ρ => some (.bk ρ)
def zCont : MS := fun ρ => some (.ct ρ)
theorem es_break : EvS tBreak zBreak := by
  intro par B F0 F H σ ρ res e S D q
  cases e
  exact q σ F H (Ex.refl F) S
theorem es_cont : EvS tCont zCont := by
  intro par B F0 F H σ ρ res e S D q
  cases e
  exact q σ F H (Ex.refl F) S
def zRet (m : M R) : MS := fun ρ => match m ρ with
  | none => none
  | some (r, ρ1) => some (.rt r ρ1)
theorem es_ret {te : TE} {m : M R} (h : EvR te m) : EvS (tRet te) (zRet m) := by
  intro par B F0 F H σ ρ res e S D q
  unfold zRet at e
  split at e
  · cases e
  · rename_i r ρ1 e1
    cases e
    exact h par B F0 F H σ ρ r ρ1 e1 S D.rt fun v F1 H1 x1 S1 h1 => q v σ F1 H1 x1 S1 h1
def zRetN : MS := fun ρ => some (.rt (.d .none) ρ)
theorem es_retN : EvS tRetN zRetN := by
  intro par B F0 F H σ ρ res e S D q
  cases e
  exact q _ σ F H (Ex.refl F) S .non
def zIf (c : M Bool) (a b : MS) : MS := fun ρ => match c ρ with
  | none => none
  | some (true, ρ1) => a ρ1
  | some (false, ρ1) => b ρ1
theorem es_if {t : TT} {u w : TS} {c : M Bool} {a b : MS} (hc : EvT t c) (ha : EvS u a) (hb : EvS w b) : EvS (tIfS t u w) (zIf c a b) := by
  intro par B F0 F H σ ρ res e S D q
  unfold zIf at e
  split at e
  · cases e
  · rename_i ρ1 e1
    refine hc par B F0 F H σ ρ _ ρ1 e1 S _ fun F1 H1 x1 S1 => ?_
    rw [if_pos rfl]
    exact ha par B F0 F1 H1 σ ρ1 res e S1 D (q.up x1)
  · rename_i ρ1 e1
    refine hc par B F0 F H σ ρ _ ρ1 e1 S _ fun F1 H1 x1 S1 => ?_
    rw [if_neg Bool.false_ne_true]
    exact hb par B F0 F1 H1 σ ρ1 res e S1 D (q.up x1)
def zDrop (m : M R) : MS := fun ρ => match m ρ with
  | none => none
  | some (_, ρ1) => some (.nx ρ1)
theorem es_drop {te : TE} {m : M R} (h : EvR te m) : EvS (tDrop te) (zDrop m) := by
  intro par B F0 F H σ ρ res e S D q
  unfold zDrop at e
  split at e
  · cases e
  · rename_i r ρ1 e1
    cases e
    exact h par B F0 F H σ ρ r ρ1 e1 S _ fun v F1 H1 x1 S1 h1 => q σ F1 H1 x1 S1
/-! ### assignments -/
/-- a result as a slot's content -/
def cv (ρ : Rho) : R → Option (C × Rho)
  | .d x => some (.d x, ρ)
  | .own xs => some (.own xs, ρ)
  | .sl i => (fz ρ (.sl i)).map fun p => (.d p.1, p.2)
def zSet (i : Nat) (m : M R) : MS := fun ρ => match m ρ with
  | none => none
  | some (r, ρ1) => match cv ρ1 r with
    | none => none
    | some (c, ρ2) => (setC i c ρ2).map .nx
theorem cv_ok {par : L2.St} {B F0 F H : Hp} {σ : L2.St} {ρ ρ' : Rho} {v : V} {r : R} {c : C} (S : Sta par B F0 F H σ ρ) (h : RRep B F H σ ρ v r) (e : cv ρ r = some (c, ρ')) :
    ∃ F', Ex F F' ∧ Sta par B F0 F' H σ ρ' ∧ CRep B F' H v c ∧ (c.isOwn = true → Apart σ ρ' v) ∧ ∀ xs, c ≠ .arg xs := by
  cases r with
  | d x =>
    cases e
    exact ⟨F, Ex.refl F, S, h, (fun z => nomatch z), (fun _ z => nomatch z)⟩
  | own xs =>
    cases e
    obtain ⟨p, rfl, ow, ap⟩ := h
    exact ⟨F, Ex.refl F, S, ⟨p, rfl, ow⟩, fun _ => ap, (fun _ z => nomatch z)⟩
  | sl i =>
    unfold cv at e
    simp only at e
    cases e1 : fz ρ (.sl i) with
    | none => rw [e1] at e; cases e
    | some p =>
      obtain ⟨x, ρ1⟩ := p
      rw [e1] at e
      cases e
      obtain ⟨F', x1, S1, r1, _⟩ := fz_ok S h e1
      exact ⟨F', x1, S1, r1, (fun z => nomatch z), (fun _ z => nomatch z)⟩
theorem es_set {i : Nat} {te : TE} {m : M R} (h : EvR te m) : EvS (tAsg te (gName i)) (zSet i m) := by
  intro par B F0 F H σ ρ res e S D q
  unfold zSet at e
  split at e
  · cases e
  · rename_i r ρ1 e1
    split at e
    · cases e
    · rename_i c ρ2 e2
      cases e3 : setC i c ρ2 with
      | none => rw [e3] at e; cases e
      | some ρ3 =>
        rw [e3] at e
        cases e
        refine h par B F0 F H σ ρ r ρ1 e1 S _ fun v F1 H1 x1 S1 h1 => ?_
        obtain ⟨F2, x2, S2, c2, ap, na⟩ := cv_ok S1 h1 e2
        exact q _ F2 H1 (x1.trans x2) (S2.setC e3 c2 ap na)
/-- a target of any form, the value frozen -/
def zAsg (m : M R) (g : D → Rho → Option Rho) : MS := fun ρ => match sFz m ρ with
  | none => none
  | some (x, ρ1) => (g x ρ1).map .nx
theorem es_asg {te : TE} {m : M R} {g : TG} {gm : D → Rho → Option Rho} {js : List Nat} (h : EvR te m) (hg : EvG g gm js) : EvS (tAsg te g) (zAsg m gm) := by
  intro par B F0 F H σ ρ res e S D q
  unfold zAsg at e
  split at e
  · cases e
  · rename_i x ρ1 e1
    cases e3 : gm x ρ1 with
    | none => rw [e3] at e; cases e
    | some ρ3 =>
      rw [e3] at e
      cases e
      refine ev_fz h e1 S fun v F1 H1 x1 S1 r1 => ?_
      exact hg par B F0 F1 H1 σ ρ1 v x ρ3 e3 S1 r1 _ fun σ' S2 _ => q σ' F1 H1 x1 S2
/-- a, b = x, y -/
def zPar (i j : Nat) (m : M (List R)) : MS := fun ρ => match m ρ with
  | some ([r, s], ρ1) => (match cv ρ1 r with
    | none => none
    | some (c, ρ2) => match cv ρ2 s with
      | none => none
      | some (d, ρ3) => match setC i c ρ3 with
        | none => none
        | some ρ4 => (setC j d ρ4).map .nx)
  | _ => none
theorem cv_keep {par : L2.St} {B F0 F H : Hp} {σ : L2.St} {ρ ρ' : Rho} {v : V} {r : R} {c : C} (S : Sta par B F0 F H σ ρ) (h : RRep B F H σ ρ v r) (e : cv ρ r = some (c, ρ')) :
    ∃ F', Ex F F' ∧ Sta par B F0 F' H σ ρ' ∧ CRep B F' H v c ∧ (c.isOwn = true → Apart σ ρ' v) ∧ (∀ xs, c ≠ .arg xs) ∧ (∀ xs, c = .own xs → r = .own xs) ∧ ∀ w s, RRep B F H σ ρ w s → RRep B F' H σ ρ' w s := by
  cases r with
  | d x =>
    cases e
    exact ⟨F, Ex.refl F, S, h, (fun z => nomatch z), (fun _ z => nomatch z), (fun _ z => nomatch z), fun w s hs => hs⟩
  | own xs =>
    cases e
    obtain ⟨p, rfl, ow, ap⟩ := h
    exact ⟨F, Ex.refl F, S, ⟨p, rfl, ow⟩, fun _ => ap, fun _ z => (nomatch z), fun ys z => by cases z; rfl, fun w s hs => hs⟩
  | sl i =>
    unfold cv at e
    simp only at e
    cases e1 : fz ρ (.sl i) with
    | none => rw [e1] at e; cases e
    | some p =>
      obtain ⟨x, ρ1⟩ := p
      rw [e1] at e
      cases e
      obtain ⟨F', x1, S1, r1, k⟩ := fz_ok S h e1
      exact ⟨F', x1, S1, r1, (fun z => nomatch z), (fun _ z => nomatch z), (fun _ z => nomatch z), fun w s hs => k w s (fun xs ys er _ => (nomatch er)) hs⟩
theorem es_par {i j : Nat} {t : TA} {m : M (List R)} (hij : i ≠ j) (h : EvA t m) : EvS (tPar i j t) (zPar i j m) := by
  intro par B F0 F H σ ρ res e S D q
  unfold zPar at e
  split at e
  · rename_i r s ρ1 e1
    split at e
    · cases e
    · rename_i c ρ2 e2
      split at e
      · cases e
      · rename_i d ρ3 e3
        split at e
        · cases e
        · rename_i ρ4 e4
          cases e5 : setC j d ρ4 with
          | none => rw [e5] at e; cases e
          | some ρ5 =>
            rw [e5] at e
            cases e
            refine h par B F0 F H σ ρ _ ρ1 e1 S _ fun vs F1 H1 x1 S1 h1 => ?_
            obtain ⟨hp, hn⟩ := h1
            cases hp with
            | cons hv ht =>
              cases ht with
              | cons hw ht =>
                cases ht
                rename_i v w
                obtain ⟨F2, x2, S2, c2, ap2, na2, ow2, k2⟩ := cv_keep S1 hv e2
                obtain ⟨F3, x3, S3, d3, ap3, na3, ow3, k3⟩ := cv_keep S2 (k2 w s hw) e3
                have ap2' : c.isOwn = true → Apart σ ρ3 v := fun ho => by
                  cases c with
                  | d x => cases ho
                  | arg xs => exact absurd rfl (na2 xs)
                  | own xs =>
                    have er := ow2 xs rfl
                    subst er
                    obtain ⟨p, ep, _, ap⟩ := k3 v _ (k2 v _ hv)
                    exact ap
                have c3 : CRep B F3 H1 v c := by
                  cases c with
                  | d x => exact Rp.up c2 x3
                  | arg xs => exact absurd rfl (na2 xs)
                  | own xs =>
                    have er := ow2 xs rfl
                    subst er
                    obtain ⟨p, ep, ow, _⟩ := k3 v _ (k2 v _ hv)
                    exact ⟨p, ep, ow⟩
                have S4 := S3.setC e4 c3 ap2' na2
                obtain ⟨hi4, rfl, _⟩ := setC_inv e4
                have S5 := S4.setC e5 d3 (fun ho => ?_) na3
                · refine ⟨v, w, rfl, ?_⟩
                  exact q _ F3 H1 ((x1.trans x2).trans x3) S5
                · -- the second stands apart from the first
                  intro k c' hk ho' hs
                  rcases set_get hk with ⟨rfl, ek⟩ | ⟨hne, hk⟩
                  · cases ek
                    have hl : k < σ.length := by rw [S3.len]; exact hi4
                    rw [List.getElem?_set_self hl] at hs
                    cases hs
                    cases c with
                    | d x => cases ho'
                    | arg xs => exact absurd rfl (na2 xs)
                    | own xs =>
                      cases d with
                      | d x => cases ho
                      | arg xs => exact absurd rfl (na3 xs)
                      | own ys =>
                        have er := ow2 xs rfl
                        have es := ow3 ys rfl
                        subst er es
                        exact hn.1 xs rfl 0 ys rfl rfl
                  · rw [List.getElem?_set_ne (fun z => hne z.symm)] at hs
                    exact ap3 ho k c' hk ho' hs
  · cases e
/-! ### lists of one's own -/
def C.xs : C → Option (List D)
  | .d _ => none
  | .own xs => some xs
  | .arg xs => some xs
def C.put (c : C) (ys : List D) : C := match c with
  | .d x => .d x
  | .own _ => .own ys
  | .arg _ => .arg ys
theorem Sta.mut {par : L2.St} {B F0 F H : Hp} {σ : L2.St} {ρ : Rho} (S : Sta par B F0 F H σ ρ) {i : Nat} {c : C} {xs : List D} (hi : ρ[i]? = some (some c)) (hc : c.xs = some xs) :
    ∃ p vs, σ[i]? = some (some (.ref p)) ∧ H p = some (.lst vs) ∧ RpAll F vs xs ∧ ∀ (ws : List V) (ys : List D), RpAll F ws ys → Sta par B F0 F (upd H p (.lst ws)) σ (ρ.set i (some (c.put ys))) := by
  obtain ⟨v, hv, cr⟩ := S.rep i c hi
  have ho : c.isOwn = true := by cases c with | d x => cases hc | own _ => rfl | arg _ => rfl
  obtain ⟨p, vs, rfl, h1, h2, h3, h4⟩ : ∃ p vs, v = .ref p ∧ F p = none ∧ B p = none ∧ H p = some (.lst vs) ∧ RpAll F vs xs := by
    cases c with
    | d x => cases hc
    | own _ => cases hc; obtain ⟨p, rfl, vs, a, b, c, d⟩ := cr; exact ⟨p, vs, rfl, a, b, c, d⟩
    | arg _ => cases hc; obtain ⟨p, rfl, vs, a, b, c, d⟩ := cr; exact ⟨p, vs, rfl, a, b, c, d⟩
  refine ⟨p, vs, hv, h3, h4, fun ws ys hw => ⟨by rw [List.length_set]; exact S.len, S.f0, S.fh.mut h1, S.bh.mut h2, S.lim, fun j e hj => ?_, fun j k e e' u hj hk o1 o2 hu hu' => ?_, fun j zs hj => ?_⟩⟩
  · rcases set_get hj with ⟨rfl, ej⟩ | ⟨hne, hj⟩
    · cases ej
      refine ⟨_, hv, ?_⟩
      cases c with
      | d x => cases hc
      | own _ => exact ⟨p, rfl, ws, h1, h2, upd_same, hw⟩
      | arg _ => exact ⟨p, rfl, ws, h1, h2, upd_same, hw⟩
    · obtain ⟨u, hu, cr⟩ := S.rep j e hj
      refine ⟨u, hu, cr.up (Ex.refl _) (fun q eq ho' => ?_) fun q ts eq ho' hq => ?_⟩
      · subst eq
        obtain ⟨q', _, eq, k1, _, _⟩ := cr.ownB ho'
        cases eq
        exact k1
      · subst eq
        have hqp : q ≠ p := fun ez => by
          subst ez
          exact hne (S.sep j i e c (.ref q) hj hi ho' ho hu hv)
        rw [upd_ne hqp]
        exact hq
  · have back : ∀ {j : Nat} {e : C}, (ρ.set i (some (c.put ys)))[j]? = some (some e) → e.isOwn = true → ∃ e', ρ[j]? = some (some e') ∧ e'.isOwn = true := fun {j e} hj o => by
      rcases set_get hj with ⟨rfl, _⟩ | ⟨_, hj⟩
      · exact ⟨c, hi, ho⟩
      · exact ⟨e, hj, o⟩
    obtain ⟨a, ha, oa⟩ := back hj o1
    obtain ⟨b, hb, ob⟩ := back hk o2
    exact S.sep j k a b u ha hb oa ob hu hu'
  · rcases set_get hj with ⟨rfl, ej⟩ | ⟨_, hj⟩
    · cases c with
      | d x => cases hc
      | own _ => cases ej
      | arg ts => exact S.par j ts hi
    · exact S.par j zs hj
/-- x.append(e), x a slot -/
def sApp (i : Nat) (m : M R) : M R := fun ρ => match (ρ[i]?).join.bind C.xs with
  | none => none
  | some _ => (match sFz m ρ with
    | none => none
    | some (y, ρ1) => match (ρ1[i]?).join with
      | none => none
      | some c => (match c.xs with
        | some xs => if xs.length < big then some (.d .none, ρ1.set i (some (c.put (xs ++ [y])))) else none
        | none => none))
theorem join_some {α : Type} {o : Option (Option α)} {x : α} (h : o.join = some x) : o = some (some x) := by
  cases o with
  | none => cases h
  | some o => cases o with
    | none => cases h
    | some y => cases h; rfl
theorem slot_xs {ρ : Rho} {i : Nat} {xs : List D} (h : (ρ[i]?).join.bind C.xs = some xs) : ∃ c, ρ[i]? = some (some c) ∧ c.xs = some xs := by
  cases e : (ρ[i]?).join with
  | none => rw [e] at h; cases h
  | some c => rw [e] at h; exact ⟨c, join_some e, h⟩
theorem ty_lst {K : PySem.W.Frag} {H : Hp} {p : Addr} {vs : List V} (h : H p = some (.lst vs)) : tyV K "list" (.ref p) H := .inl ⟨rfl, _, .inl (.inl h)⟩
theorem ev_app {K : PySem.W.Frag} {i : Nat} {te : TE} {m : M R} (h : EvR te m) : EvR (tBM K "list" rAppend (tVar i) (tCons te tNil)) (sApp i m) := by
  intro par B F0 F H σ ρ z ρ' e S Q q
  unfold sApp at e
  split at e
  · cases e
  · rename_i xs0 h0
    split at e
    · cases e
    · rename_i y ρ1 e1
      split at e
      · cases e
      · rename_i c hi
        split at e
        · rename_i xs hc
          split at e
          · rename_i hz
            cases e
            obtain ⟨c', hi', hc'⟩ := slot_xs h0
            obtain ⟨p, vs, hv, h3, _, _⟩ := S.mut hi' hc'
            refine ⟨.ref p, hv, ty_lst h3, ?_⟩
            refine ev_fz h e1 S fun w F1 H1 x1 S1 r1 => ?_
            obtain ⟨p', vs', hv', h3', h4', up⟩ := S1.mut (join_some hi) hc
            rw [hv] at hv'
            cases hv'
            refine ⟨p, vs', w, rfl, rfl, h3', by rw [h4'.length]; exact Nat.lt_of_lt_of_le hz big_line, ?_⟩
            exact q .non F1 _ x1 (up _ _ (h4'.append (.cons r1 .nil))) .non
          · cases e
        · cases e
/-- x.pop(e), x a slot -/
def sPop (i : Nat) (m : M R) : M R := fun ρ => match (ρ[i]?).join.bind C.xs with
  | none => none
  | some _ => (match m ρ with
    | some (.d (.int k), ρ1) => (match (ρ1[i]?).join with
      | none => none
      | some c => (match c.xs with
        | some xs => if -(2 ^ 63) ≤ k ∧ k < 2 ^ 63 then (match seqIndex? k xs.length with
          | some n => (match xs[n]? with
            | some y => some (.d y, ρ1.set i (some (c.put (xs.eraseIdx n))))
            | none => none)
          | none => none) else none
        | none => none))
    | _ => none)
theorem RpAll.erase {F : Hp} : ∀ {vs : List V} {xs : List D} (n : Nat), RpAll F vs xs → RpAll F (vs.eraseIdx n) (xs.eraseIdx n)
  | [], [], _, .nil => .nil
  | _ :: _, _ :: _, 0, .cons _ t => t
  | _ :: _, _ :: _, n + 1, .cons h t => .cons h (RpAll.erase n t)
theorem ev_pop {K : PySem.W.Frag} {i : Nat} {te : TE} {m : M R} (h : EvR te m) : EvR (tBM K "list" rPopAt (tVar i) (tCons te tNil)) (sPop i m) := by
  intro par B F0 F H σ ρ z ρ' e S Q q
  unfold sPop at e
  split at e
  · cases e
  · rename_i xs0 h0
    split at e
    · rename_i k ρ1 e1
      split at e
      · cases e
      · rename_i c hi
        split at e
        · rename_i xs hc
          split at e
          · rename_i hz
            split at e
            · rename_i n hn
              split at e
              · rename_i y hy
                cases e
                obtain ⟨c', hi', hc'⟩ := slot_xs h0
                obtain ⟨p, vs, hv, h3, _, _⟩ := S.mut hi' hc'
                refine ⟨.ref p, hv, ty_lst h3, ?_⟩
                refine h par B F0 F H σ ρ _ ρ1 e1 S _ fun w F1 H1 x1 S1 r1 => ?_
                cases r1
                obtain ⟨p', vs', hv', h3', h4', up⟩ := S1.mut (join_some hi) hc
                rw [hv] at hv'
                cases hv'
                obtain ⟨u, hu, ru⟩ := h4'.get hy
                refine ⟨p, vs', k, n, u, rfl, rfl, h3', hz.1, hz.2, by rw [h4'.length]; exact hn, hu, ?_⟩
                exact q u F1 _ x1 (up _ _ (h4'.erase n)) ru
              · cases e
            · cases e
          · cases e
        · cases e
    · cases e
/-- x[i] = e, x a slot -/
def zPut (i : Nat) (mi m : M R) : MS := fun ρ => match sFz m ρ with
  | none => none
  | some (y, ρ1) => (match (ρ1[i]?).join.bind C.xs with
    | none => none
    | some _ => match mi ρ1 with
      | some (.d (.int k), ρ2) => (match (ρ2[i]?).join with
        | none => none
        | some c => (match c.xs with
          | some xs => (match ixN xs.length k with
            | some n => some (.nx (ρ2.set i (some (c.put (xs.set n y)))))
            | none => none)
          | none => none))
      | _ => none)
theorem es_put {i : Nat} {te ti : TE} {m mi : M R} (h : EvR te m) (hi : EvR ti mi) : EvS (tAsg te (L2.gSub (tVar i) ti rSetL)) (zPut i mi m) := by
  intro par B F0 F H σ ρ res e S D q
  unfold zPut at e
  split at e
  · cases e
  · rename_i y ρ1 e1
    split at e
    · cases e
    · rename_i xs0 h0
      split at e
      · rename_i k ρ2 e2
        split at e
        · cases e
        · rename_i c hi2
          split at e
          · rename_i xs hc
            split at e
            · rename_i n hn
              cases e
              refine ev_fz h e1 S fun w F1 H1 x1 S1 r1 => ?_
              obtain ⟨c', hi', hc'⟩ := slot_xs h0
              obtain ⟨p, vs, hv, h3, _, _⟩ := S1.mut hi' hc'
              refine ⟨.ref p, hv, ?_⟩
              refine hi par B F0 F1 H1 σ ρ1 _ ρ2 e2 S1 _ fun u F2 H2 x2 S2 r2 => ?_
              cases r2
              obtain ⟨p', vs', hv', h3', h4', up⟩ := S2.mut (join_some hi2) hc
              rw [hv] at hv'
              cases hv'
              refine ⟨p, vs', k, n, rfl, rfl, h3', by rw [h4'.length]; exact hn, ?_⟩
              exact q σ F2 _ (x1.trans x2) (up _ _ (h4'.set (Rp.up r1 x2) n))
            · cases e
          · cases e
      · cases e
/-! ### loops -/
def goFor (g : D → Rho → Option Rho) (b : MS) : List D → Rho → Option Res
  | [], ρ => some (.nx ρ)
  | x :: xs, ρ => match g x ρ with
    | none => none
    | some ρ1 => match b ρ1 with
      | none => none
      | some (.nx ρ2) => goFor g b xs ρ2
      | some (.ct ρ2) => goFor g b xs ρ2
      | some (.bk ρ2) => some (.nx ρ2)
      | some (.rt r ρ2) => some (.rt r ρ2)
def zFor (i : M (List D)) (g : D → Rho → Option Rho) (b : MS) : MS := fun ρ => match i ρ with
  | none => none
  | some (xs, ρ1) => goFor g b xs ρ1
theorem es_for {wi : TI} {g : TG} {tb : TS} {i : M (List D)} {gm : D → Rho → Option Rho} {b : MS} {js : List Nat} (hi : EvI wi i) (hg : EvG g gm js) (hb : EvS tb b) : EvS (tFor wi g tb) (zFor i gm b) := by
  intro par B F0 F H σ ρ res e S D q
  unfold zFor at e
  split at e
  · cases e
  · rename_i xs ρ1 e1
    refine hi par B F0 F H σ ρ xs ρ1 e1 S _ fun J F1 H1 x1 S1 wk => ?_
    refine ⟨fun n m σ2 H2 => ∃ F2 ρ2, m = xs.length - n ∧ n ≤ xs.length ∧ Ex F1 F2 ∧ Sta par B F0 F2 H2 σ2 ρ2 ∧ goFor gm b (xs.drop n) ρ2 = some res, ⟨xs.length, F1, ρ1, by simp, Nat.zero_le _, Ex.refl _, S1, by rw [List.drop_zero]; exact e⟩, ?_⟩
    rintro n m σ2 H2 ⟨F2, ρ2, rfl, hn, x2, S2, eg⟩
    by_cases hlt : n < xs.length
    · obtain ⟨d, hd⟩ : ∃ d, xs[n]? = some d := ⟨xs[n], List.getElem?_eq_getElem hlt⟩
      have hdrop : xs.drop n = d :: xs.drop (n + 1) := by
        rw [List.drop_eq_getElem_cons hlt]
        rw [List.getElem?_eq_getElem hlt] at hd
        cases hd
        rfl
      rw [hdrop] at eg
      unfold goFor at eg
      obtain ⟨_, wk2⟩ := wk n F2 H2 x2 S2.fh
      obtain ⟨go, yl⟩ := wk2 d hd
      refine .inr ⟨go, fun σ5 H5 => ∃ F5 ρ5, Ex F1 F5 ∧ Sta par B F0 F5 H5 σ5 ρ5 ∧ goFor gm b (xs.drop (n + 1)) ρ5 = some res, fun σ5 H5 ⟨F5, ρ5, a1, a2, a3⟩ => ⟨xs.length - (n + 1), by omega, F5, ρ5, rfl, hlt, a1, a2, a3⟩, fun x H3 y3 => ?_⟩
      obtain ⟨F3, x3, S3, r3⟩ := S2.pair (yl x H3 y3)
      split at eg
      · cases eg
      · rename_i ρ3 e3
        refine hg par _ F0 F3 H3 σ2 ρ2 x d ρ3 e3 S3 r3 _ fun σ4 S4 _ => ?_
        split at eg
        · cases eg
        · rename_i ρ4 e4
          exact hb par B F0 F3 H3 σ4 ρ3 _ e4 S4 _ fun σ5 F5 H5 x5 S5 => ⟨F5, ρ4, (x2.trans x3).trans x5, S5, eg⟩
        · rename_i ρ4 e4
          exact hb par B F0 F3 H3 σ4 ρ3 _ e4 S4 _ fun σ5 F5 H5 x5 S5 => ⟨F5, ρ4, (x2.trans x3).trans x5, S5, eg⟩
        · rename_i ρ4 e4
          cases eg
          exact hb par B F0 F3 H3 σ4 ρ3 _ e4 S4 _ fun σ5 F5 H5 x5 S5 => q σ5 F5 H5 (((x1.trans x2).trans x3).trans x5) S5
        · rename_i r ρ4 e4
          cases eg
          exact hb par B F0 F3 H3 σ4 ρ3 _ e4 S4 _ fun v σ5 F5 H5 x5 S5 h5 => q v σ5 F5 H5 (((x1.trans x2).trans x3).trans x5) S5 h5
    · have en : n = xs.length := by omega
      subst en
      rw [List.drop_length] at eg
      cases eg
      obtain ⟨wk1, _⟩ := wk xs.length F2 H2 x2 S2.fh
      exact .inl ⟨wk1 (Nat.le_refl _), q σ2 F2 H2 (x1.trans x2) S2⟩
/-- a while of at most so many turns -/
def goWh (c : M Bool) (b : MS) : Nat → Rho → Option Res
  | 0, _ => none
  | n + 1, ρ => match c ρ with
    | none => none
    | some (false, ρ1) => some (.nx ρ1)
    | some (true, ρ1) => match b ρ1 with
      | none => none
      | some (.nx ρ2) => goWh c b n ρ2
      | some (.ct ρ2) => goWh c b n ρ2
      | some (.bk ρ2) => some (.nx ρ2)
      | some (.rt r ρ2) => some (.rt r ρ2)
theorem es_while {t : TT} {tb : TS} {c : M Bool} {b : MS} {n : Nat} (hc : EvT t c) (hb : EvS tb b) : EvS (tWhile t tb) (goWh c b n) := by
  intro par B F0 F H σ ρ res e S D q
  refine ⟨fun m σ2 H2 => ∃ F2 ρ2, Ex F F2 ∧ Sta par B F0 F2 H2 σ2 ρ2 ∧ goWh c b m ρ2 = some res, ⟨n, F, ρ, Ex.refl F, S, e⟩, ?_⟩
  rintro m σ2 H2 ⟨F2, ρ2, x2, S2, eg⟩
  cases m with
  | zero => cases eg
  | succ m =>
    unfold goWh at eg
    split at eg
    · cases eg
    · rename_i ρ3 e3
      cases eg
      refine hc par B F0 F2 H2 σ2 ρ2 _ ρ3 e3 S2 _ fun F3 H3 x3 S3 => ?_
      rw [if_neg Bool.false_ne_true]
      exact q σ2 F3 H3 (x2.trans x3) S3
    · rename_i ρ3 e3
      refine hc par B F0 F2 H2 σ2 ρ2 _ ρ3 e3 S2 _ fun F3 H3 x3 S3 => ?_
      rw [if_pos rfl]
      refine ⟨fun σ5 H5 => ∃ F5 ρ5, Ex F F5 ∧ Sta par B F0 F5 H5 σ5 ρ5 ∧ goWh c b m ρ5 = some res, fun σ5 H5 h5 => ⟨m, Nat.lt_succ_self m, h5⟩, ?_⟩
      split at eg
      · cases eg
      · rename_i ρ4 e4
        exact hb par B F0 F3 H3 σ2 ρ3 _ e4 S3 _ fun σ5 F5 H5 x5 S5 => ⟨F5, ρ4, (x2.trans x3).trans x5, S5, eg⟩
      · rename_i ρ4 e4
        exact hb par B F0 F3 H3 σ2 ρ3 _ e4 S3 _ fun σ5 F5 H5 x5 S5 => ⟨F5, ρ4, (x2.trans x3).trans x5, S5, eg⟩
      · rename_i ρ4 e4
        cases eg
        exact hb par B F0 F3 H3 σ2 ρ3 _ e4 S3 _ fun σ5 F5 H5 x5 S5 => q σ5 F5 H5 ((x2.trans x3).trans x5) S5
      · rename_i r ρ4 e4
        cases eg
        exact hb par B F0 F3 H3 σ2 ρ3 _ e4 S3 _ fun v σ5 F5 H5 x5 S5 h5 => q v σ5 F5 H5 ((x2.trans x3).trans x5) S5 h5
end Pu

set_option Elab.async false
set_option linter.all false
set_option maxRecDepth 100000
set_option maxHeartbeats 2000000
namespace Pu
open PySem PySem.Spec PyProof.Rows L2

/-! ### what a def does, by values -/
abbrev FnM := List C → Option (C × List C)
def ARep (F H : Hp) (v : V) : C → Prop
  | .d x => Rp F v x
  | .own _ => False
  | .arg xs => ∃ p vs, v = .ref p ∧ F p = none ∧ H p = some (.lst vs) ∧ RpAll F vs xs
def Lent (vs : List V) (cs : List C) (a : Addr) : Prop := ∃ (i : Nat) (xs : List D), cs[i]? = some (.arg xs) ∧ vs[i]? = some (.ref a)
structure Args (F H : Hp) (vs : List V) (cs : List C) : Prop where
  rep : Paired (ARep F H) vs cs
  nd : ∀ (i j : Nat) (xs ys : List D) (v : V), cs[i]? = some (.arg xs) → cs[j]? = some (.arg ys) → vs[i]? = some v → vs[j]? = some v → i = j
def ResRep (F' H' H : Hp) (v : V) : C → Prop
  | .d x => Rp F' v x
  | .own xs => ∃ p vs, v = .ref p ∧ F' p = none ∧ H p = none ∧ H' p = some (.lst vs) ∧ RpAll F' vs xs
  | .arg _ => False
def spF (fn : FnM) : Sp := fun vs H Q _ => ∃ F cs c cs', Ex F H ∧ Args F H vs cs ∧ fn cs = some (c, cs') ∧
  ∀ v F' H', Ex F F' → Ex F' H' → (∀ a o, H a = some o → ¬ Lent vs cs a → H' a = some o) → (∀ a o, F' a = some o → (∃ o', F a = some o') ∨ H a = none) →
    ResRep F' H' H v c → Paired (ARep F' H') vs cs' → Q v H'

/-! ### from a body -/
def rho0 (n : Nat) (cs : List C) : Rho := cs.map some ++ List.replicate (n - cs.length) none
/-- the lent lists as they are in the end -/
def outs : List C → Rho → Option (List C)
  | [], _ => some []
  | .d x :: cs, ρ => (outs cs ρ.tail).map (.d x :: ·)
  | .arg _ :: cs, ρ => match ρ with
    | some (.arg ys) :: ρ => (outs cs ρ).map (.arg ys :: ·)
    | _ => none
  | .own _ :: _, _ => none
def retC (ρ : Rho) : R → Option C
  | .d x => some (.d x)
  | .own xs => some (.own xs)
  | .sl i => match ρ[i]? with
    | some (some (.d x)) => some (.d x)
    | some (some (.own xs)) => some (.own xs)
    | _ => none
def fnOf (n : Nat) (b : MS) : FnM := fun cs => match b (rho0 n cs) with
  | some (.rt r ρ) => (match retC ρ r, outs cs ρ with
    | some c, some os => some (c, os)
    | _, _ => none)
  | some (.nx ρ) => (outs cs ρ).map fun os => (.d .none, os)
  | _ => none
theorem outs_arg : ∀ {cs os : List C} {ρ : Rho}, outs cs ρ = some os → ∀ (i : Nat) xs, cs[i]? = some (.arg xs) → ∃ ys, ρ[i]? = some (some (.arg ys)) ∧ os[i]? = some (.arg ys)
  | [], _, _, _, i, xs, h => nomatch h
  | c :: cs, os, ρ, e, i, xs, h => by
    cases c with
    | own _ => cases e
    | d x =>
      unfold outs at e
      cases e1 : outs cs ρ.tail with
      | none => rw [e1] at e; cases e
      | some os' =>
        rw [e1] at e
        cases e
        cases i with
        | zero => cases h
        | succ i =>
          obtain ⟨ys, h1, h2⟩ := outs_arg e1 i xs h
          refine ⟨ys, ?_, h2⟩
          cases ρ with
          | nil => exact h1
          | cons _ _ => exact h1
    | arg zs =>
      unfold outs at e
      split at e
      · rename_i ys ρ'
        cases e1 : outs cs ρ' with
        | none => rw [e1] at e; cases e
        | some os' =>
          rw [e1] at e
          cases e
          cases i with
          | zero => exact ⟨ys, rfl, rfl⟩
          | succ i => exact outs_arg e1 i xs h
      · cases e
theorem outs_rep {F F' H H' : Hp} (x : Ex F F') : ∀ {vs : List V} {cs os : List C} {ρ : Rho}, Paired (ARep F H) vs cs → outs cs ρ = some os → (∀ (i : Nat) xs ys v, cs[i]? = some (.arg xs) → ρ[i]? = some (some (.arg ys)) → vs[i]? = some v → ARep F' H' v (.arg ys)) → Paired (ARep F' H') vs os
  | _, [], _, _, .nil, e, _ => by cases e; exact .nil
  | v :: vs, c :: cs, os, ρ, .cons h t, e, k => by
    cases c with
    | own _ => cases e
    | d z =>
      unfold outs at e
      cases e1 : outs cs ρ.tail with
      | none => rw [e1] at e; cases e
      | some os' =>
        rw [e1] at e
        cases e
        refine .cons (Rp.up h x) (outs_rep x t e1 fun i xs ys w h1 h2 h3 => k (i + 1) xs ys w h1 ?_ h3)
        cases ρ with
        | nil => cases h2
        | cons _ _ => exact h2
    | arg zs =>
      unfold outs at e
      split at e
      · rename_i ys ρ'
        cases e1 : outs cs ρ' with
        | none => rw [e1] at e; cases e
        | some os' =>
          rw [e1] at e
          cases e
          exact .cons (k 0 zs ys v rfl rfl rfl) (outs_rep x t e1 fun i xs ys w h1 h2 h3 => k (i + 1) xs ys w h1 h2 h3)
      · cases e
open Classical in
noncomputable def baseOf (H : Hp) (vs : List V) (cs : List C) : Hp := fun a => if Lent vs cs a then none else H a
theorem rho0_get {n : Nat} {cs : List C} {i : Nat} {c : C} (h : (rho0 n cs)[i]? = some (some c)) : cs[i]? = some c := by
  unfold rho0 at h
  by_cases hi : i < cs.length
  · rw [List.getElem?_append_left (by simpa using hi), List.getElem?_map] at h
    cases e : cs[i]? with
    | none => rw [e] at h; cases h
    | some d => rw [e] at h; cases h; rfl
  · rw [List.getElem?_append_right (by simpa using hi), List.getElem?_replicate] at h
    split at h <;> cases h
theorem start_get {N : List Str} {vs : List V} {i : Nat} {v : V} (h : vs[i]? = some v) : (start N vs)[i]? = some (some v) := by
  unfold L2.start
  have hi : i < vs.length := (List.getElem?_eq_some_iff.mp h).1
  rw [List.getElem?_append_left (by simpa using hi), List.getElem?_map, h]
  rfl
theorem start_sta {N : List Str} {F H : Hp} {vs : List V} {cs : List C} (x : Ex F H) (A : Args F H vs cs) (hl : vs.length ≤ N.length) : Sta (start N vs) (baseOf H vs cs) F F H (start N vs) (rho0 N.length cs) := by
  have hlen := paired_len A.rep
  have lent : ∀ {i : Nat} {xs : List D} {p : Addr}, cs[i]? = some (.arg xs) → vs[i]? = some (.ref p) → baseOf H vs cs p = none := fun {i xs p} h1 h2 => if_pos ⟨i, xs, h1, h2⟩
  refine ⟨?_, Ex.refl F, x, fun a o ha => ?_, fun a o ha => .inl ⟨o, ha⟩, fun i c hi => ?_, fun i j c e v hi hj hc he hv hw => ?_, fun i xs hi => rfl⟩
  · unfold L2.start rho0
    rw [List.length_append, List.length_append, List.length_map, List.length_map, List.length_replicate, List.length_replicate, hlen]
  · unfold baseOf at ha
    split at ha
    · cases ha
    · exact ha
  · have hc := rho0_get hi
    obtain ⟨v, hv, r⟩ := paired_get A.rep hc
    refine ⟨v, start_get hv, ?_⟩
    cases c with
    | d y => exact r
    | own _ => exact r.elim
    | arg xs =>
      obtain ⟨p, ws, rfl, h1, h2, h3⟩ := r
      exact ⟨p, rfl, ws, h1, lent hc hv, h2, h3⟩
  · have h1 := rho0_get hi
    have h2 := rho0_get hj
    obtain ⟨u, hu, r⟩ := paired_get A.rep h1
    obtain ⟨u', hu', r'⟩ := paired_get A.rep h2
    rw [start_get hu] at hv
    rw [start_get hu'] at hw
    cases hv
    cases hw
    cases c with
    | d y => cases hc
    | own _ => exact r.elim
    | arg xs =>
      cases e with
      | d y => cases he
      | own _ => exact r'.elim
      | arg ys => exact A.nd i j xs ys v h1 h2 hu hu'
theorem body_ok {N : List Str} {t : TS} {b : MS} (h : EvS t b) {vs : List V} {H : Hp} {Q : VK} {E : XK} (hl : vs.length ≤ N.length) (hs : spF (fnOf N.length b) vs H Q E) : t { nx := fun _ H' => Q .non H', rt := Q } (start N vs) H := by
  obtain ⟨F, cs, c, cs', x, A, ef, q⟩ := hs
  have S := start_sta x A hl
  have hlen := paired_len A.rep
  unfold fnOf at ef
  -- the end, whatever is handed back
  have fin : ∀ {v : V} {σ : L2.St} {F' H' : Hp} {ρ : Rho} {r : R}, Ex F F' → Sta (start N vs) (baseOf H vs cs) F F' H' σ ρ → RRep (baseOf H vs cs) F' H' σ ρ v r → retC ρ r = some c → outs cs ρ = some cs' → Q v H' := fun {v σ F' H' ρ r} x1 S1 h1 hr ho => by
    -- a lent list still stands in its slot
    have at_ : ∀ (i : Nat) xs ys w, cs[i]? = some (.arg xs) → ρ[i]? = some (some (.arg ys)) → vs[i]? = some w → σ[i]? = some (some w) ∧ ARep F' H' w (.arg ys) := fun i xs ys w h1 h2 h3 => by
      have e := S1.par i ys h2
      rw [start_get h3] at e
      refine ⟨e, ?_⟩
      obtain ⟨u, hu, cr⟩ := S1.rep i _ h2
      rw [e] at hu
      cases hu
      obtain ⟨p, rfl, ws, k1, k2, k3, k4⟩ := cr
      exact ⟨p, ws, rfl, k1, k3, k4⟩
    have notLent : ∀ {p : Addr}, (∀ (i : Nat) (c : C), ρ[i]? = some (some c) → (∃ ys, c = .arg ys) → σ[i]? ≠ some (some (.ref p))) → ¬ Lent vs cs p := fun {p} hn ⟨i, xs, h1, h2⟩ => by
      obtain ⟨ys, k1, _⟩ := outs_arg ho i xs h1
      exact hn i _ k1 ⟨ys, rfl⟩ (at_ i xs ys _ h1 k1 h2).1
    have base : ∀ {p : Addr}, baseOf H vs cs p = none → ¬ Lent vs cs p → H p = none := fun {p} h hn => by
      unfold baseOf at h
      rw [if_neg hn] at h
      exact h
    refine q v F' H' x1 S1.fh (fun a o ha hn => S1.bh a o ?_) (fun a o ha => ?_) ?_ (outs_rep x1 A.rep ho fun i xs ys w h1 h2 h3 => (at_ i xs ys w h1 h2 h3).2)
    · unfold baseOf
      rw [if_neg hn]
      exact ha
    · rcases S1.lim a o ha with h | h
      · exact .inl h
      · refine .inr (base h ?_)
        rintro ⟨i, xs, h1, h2⟩
        obtain ⟨ys, k1, _⟩ := outs_arg ho i xs h1
        obtain ⟨_, p, ws, ep, k2, _⟩ := at_ i xs ys _ h1 k1 h2
        cases ep
        rw [k2] at ha
        cases ha
    · cases r with
      | d y => cases hr; exact h1
      | own xs =>
        cases hr
        obtain ⟨p, rfl, ⟨ws, k1, k2, k3, k4⟩, ap⟩ := h1
        exact ⟨p, ws, rfl, k1, base k2 (notLent fun i c hi ⟨ys, e⟩ => ap i c hi (by rw [e]; rfl)), k3, k4⟩
      | sl i =>
        have h1 : σ[i]? = some (some v) := h1
        unfold retC at hr
        simp only at hr
        split at hr
        · rename_i y hi
          cases hr
          obtain ⟨u, hu, cr⟩ := S1.rep i _ hi
          rw [h1] at hu
          cases hu
          exact cr
        · rename_i xs hi
          cases hr
          obtain ⟨u, hu, cr⟩ := S1.rep i _ hi
          rw [h1] at hu
          cases hu
          obtain ⟨p, rfl, ws, k1, k2, k3, k4⟩ := cr
          refine ⟨p, ws, rfl, k1, base k2 (notLent fun j c hj ⟨ys, e⟩ hs => ?_), k3, k4⟩
          subst e
          have : j = i := S1.sep j i _ _ (.ref p) hj hi rfl rfl hs h1
          subst this
          rw [hi] at hj
          cases hj
        · cases hr
  split at ef
  · rename_i r ρ eb
    split at ef
    · rename_i c' os e1 e2
      cases ef
      exact h _ _ _ _ _ _ _ _ eb S _ fun v σ F' H' x1 S1 h1 => fin x1 S1 h1 e1 e2
    · cases ef
  · rename_i ρ eb
    cases e2 : outs cs ρ with
    | none => rw [e2] at ef; cases ef
    | some os =>
      rw [e2] at ef
      cases ef
      exact h _ _ _ _ _ _ _ _ eb S _ fun σ F' H' x1 S1 => fin (v := .non) (r := .d .none) x1 S1 .non rfl e2
  · cases ef
end Pu

set_option Elab.async false
set_option linter.all false
set_option maxRecDepth 100000
set_option maxHeartbeats 2000000
namespace Pu
open PySem PySem.Spec PyProof.Rows L2

/-! ### freezing those arguments that are not lent -/
def fzm : Rho → List Bool → List R → Option (List R × Rho)
  | ρ, _, [] => some ([], ρ)
  | ρ, true :: ms, r :: rs => match fzm ρ ms rs with
    | none => none
    | some (rs', ρ') => some (r :: rs', ρ')
  | ρ, _ :: ms, r :: rs => match fz ρ r with
    | none => none
    | some (x, ρ1) => match fzm ρ1 ms rs with
      | none => none
      | some (rs', ρ') => some (.d x :: rs', ρ')
  | ρ, [], r :: rs => match fz ρ r with
    | none => none
    | some (x, ρ1) => match fzm ρ1 [] rs with
      | none => none
      | some (rs', ρ') => some (.d x :: rs', ρ')
section
variable {par : L2.St} {B F0 H : Hp} {σ : L2.St}
def Off (vs : List V) (rs : List R) (w : V) (s : R) : Prop := ∀ (j : Nat) xs ys, rs[j]? = some (.own xs) → s = .own ys → vs[j]? ≠ some w
theorem fzm_ok : ∀ {ms : List Bool} {rs rs' : List R} {vs : List V} {F : Hp} {ρ ρ' : Rho}, Sta par B F0 F H σ ρ → RReps B F H σ ρ vs rs → fzm ρ ms rs = some (rs', ρ') →
    ∃ F', Ex F F' ∧ Sta par B F0 F' H σ ρ' ∧ RReps B F' H σ ρ' vs rs' ∧ (∀ w s, Off vs rs w s → RRep B F H σ ρ w s → RRep B F' H σ ρ' w s) ∧ ∀ (j : Nat) xs, rs'[j]? = some (.own xs) → ∃ ys, rs[j]? = some (.own ys) := by
  intro ms rs
  induction rs generalizing ms with
  | nil =>
    intro rs' vs F ρ ρ' S h e
    have e' : rs' = [] ∧ ρ' = ρ := by
      cases ms with
      | nil => cases e; exact ⟨rfl, rfl⟩
      | cons b ms => cases b <;> (cases e; exact ⟨rfl, rfl⟩)
    obtain ⟨rfl, rfl⟩ := e'
    exact ⟨F, Ex.refl F, S, h, fun w s _ hs => hs, fun j xs hj => nomatch hj⟩
  | cons r rs ih =>
    intro rs' vs F ρ ρ' S h e
    obtain ⟨h1, h2⟩ := h
    cases h1 with
    | cons hv ht =>
      rename_i v vs
      obtain ⟨n1, n2⟩ := h2
      -- a frozen head
      have cold : ∀ {ms : List Bool}, (∃ x ρ1 rs2, fz ρ r = some (x, ρ1) ∧ fzm ρ1 ms rs = some (rs2, ρ') ∧ rs' = .d x :: rs2) →
          ∃ F', Ex F F' ∧ Sta par B F0 F' H σ ρ' ∧ RReps B F' H σ ρ' (v :: vs) rs' ∧ (∀ w s, Off (v :: vs) (r :: rs) w s → RRep B F H σ ρ w s → RRep B F' H σ ρ' w s) ∧ ∀ (j : Nat) xs, rs'[j]? = some (.own xs) → ∃ ys, (r :: rs)[j]? = some (.own ys) := by
        rintro ms ⟨x, ρ1, rs2, e1, e2, rfl⟩
        obtain ⟨F1, x1, S1, r1, k1⟩ := fz_ok S hv e1
        have go : ∀ (ws : List V) (ss : List R), Paired (fun v r => RRep B F H σ ρ v r) ws ss → (∀ (j : Nat) w s, ws[j]? = some w → ss[j]? = some s → ∀ xs ys, r = .own xs → s = .own ys → v ≠ w) → Paired (fun v r => RRep B F1 H σ ρ1 v r) ws ss := by
          intro ws ss p
          induction p with
          | nil => intro _; exact .nil
          | cons h t ih =>
            intro hn
            exact .cons (k1 _ _ (hn 0 _ _ rfl rfl) h) (ih fun j w s a b => hn (j + 1) w s a b)
        have ht' : RReps B F1 H σ ρ1 vs rs := ⟨go vs rs ht fun j w s hw hs xs ys er es => by
          subst er es
          rintro rfl
          exact n1 xs rfl j ys hs hw, n2⟩
        obtain ⟨F2, x2, S2, q2, k2, o2⟩ := ih S1 ht' e2
        refine ⟨F2, x1.trans x2, S2, ⟨.cons (Rp.up r1 x2) q2.1, fun xs ex => (nomatch ex), q2.2⟩, fun w s hn hs => ?_, fun j xs hj => ?_⟩
        · refine k2 w s (fun j xs ys hj hs => hn (j + 1) xs ys hj hs) (k1 w s (fun xs ys er es ev => ?_) hs)
          subst er
          exact hn 0 xs ys rfl es (by rw [ev]; rfl)
        · cases j with
          | zero => cases hj
          | succ j => exact o2 j xs hj
      cases ms with
      | nil =>
        unfold fzm at e
        split at e
        · cases e
        · rename_i x ρ1 e1
          split at e
          · cases e
          · rename_i rs2 ρ2 e2
            cases e
            exact cold ⟨x, ρ1, rs2, e1, e2, rfl⟩
      | cons b ms =>
        cases b with
        | false =>
          unfold fzm at e
          split at e
          · cases e
          · rename_i x ρ1 e1
            split at e
            · cases e
            · rename_i rs2 ρ2 e2
              cases e
              exact cold ⟨x, ρ1, rs2, e1, e2, rfl⟩
        | true =>
          unfold fzm at e
          split at e
          · cases e
          · rename_i rs2 ρ2 e2
            cases e
            obtain ⟨F2, x2, S2, q2, k2, o2⟩ := ih S ⟨ht, n2⟩ e2
            refine ⟨F2, x2, S2, ⟨.cons (k2 v r (fun j xs ys hj hs => n1 ys hs j xs hj) hv) q2.1, fun xs ex j ys hj => ?_, q2.2⟩, fun w s hn hs => ?_, fun j xs hj => ?_⟩
            · obtain ⟨zs, hz⟩ := o2 j ys hj
              exact n1 xs ex j zs hz
            · exact k2 w s (fun j xs ys hj hs => hn (j + 1) xs ys hj hs) hs
            · cases j with
              | zero => exact ⟨xs, hj⟩
              | succ j => exact o2 j xs hj
end
/-! ### a call -/
def cOf (ρ : Rho) : R → Option C
  | .d x => some (.d x)
  | .own xs => some (.arg xs)
  | .sl i => match ρ[i]? with
    | some (some (.d x)) => some (.d x)
    | some (some (.own xs)) => some (.arg xs)
    | some (some (.arg xs)) => some (.arg xs)
    | _ => none
def csOf (ρ : Rho) : List R → Option (List C)
  | [] => some []
  | r :: rs => match cOf ρ r, csOf ρ rs with
    | some c, some cs => some (c :: cs)
    | _, _ => none
/-- the slots that are lent -/
def slots : List R → List Nat
  | [] => []
  | .sl i :: rs => i :: slots rs
  | _ :: rs => slots rs
/-- the lent lists come back -/
def backs (ρ : Rho) : List R → List C → Rho
  | .sl i :: rs, .arg ys :: cs => match ρ[i]? with
    | some (some c) => backs (ρ.set i (some (c.put ys))) rs cs
    | _ => backs ρ rs cs
  | _ :: rs, _ :: cs => backs ρ rs cs
  | _, _ => ρ
def resOf : C → R
  | .d x => .d x
  | .own xs => .own xs
  | .arg xs => .own xs
def sCall (fn : FnM) (ms : List Bool) (m : M (List R)) : M R := fun ρ => match m ρ with
  | none => none
  | some (rs, ρ1) => match fzm ρ1 ms rs with
    | none => none
    | some (rs2, ρ2) => match csOf ρ2 rs2 with
      | none => none
      | some cs => if (slots rs2).Nodup then (match fn cs with
        | none => none
        | some (c, cs') => if cs'.map C.isOwn = cs.map C.isOwn then some (resOf c, backs ρ2 rs2 cs') else none) else none
section
variable {par : L2.St} {B F0 F H : Hp} {σ : L2.St} {ρ : Rho}
theorem cOf_rep (S : Sta par B F0 F H σ ρ) {v : V} {r : R} {c : C} (h : RRep B F H σ ρ v r) (e : cOf ρ r = some c) : ARep F H v c := by
  cases r with
  | d x => cases e; exact h
  | own xs =>
    cases e
    obtain ⟨p, rfl, ⟨vs, h1, h2, h3, h4⟩, _⟩ := h
    exact ⟨p, vs, rfl, h1, h3, h4⟩
  | sl i =>
    have h : σ[i]? = some (some v) := h
    unfold cOf at e
    simp only at e
    split at e
    · rename_i x hi
      cases e
      obtain ⟨u, hu, cr⟩ := S.rep i _ hi
      rw [h] at hu
      cases hu
      exact cr
    · rename_i xs hi
      cases e
      obtain ⟨u, hu, cr⟩ := S.rep i _ hi
      rw [h] at hu
      cases hu
      obtain ⟨p, rfl, vs, h1, h2, h3, h4⟩ := cr
      exact ⟨p, vs, rfl, h1, h3, h4⟩
    · rename_i xs hi
      cases e
      obtain ⟨u, hu, cr⟩ := S.rep i _ hi
      rw [h] at hu
      cases hu
      obtain ⟨p, rfl, vs, h1, h2, h3, h4⟩ := cr
      exact ⟨p, vs, rfl, h1, h3, h4⟩
    · cases e
theorem csOf_rep (S : Sta par B F0 F H σ ρ) : ∀ {vs : List V} {rs : List R} {cs : List C}, Paired (fun v r => RRep B F H σ ρ v r) vs rs → csOf ρ rs = some cs → Paired (ARep F H) vs cs
  | _, [], _, h, e => by cases h; cases e; exact .nil
  | _, r :: rs, _, h, e => by
    cases h with
    | cons h t =>
      unfold csOf at e
      split at e
      · rename_i c cs e1 e2
        cases e
        exact .cons (cOf_rep S h e1) (csOf_rep S t e2)
      · cases e
theorem csOf_get : ∀ {rs : List R} {cs : List C} {i : Nat} {c : C}, csOf ρ rs = some cs → cs[i]? = some c → ∃ r, rs[i]? = some r ∧ cOf ρ r = some c
  | [], _, i, c, e, h => by cases e; cases h
  | r :: rs, _, i, c, e, h => by
    unfold csOf at e
    split at e
    · rename_i c' cs' e1 e2
      cases e
      cases i with
      | zero => cases h; exact ⟨r, rfl, e1⟩
      | succ i => exact csOf_get (i := i) (rs := rs) e2 h
    · cases e
/-- what is lent -/
theorem cOf_arg (S : Sta par B F0 F H σ ρ) {v : V} {r : R} {xs : List D} (h : RRep B F H σ ρ v r) (e : cOf ρ r = some (.arg xs)) : (r = .own xs ∧ RRep B F H σ ρ v (.own xs)) ∨ ∃ i c, r = .sl i ∧ ρ[i]? = some (some c) ∧ c.isOwn = true ∧ σ[i]? = some (some v) := by
  cases r with
  | d x => cases e
  | own ys => cases e; exact .inl ⟨rfl, h⟩
  | sl i =>
    have h : σ[i]? = some (some v) := h
    unfold cOf at e
    simp only at e
    split at e
    · cases e
    · rename_i ys hi; exact .inr ⟨i, _, rfl, hi, rfl, h⟩
    · rename_i ys hi; exact .inr ⟨i, _, rfl, hi, rfl, h⟩
    · cases e
theorem slots_get : ∀ {rs : List R} {i j k : Nat}, (slots rs).Nodup → rs[i]? = some (.sl k) → rs[j]? = some (.sl k) → i = j
  | [], i, j, k, _, h, _ => nomatch h
  | r :: rs, i, j, k, nd, h, h' => by
    have mem : ∀ {rs : List R} {i k : Nat}, rs[i]? = some (.sl k) → k ∈ slots rs := by
      intro rs
      induction rs with
      | nil => intro i k h; cases h
      | cons r rs ih =>
        intro i k h
        cases i with
        | zero => cases h; exact List.mem_cons_self
        | succ i =>
          have := ih (i := i) (k := k) h
          cases r with
          | sl _ => exact List.mem_cons_of_mem _ this
          | d _ => exact this
          | own _ => exact this
    cases i with
    | zero =>
      cases j with
      | zero => rfl
      | succ j =>
        cases h
        have : k ∈ slots rs := mem (i := j) h'
        exact absurd this (List.nodup_cons.mp nd).1
    | succ i =>
      cases j with
      | zero =>
        cases h'
        have : k ∈ slots rs := mem (i := i) h
        exact absurd this (List.nodup_cons.mp nd).1
      | succ j =>
        have nd' : (slots rs).Nodup := by
          cases r with
          | sl _ => exact (List.nodup_cons.mp nd).2
          | d _ => exact nd
          | own _ => exact nd
        rw [slots_get (i := i) (j := j) nd' h h']
theorem args_of (S : Sta par B F0 F H σ ρ) {vs : List V} {rs : List R} {cs : List C} (h : RReps B F H σ ρ vs rs) (e : csOf ρ rs = some cs) (nd : (slots rs).Nodup) : Args F H vs cs := by
  refine ⟨csOf_rep S h.1 e, fun i j xs ys v h1 h2 h3 h4 => ?_⟩
  obtain ⟨r, r1, r2⟩ := csOf_get e h1
  obtain ⟨s, s1, s2⟩ := csOf_get e h2
  obtain ⟨u, hu, hr⟩ := paired_get h.1 r1
  obtain ⟨u', hu', hs⟩ := paired_get h.1 s1
  rw [h3] at hu
  rw [h4] at hu'
  cases hu
  cases hu'
  have own : ∀ {ws : List V} {ts : List R} {i j : Nat} {xs ys : List D} {v : V}, OwnNd ws ts → ts[i]? = some (.own xs) → ts[j]? = some (.own ys) → ws[i]? = some v → ws[j]? = some v → i = j := by
    intro ws
    induction ws with
    | nil => intro ts i j xs ys v _ _ _ h; cases h
    | cons w ws ih =>
      intro ts i j xs ys v nd a b c d
      cases ts with
      | nil => cases a
      | cons t ts =>
        obtain ⟨n1, n2⟩ := nd
        cases i with
        | zero =>
          cases j with
          | zero => rfl
          | succ j =>
            cases a
            cases c
            exact absurd d (n1 xs rfl j ys b)
        | succ i =>
          cases j with
          | zero =>
            cases b
            cases d
            exact absurd c (n1 ys rfl i xs a)
          | succ j => rw [ih (i := i) (j := j) n2 a b c d]
  rcases cOf_arg S hr r2 with ⟨rfl, w1⟩ | ⟨k, c, rfl, k1, k2, k3⟩
  · rcases cOf_arg S hs s2 with ⟨rfl, w2⟩ | ⟨l, d, rfl, l1, l2, l3⟩
    · exact own h.2 r1 s1 h3 h4
    · obtain ⟨p, ep, _, ap⟩ := w1
      exact absurd l3 (ap l d l1 l2)
  · rcases cOf_arg S hs s2 with ⟨rfl, w2⟩ | ⟨l, d, rfl, l1, l2, l3⟩
    · obtain ⟨p, ep, _, ap⟩ := w2
      exact absurd k3 (ap k c k1 k2)
    · have : k = l := S.sep k l c d v k1 l1 k2 l2 k3 l3
      subst this
      exact slots_get nd r1 s1
theorem put_own {c : C} {ys : List D} : (c.put ys).isOwn = c.isOwn := by cases c <;> rfl
theorem slots_mem : ∀ {rs : List R} {i k : Nat}, rs[i]? = some (.sl k) → k ∈ slots rs := by
  intro rs
  induction rs with
  | nil => intro i k h; cases h
  | cons r rs ih =>
    intro i k h
    cases i with
    | zero => cases h; exact List.mem_cons_self
    | succ i =>
      have := ih (i := i) (k := k) h
      cases r with
      | sl _ => exact List.mem_cons_of_mem _ this
      | d _ => exact this
      | own _ => exact this
theorem backs_len : ∀ {rs : List R} {cs : List C} {π : Rho}, (backs π rs cs).length = π.length := by
  intro rs
  induction rs with
  | nil => intro cs π; cases cs <;> rfl
  | cons r rs ih =>
    intro cs π
    cases cs with
    | nil => cases r <;> rfl
    | cons c cs =>
      cases r with
      | d _ => exact ih
      | own _ => exact ih
      | sl k =>
        cases c with
        | d _ => exact ih
        | own _ => exact ih
        | arg ys =>
          unfold backs
          split
          · rw [ih, List.length_set]
          · exact ih
theorem backs_get : ∀ {rs : List R} {cs : List C} {π : Rho} {i : Nat} {c : C}, (slots rs).Nodup → cs.length = rs.length → (backs π rs cs)[i]? = some (some c) →
    (∃ (j : Nat) (ys : List D) (c0 : C), rs[j]? = some (.sl i) ∧ cs[j]? = some (.arg ys) ∧ π[i]? = some (some c0) ∧ c = c0.put ys) ∨ (π[i]? = some (some c) ∧ ∀ (j : Nat) (ys : List D), rs[j]? = some (.sl i) → cs[j]? ≠ some (.arg ys)) := by
  intro rs
  induction rs with
  | nil =>
    intro cs π i c nd hl h
    have h : π[i]? = some (some c) := by cases cs <;> exact h
    exact .inr ⟨h, fun j ys hj => nomatch hj⟩
  | cons r rs ih =>
    intro cs π i c nd hl h
    cases cs with
    | nil => cases hl
    | cons c1 cs =>
      have hl' : cs.length = rs.length := by simpa using hl
      have plain : (slots rs).Nodup → (backs π rs cs)[i]? = some (some c) → (∀ ys, r = .sl i → c1 ≠ .arg ys) → (∃ (j : Nat) (ys : List D) (c0 : C), (r :: rs)[j]? = some (.sl i) ∧ (c1 :: cs)[j]? = some (.arg ys) ∧ π[i]? = some (some c0) ∧ c = c0.put ys) ∨ (π[i]? = some (some c) ∧ ∀ (j : Nat) (ys : List D), (r :: rs)[j]? = some (.sl i) → (c1 :: cs)[j]? ≠ some (.arg ys)) := by
        intro nd' h' hn
        rcases ih nd' hl' h' with ⟨j, ys, c0, a, b, d, e⟩ | ⟨a, b⟩
        · exact .inl ⟨j + 1, ys, c0, a, b, d, e⟩
        · refine .inr ⟨a, fun j ys hj hc => ?_⟩
          cases j with
          | zero => cases hj; cases hc; exact hn ys rfl rfl
          | succ j => exact b j ys hj hc
      cases r with
      | d _ => exact plain nd h fun ys e => nomatch e
      | own _ => exact plain nd h fun ys e => nomatch e
      | sl k =>
        have ndt := (List.nodup_cons.mp nd).2
        have nk := (List.nodup_cons.mp nd).1
        cases c1 with
        | d _ => exact plain ndt h fun ys _ e => nomatch e
        | own _ => exact plain ndt h fun ys _ e => nomatch e
        | arg ys =>
          unfold backs at h
          split at h
          · rename_i c0 hk
            rcases ih ndt hl' h with ⟨j, zs, c2, a, b, d, e⟩ | ⟨a, b⟩
            · have hne : i ≠ k := fun z => by
                subst z
                exact nk (slots_mem a)
              rw [List.getElem?_set_ne (fun z => hne z.symm)] at d
              exact .inl ⟨j + 1, zs, c2, a, b, d, e⟩
            · rcases set_get a with ⟨rfl, e⟩ | ⟨hne, a⟩
              · exact .inl ⟨0, ys, c0, rfl, rfl, hk, Option.some.inj e⟩
              · refine .inr ⟨a, fun j zs hj hc => ?_⟩
                cases j with
                | zero => cases hj; exact hne rfl
                | succ j => exact b j zs hj hc
          · rename_i hk
            rcases ih ndt hl' h with ⟨j, zs, c2, a, b, d, e⟩ | ⟨a, b⟩
            · exact .inl ⟨j + 1, zs, c2, a, b, d, e⟩
            · refine .inr ⟨a, fun j zs hj hc => ?_⟩
              cases j with
              | zero =>
                cases hj
                exact hk c a
              | succ j => exact b j zs hj hc
theorem paired_get' {α β : Type} {P : α → β → Prop} : ∀ {xs : List α} {ys : List β} {i : Nat} {x : α}, Paired P xs ys → xs[i]? = some x → ∃ y, ys[i]? = some y ∧ P x y
  | _ :: _, _ :: _, 0, y, .cons h _, e => by
    cases (Option.some.inj (show some _ = some y from e))
    exact ⟨_, rfl, h⟩
  | _ :: xs, _ :: ys, i + 1, y, .cons _ t, e => paired_get' (i := i) t e
  | [], [], _, _, .nil, e => nomatch e
theorem own_same {cs cs' : List C} {j : Nat} {ys : List D} (hs : cs'.map C.isOwn = cs.map C.isOwn) (h : cs'[j]? = some (.arg ys)) : ∃ c, cs[j]? = some c ∧ c.isOwn = true := by
  have e := congrArg (fun l => l[j]?) hs
  simp only [List.getElem?_map, h] at e
  cases hc : cs[j]? with
  | none => rw [hc] at e; cases e
  | some c =>
    rw [hc] at e
    exact ⟨c, rfl, (Option.some.inj e).symm⟩
theorem own_same' {cs cs' : List C} {j : Nat} {ys : List D} (hs : cs'.map C.isOwn = cs.map C.isOwn) (h : cs[j]? = some (.arg ys)) : ∃ c, cs'[j]? = some c ∧ c.isOwn = true := by
  have e := congrArg (fun l => l[j]?) hs
  simp only [List.getElem?_map, h] at e
  cases hc : cs'[j]? with
  | none => rw [hc] at e; cases e
  | some c =>
    rw [hc] at e
    exact ⟨c, rfl, Option.some.inj e⟩
theorem call_sta (S : Sta par B F0 F H σ ρ) {vs : List V} {rs : List R} {cs cs' : List C} {F' H' : Hp} (h : RReps B F H σ ρ vs rs) (e : csOf ρ rs = some cs) (nd : (slots rs).Nodup) (hs : cs'.map C.isOwn = cs.map C.isOwn)
    (x : Ex F F') (y : Ex F' H') (keep : ∀ a o, H a = some o → ¬ Lent vs cs a → H' a = some o) (lim : ∀ a o, F' a = some o → (∃ o', F a = some o') ∨ H a = none) (out : Paired (ARep F' H') vs cs') :
    Sta par B F0 F' H' σ (backs ρ rs cs') := by
  have hl : cs'.length = rs.length := by rw [← paired_len out, paired_len h.1]
  have lent : ∀ {a : Addr}, Lent vs cs a → B a = none ∧ ((∃ (j : Nat) (i : Nat) (c : C), rs[j]? = some (.sl i) ∧ (∃ xs, cs[j]? = some (.arg xs)) ∧ ρ[i]? = some (some c) ∧ c.isOwn = true ∧ σ[i]? = some (some (.ref a))) ∨ Apart σ ρ (.ref a)) := fun {a} ⟨j, xs, h1, h2⟩ => by
    obtain ⟨r, r1, r2⟩ := csOf_get e h1
    obtain ⟨u, hu, hr⟩ := paired_get h.1 r1
    rw [h2] at hu
    cases hu
    rcases cOf_arg S hr r2 with ⟨rfl, w1⟩ | ⟨k, c, rfl, k1, k2, k3⟩
    · obtain ⟨p, ep, ⟨ws, _, hb, _, _⟩, ap⟩ := w1
      cases ep
      exact ⟨hb, .inr ap⟩
    · obtain ⟨w, hw, cr⟩ := S.rep k c k1
      rw [k3] at hw
      cases hw
      obtain ⟨p, ws, ep, _, hb, _⟩ := cr.ownB k2
      cases ep
      exact ⟨hb, .inl ⟨j, k, c, r1, ⟨xs, h1⟩, k1, k2, k3⟩⟩
  refine ⟨by rw [backs_len]; exact S.len, S.f0.trans x, y, fun a o ha => keep a o (S.bh a o ha) fun hL => ?_, fun a o ha => ?_, fun i c hi => ?_, fun i j c d v hi hj hc hd hv hw => ?_, fun i xs hi => ?_⟩
  · rw [(lent hL).1] at ha
    cases ha
  · rcases lim a o ha with ⟨o', h1⟩ | h1
    · exact S.lim a o' h1
    · exact .inr (S.bh.back h1)
  · rcases backs_get nd hl hi with ⟨j, ys, c0, a, b, d, rfl⟩ | ⟨a, b⟩
    · obtain ⟨v, hv, hr⟩ := paired_get h.1 a
      have hv' : σ[i]? = some (some v) := hr
      obtain ⟨v2, hv2, ar⟩ := paired_get out b
      rw [hv] at hv2
      cases hv2
      obtain ⟨p, ws, rfl, k1, k2, k3⟩ := ar
      obtain ⟨cc, hcc, occ⟩ := own_same hs b
      obtain ⟨r, r1, r2⟩ := csOf_get e hcc
      rw [a] at r1
      cases r1
      have ho : c0.isOwn = true := by
        unfold cOf at r2
        simp only [d] at r2
        cases c0 with
        | d _ => cases r2; cases occ
        | own _ => rfl
        | arg _ => rfl
      obtain ⟨w, hw, cr⟩ := S.rep i c0 d
      rw [hv'] at hw
      cases hw
      obtain ⟨p', ws', ep, _, hb, _⟩ := cr.ownB ho
      cases ep
      refine ⟨_, hv', ?_⟩
      cases c0 with
      | d _ => cases ho
      | own _ => exact ⟨p, rfl, ws, k1, hb, k2, k3⟩
      | arg _ => exact ⟨p, rfl, ws, k1, hb, k2, k3⟩
    · obtain ⟨w, hw, cr⟩ := S.rep i c a
      refine ⟨w, hw, cr.up x (fun p ep ho => ?_) fun p ws ep ho hp => keep p _ hp fun hL => ?_⟩
      · subst ep
        obtain ⟨p', ws, ep, h1, _, h3⟩ := cr.ownB ho
        cases ep
        cases hF : F' p with
        | none => rfl
        | some o =>
          rcases lim p o hF with ⟨o', h2⟩ | h2
          · rw [h1] at h2; cases h2
          · rw [h3] at h2; cases h2
      · subst ep
        rcases (lent hL).2 with ⟨j, k, c1, j1, ⟨xs, j2⟩, j3, j4, j5⟩ | ap
        · have ek : k = i := S.sep k i c1 c (.ref p) j3 a j4 ho j5 hw
          subst ek
          obtain ⟨c2, hc2, o2⟩ := own_same' hs j2
          obtain ⟨v2, hv2, ar⟩ := paired_get out hc2
          cases c2 with
          | d _ => cases o2
          | own _ => exact ar
          | arg ys => exact b j ys j1 hc2
        · exact ap i c a ho hw
  · have back : ∀ {i : Nat} {c : C}, (backs ρ rs cs')[i]? = some (some c) → c.isOwn = true → ∃ c0, ρ[i]? = some (some c0) ∧ c0.isOwn = true := fun {i c} hi ho => by
      rcases backs_get nd hl hi with ⟨j, ys, c0, a, b, d, rfl⟩ | ⟨a, b⟩
      · exact ⟨c0, d, by rw [put_own] at ho; exact ho⟩
      · exact ⟨c, a, ho⟩
    obtain ⟨c0, a, oa⟩ := back hi hc
    obtain ⟨d0, b, ob⟩ := back hj hd
    exact S.sep i j c0 d0 v a b oa ob hv hw
  · rcases backs_get nd hl hi with ⟨j, ys, c0, a, b, d, ec⟩ | ⟨a, b⟩
    · cases c0 with
      | d _ => cases ec
      | own _ => cases ec
      | arg zs => exact S.par i zs d
    · exact S.par i xs a
end
theorem ev_call {fn : FnM} {ms : List Bool} {t : TA} {m : M (List R)} {E : XK} (h : EvA t m) : EvR (tCall (spF fn) [] E t) (sCall fn ms m) := by
  intro par B F0 F H σ ρ z ρ' e S Q q
  unfold sCall at e
  split at e
  · cases e
  · rename_i rs ρ1 e1
    split at e
    · cases e
    · rename_i rs2 ρ2 e2
      split at e
      · cases e
      · rename_i cs e3
        split at e
        · rename_i nd
          split at e
          · cases e
          · rename_i c cs' e4
            split at e
            · rename_i hs
              cases e
              refine h par B F0 F H σ ρ rs ρ1 e1 S _ fun vs F1 H1 x1 S1 h1 => ?_
              obtain ⟨F2, x2, S2, h2, _, _⟩ := fzm_ok S1 h1 e2
              rw [List.append_nil]
              refine ⟨F2, cs, c, cs', S2.fh, args_of S2 h2 e3 nd, e4, fun v F' H' x3 y keep lim rr out => ?_⟩
              have S3 := call_sta S2 h2 e3 nd hs x3 y keep lim out
              refine q v F' H' ((x1.trans x2).trans x3) S3 ?_
              cases c with
              | d x => exact rr
              | own xs =>
                obtain ⟨p, ws, rfl, k1, k2, k3, k4⟩ := rr
                refine ⟨p, rfl, ⟨ws, k1, S2.bh.back k2, k3, k4⟩, fun i c hi ho hs' => ?_⟩
                have hl : cs'.length = rs2.length := by rw [← paired_len out, paired_len h2.1]
                have : ∃ c0, ρ2[i]? = some (some c0) ∧ c0.isOwn = true := by
                  rcases backs_get nd hl hi with ⟨j, ys, c0, a, b, d, rfl⟩ | ⟨a, b⟩
                  · exact ⟨c0, d, by rw [put_own] at ho; exact ho⟩
                  · exact ⟨c, a, ho⟩
                obtain ⟨c0, a, oa⟩ := this
                obtain ⟨w, hw, cr⟩ := S2.rep i c0 a
                rw [hs'] at hw
                cases hw
                obtain ⟨p', ws', ep, _, _, h3⟩ := cr.ownB oa
                cases ep
                rw [k2] at h3
                cases h3
              | arg _ => exact rr.elim
            · cases e
        · cases e
end Pu

set_option Elab.async false
set_option linter.all false
set_option maxRecDepth 100000
set_option maxHeartbeats 2000000
namespace Pu
open PySem PySem.Spec PyProof.Rows L2

/-! ### sorted, of data that compare -/
def lePD (p q : V × D) : Bool := PySem.W.dataLe false (fun (z : V × D) => z.2) p q
def leD (x y : D) : Bool := PySem.W.dataLe false (fun (z : D) => z) x y
theorem lePD_leD (p q : V × D) : lePD p q = leD p.2 q.2 := rfl
/-- the list sorted -/
def srt (xs : List D) : List D := xs.mergeSort leD
def alikeB (xs : List D) : Bool := xs.all fun x => xs.all fun y => PySem.W.alike x y
def sortB (xs : List D) : Bool := (xs.all fun x => match x with | .tuple (_ :: _) => true | _ => false) || (xs.all fun x => match x with | .none => false | .tuple _ => false | _ => true)
def shB (xs : List D) : Bool := xs.all fun x => decide (x.depth ≤ 60)
theorem alike_of {xs : List D} (h : alikeB xs = true) : PySem.W.AllAlike xs := by
  intro d hd e he
  unfold alikeB at h
  exact List.all_eq_true.mp (List.all_eq_true.mp h d hd) e he
theorem sort_of {xs : List D} (h : sortB xs = true) : PySem.W.Sortable xs := by
  unfold sortB at h
  rw [Bool.or_eq_true] at h
  rcases h with h | h
  · refine .inl fun d hd => ?_
    have := List.all_eq_true.mp h d hd
    split at this
    · exact ⟨_, _, rfl⟩
    · cases this
  · refine .inr fun d hd => ?_
    have := List.all_eq_true.mp h d hd
    split at this
    · cases this
    · cases this
    · rename_i h1 h2
      exact ⟨h1, h2⟩
def gSorted : List D → Option R
  | [.list xs] => if alikeB xs = true ∧ sortB xs = true ∧ shB xs = true ∧ xs.length ≤ big then some (.own (srt xs)) else none
  | _ => none
def rSortedG (K : PySem.W.Frag) : List V → Hp → VK → Prop := fun vs H Q => ∃ (a : Addr) (ps : List (V × D)), vs = [.ref a] ∧ SqL K H a (ps.map (·.1)) ∧ (∀ p ∈ ps, Dp K H p.1 p.2) ∧
  PySem.W.AllAlike (ps.map (·.2)) ∧ PySem.W.Sortable (ps.map (·.2)) ∧ (∀ p ∈ ps, p.2.depth ≤ 60) ∧ ∀ p, H p = none → Q (.ref p) (upd H p (.lst ((ps.mergeSort lePD).map (·.1))))
theorem each_of_vals {s : Heap} {R : Value → D → Prop} : ∀ {ps : List (V × D)} {us : List Value}, Vals (ps.map (·.1)) us → (∀ p ∈ ps, ∀ u, RelV p.1 u → R u p.2) → PySem.W.EachIs (fun u (p : V × D) => RelV p.1 u) us ps ∧ PySem.W.EachIs (fun u (p : V × D) => R u p.2) us ps
  | [], _, .nil, _ => ⟨.nil, .nil⟩
  | p :: ps, _, .cons r t, h => by
    obtain ⟨h1, h2⟩ := each_of_vals (s := s) (R := R) t fun q hq => h q (List.mem_cons_of_mem _ hq)
    exact ⟨.cons r h1, .cons (h p List.mem_cons_self _ r) h2⟩
theorem vals_of_each : ∀ {ps : List (V × D)} {us : List Value}, PySem.W.EachIs (fun u (p : V × D) => RelV p.1 u) us ps → Vals (ps.map (·.1)) us
  | _, _, .nil => .nil
  | _, _, .cons r t => .cons r (vals_of_each t)
theorem cr_sortedG {X : Cx} (hu : X.A.units + 64 < cLine) : CallR X (.builtin "sorted") (rSortedG X.K) := by
  intro pins s σ H vs us Q I r h
  obtain ⟨a, ps, rfl, hs, hd, hal, hk, hdep, q⟩ := h
  obtain ⟨its, rv, hl, hz⟩ := I.list hs
  rw [Vals.ref1 r]
  obtain ⟨e1, e2⟩ := each_of_vals (s := s.heap) (R := fun u d => ∃ as, Reads s.heap u d as) rv fun p hp u hu => Dp.reads I p.2 p.1 u (hd p hp) hu
  have hlen : ps.length ≤ sizeLine := by rw [List.length_map] at hz; exact hz
  refine PySem.W.sorted_data (enc := fun (p : V × D) => p.2) hl.isList e1 e2 hal hk hlen (fun p hp => by
    have h1 := hdep p hp
    show X.A.units + 2 + p.2.depth < cLine
    omega) fun out ho eo => ?_
  have ro : Vals ((ps.mergeSort lePD).map (·.1)) out := vals_of_each eo
  have hm : (ps.mergeSort lePD).length = ps.length := List.length_mergeSort ..
  obtain ⟨c, hc⟩ := PyProof.Rows.sortedAll_at s.heap its out.toArray
  have hf : H (s.heap.objs.size + 1) = none := I.hok.fresh (Nat.le_succ _)
  refine ⟨.ref (s.heap.objs.size + 1), upd H (s.heap.objs.size + 1) (.lst ((ps.mergeSort lePD).map (·.1))), I.laid (t' := s.toks) (fun b u e => PyProof.Rows.sortedAll_old e) (Nat.le_succ _) ⟨?_, out, c, ro, hc⟩, rfl, q _ hf⟩
  rw [List.length_map, hm]
  exact hlen
theorem rp_pairs {F : Hp} : ∀ {vs : List V} {xs : List D}, RpAll F vs xs → ∃ ps : List (V × D), ps.map (·.1) = vs ∧ ps.map (·.2) = xs ∧ ∀ p ∈ ps, Rp F p.1 p.2
  | [], [], .nil => ⟨[], rfl, rfl, fun _ h => nomatch h⟩
  | v :: vs, x :: xs, .cons h t => by
    obtain ⟨ps, h1, h2, h3⟩ := rp_pairs t
    refine ⟨(v, x) :: ps, by rw [List.map_cons, h1], by rw [List.map_cons, h2], fun p hp => ?_⟩
    rcases List.mem_cons.mp hp with e | e
    · subst e
      exact h
    · exact h3 p e
theorem pairs_rp {F : Hp} : ∀ {ps : List (V × D)}, (∀ p ∈ ps, Rp F p.1 p.2) → RpAll F (ps.map (·.1)) (ps.map (·.2))
  | [], _ => .nil
  | p :: ps, h => .cons (h p List.mem_cons_self) (pairs_rp fun q hq => h q (List.mem_cons_of_mem _ hq))
theorem cs_sorted {K : PySem.W.Frag} : CallS (rSortedG K) gSorted := by
  intro par B F0 F H σ ρ vs xs z e S hv Q q
  unfold gSorted at e
  split at e
  · split at e
    · rename_i ys hc
      obtain ⟨c1, c2, c3, c4⟩ := hc
      cases e
      obtain ⟨v, rfl, h⟩ := p1 hv
      obtain ⟨p, ws, rfl, h1, h2⟩ := h.list S.fh
      obtain ⟨ps, rfl, rfl, h3⟩ := rp_pairs h2
      have hsnd : (ps.mergeSort lePD).map (·.2) = srt (ps.map (·.2)) := by
        unfold srt
        exact List.map_mergeSort (fun a _ b _ => lePD_leD a b)
      refine ⟨p, ps, rfl, .inl h1, fun x hx => Rp.dp S.fh _ _ (h3 x hx), alike_of c1, sort_of c2, fun x hx => ?_, fun n hn => ?_⟩
      · have := List.all_eq_true.mp c3 x.2 (List.mem_map.mpr ⟨x, hx, rfl⟩)
        exact of_decide_eq_true this
      · refine q (.ref n) F _ (Ex.refl F) (S.newL hn) (newL_rep S hn ?_)
        rw [← hsnd]
        exact pairs_rp fun x hx => h3 x ((List.mergeSort_perm ps lePD).mem_iff.mp hx)
    · cases e
  · cases e
end Pu

set_option Elab.async false
set_option linter.all false
set_option maxRecDepth 100000
set_option maxHeartbeats 2000000
namespace Pu
open PySem PySem.Spec PyProof.Rows L2

section
variable {P : Program} {w : World} {K : Type} [DecidableEq K] {knd : KeyKind P w K}

/-- no two entries stand for one key -/
def Dst (knd : KeyKind P w K) (l : List (Int × Value)) : Prop := l.Pairwise fun e e' => ∀ k, knd.is k e.2 = true → knd.is k e'.2 = true → False
theorem Dst.perm {l l' : List (Int × Value)} (p : l.Perm l') : Dst knd l → Dst knd l' :=
  (p.pairwise_iff (fun {x y} h k a b => h k b a)).mp
/-- a table in order -/
def Tb (w : World) (n : Nat) (t : SetTable) : Prop := n < scanBound ∧ t.fits n = true ∧ Ris t.place.toList ∧ (w.params.followText "set-order" = true ∨ t.led = true)
/-- entries of one kind, each key once, of the keys in M -/
def Ent (knd : KeyKind P w K) (es : Array (Int × Value)) (M : K → Prop) : Prop := ElemsOf knd es.toList ∧ Dst knd es.toList ∧ ∀ k, M k ↔ ∃ e ∈ es.toList, knd.is k e.2 = true
theorem Ent.perm {es es' : Array (Int × Value)} {M : K → Prop} (h : Ent knd es M) (p : es'.toList.Perm es.toList) : Ent knd es' M :=
  ⟨h.1.perm p, Dst.perm p.symm h.2.1, fun k => (h.2.2 k).trans ⟨fun ⟨e, a, b⟩ => ⟨e, p.mem_iff.mpr a, b⟩, fun ⟨e, a, b⟩ => ⟨e, p.mem_iff.mp a, b⟩⟩⟩
theorem Ent.more {es es' : Array (Int × Value)} {M : K → Prop} {k : K} {x : Value} (h : Ent knd es M) (hk : knd.is k x = true) (hx : x.scannable = true) (hn : ¬ M k)
    (p : es'.toList.Perm (es.toList ++ [(knd.hash k, x)])) : Ent knd es' (fun j => M j ∨ j = k) := by
  have p2 : es'.toList.Perm ((knd.hash k, x) :: es.toList) := p.trans (List.perm_append_singleton _ _)
  refine ⟨(h.1.push hk hx).perm p, Dst.perm p2.symm (List.pairwise_cons.mpr ⟨fun e he j a b => ?_, h.2.1⟩), fun j => ?_⟩
  · have q : j = k := knd.inj _ _ _ a hk
    subst q
    exact hn ((h.2.2 j).mpr ⟨e, he, b⟩)
  · constructor
    · rintro (a | rfl)
      · obtain ⟨e, he, b⟩ := (h.2.2 j).mp a
        exact ⟨e, p2.mem_iff.mpr (List.mem_cons_of_mem _ he), b⟩
      · exact ⟨_, p2.mem_iff.mpr List.mem_cons_self, hk⟩
    · rintro ⟨e, he, b⟩
      rcases List.mem_cons.mp (p2.mem_iff.mp he) with z | z
      · subst z
        exact .inr (knd.inj _ _ _ b hk)
      · exact .inl ((h.2.2 j).mpr ⟨e, z, b⟩)

/-- a set that can be walked -/
def SD (knd : KeyKind P w K) (h : Heap) (a : Addr) (M : K → Prop) (n : Nat) : Prop :=
  ∃ o es ep t, h.get? a = some o ∧ o.ExactSet ∧ o.data = .set es ep t ∧ Ent knd es M ∧ Tb w es.size t ∧ es.size = n
theorem SD.at {h h' : Heap} {a : Addr} {M : K → Prop} {n : Nat} (s : SD knd h a M n) (k : ∀ o, h.get? a = some o → h'.get? a = some o) : SD knd h' a M n := by
  obtain ⟨o, es, ep, t, ho, r⟩ := s
  exact ⟨o, es, ep, t, k o ho, r⟩
theorem SD.congr {h : Heap} {a : Addr} {M M' : K → Prop} {n n' : Nat} (s : SD knd h a M n) (e : ∀ k, M' k ↔ M k) (en : n = n') : SD knd h a M' n' := by
  have q : M' = M := funext fun k => propext (e k)
  rw [q, ← en]
  exact s
theorem sd_fresh {h : Heap} (a : Addr) (ho : h.get? a = some { cls := .type "set", dict := none, data := .set #[] 0 (.fresh 0 0 (!w.params.followText "set-order")) }) : SD knd h a (fun _ => False) 0 := by
  refine ⟨_, #[], 0, _, ho, ⟨rfl, rfl, rfl⟩, rfl, ⟨fun e he => by simp at he, List.Pairwise.nil, fun k => by simp⟩, ⟨by decide, rfl, List.Pairwise.nil, ?_⟩, rfl⟩
  show _ ∨ (!w.params.followText "set-order") = true
  cases w.params.followText "set-order"
  · exact .inr rfl
  · exact .inl rfl

variable {A : Around} {E : Value → Shared → Prop} {s : Shared} {a : Addr}

theorem sd_laid {o : Obj} {es es' : Array (Int × Value)} {ep : Nat} {t t' : SetTable} {M : K → Prop} (h : Heap) (ho : h.get? a = some o) (hx : o.ExactSet) (hd : o.data = .set es ep t)
    (he : Ent knd es' M) (ht : Tb w es'.size t') :
    (h.update a (Obj.putSet es' t')).get? a = some { o with data := .set es' (ep + 1) t' } ∧ SD knd (h.update a (Obj.putSet es' t')) a M es'.size :=
  ⟨store_at ho hd, _, es', ep + 1, t', store_at ho hd, hx, rfl, he, ht, rfl⟩

theorem sd_tail {f : Bool → Sem Unit} (hf : ∀ b (z : Shared) (R : Unit → Shared → Prop), R () z → wpAny (model P w) A (f b) R E z)
    {o : Obj} {es es1 : Array (Int × Value)} {ep : Nat} {t t1 : SetTable} {M : K → Prop} (ho : s.heap.get? a = some o) (hx : o.ExactSet) (hd : o.data = .set es ep t)
    (he : Ent knd es1 M) (ht : Tb w es1.size t1) {wd : Bool} {R : Option Bool → Shared → Prop}
    (hR : ∀ h', Heap.SameBut a s.heap h' → SD knd h' a M es1.size → R (some true) { s with heap := h' }) :
    wpAny (model P w) A (storeSet a es1 t1 >>= fun _ =>
        if (!wd && t1.tooFull) = true then f (relayAll t1 es1 (SetTable.grown es1.size)).2.2 >>= fun _ =>
            storeSet a (relayAll t1 es1 (SetTable.grown es1.size)).1 (relayAll t1 es1 (SetTable.grown es1.size)).2.1 >>= fun _ => pure (some true)
          else pure (some true)) R E s := by
  refine wpAny_bind (wpAny_storeSet_of ho hd ?_ (fits_of_scanBound ht.1))
  obtain ⟨g1, d1⟩ := sd_laid (knd := knd) s.heap ho hx hd he ht
  have b1 := Heap.SameBut.update s.heap a (Obj.putSet es1 t1)
  by_cases c : (!wd && t1.tooFull) = true
  · rw [if_pos c]
    have pm := relayAll_perm t1 es1 (SetTable.grown es1.size)
    have sz : (relayAll t1 es1 (SetTable.grown es1.size)).1.size = es1.size := by rw [← Array.length_toList, pm.length_eq, Array.length_toList]
    have t2 : Tb w (relayAll t1 es1 (SetTable.grown es1.size)).1.size (relayAll t1 es1 (SetTable.grown es1.size)).2.1 :=
      ⟨by rw [sz]; exact ht.1, relayAll_fits t1 es1 (SetTable.grown es1.size), relayAll_ris t1 es1 (SetTable.grown es1.size), ht.2.2.2.imp id fun z => (relayAll_led t1 es1 (SetTable.grown es1.size)).trans z⟩
    refine wpAny_bind (hf _ _ _ ?_)
    refine wpAny_bind (wpAny_storeSet_of g1 rfl ?_ (fits_of_scanBound t2.1))
    obtain ⟨g2, d2⟩ := sd_laid (knd := knd) (s.heap.update a (Obj.putSet es1 t1)) g1 hx rfl (he.perm pm) t2
    exact wpAny_pure (hR _ (b1.trans (Heap.SameBut.update _ a _)) (d2.congr (fun _ => Iff.rfl) sz))
  · rw [if_neg c]
    exact wpAny_pure (hR _ b1 d1)

theorem sd_put {M : K → Prop} {n : Nat} {k : K} {x : Value} {Q : Bool → Shared → Prop} (hk : knd.is k x = true) (hx : x.scannable = true) (hS : SD knd s.heap a M n) (room : n + 1 < scanBound)
    (hQ : ∀ b h', Heap.SameBut a s.heap h' → ((M k ∧ SD knd h' a M n) ∨ (¬ M k ∧ SD knd h' a (fun j => M j ∨ j = k) (n + 1))) → Q b { s with heap := h' }) :
    wpAny (model P w) A (setAddHashed a x (knd.hash k)) Q E s := by
  obtain ⟨o, es, ep, t, ho, hex, hd, he, ht, hn⟩ := hS
  unfold setAddHashed setAddHashedIn
  refine wpAny_holding (wpAny_bind (wpAny_setState_of ho hd ht.2.1 ?_))
  dsimp only
  rw [byScan_of hx ht.1 he.1]
  simp only [↓reduceIte]
  unfold setAddByScan
  refine wpAny_bind (wpAny_bind (wpAny_rule (wpAny_bind (wpAny_setScan_of hk ho hd ht.2.1 he.1 ?_))))
  cases hfi : List.findIdx? (fun e => knd.is k e.2) es.toList with
  | some j =>
    obtain ⟨hj, pj, _⟩ := List.findIdx?_eq_some_iff_getElem.mp hfi
    have hM : M k := (he.2.2 k).mpr ⟨es.toList[j], List.getElem_mem hj, pj⟩
    exact wpAny_pure (wpAny_pure (hQ _ s.heap (Heap.SameBut.refl a s.heap) (.inl ⟨hM, o, es, ep, t, ho, hex, hd, he, ht, hn⟩)))
  | none =>
    have hM : ¬ M k := fun z => by
      obtain ⟨e, m, q⟩ := (he.2.2 k).mp z
      have c := List.findIdx?_eq_none_iff.mp hfi e m
      rw [q] at c
      cases c
    have pm := layNew_perm t es (knd.hash k) x
    have f1 := layNew_fits t es (knd.hash k) x
    have r1 := layNew_ris t es (knd.hash k) x ht.2.2.1
    have l1 := layNew_led t es (knd.hash k) x
    dsimp only
    generalize layNew t es (knd.hash k) x = Z at pm f1 r1 l1 ⊢
    obtain ⟨es1, t1, wd, gv⟩ := Z
    dsimp only at pm f1 r1 l1 ⊢
    rw [Array.toList_push] at pm
    have e1 := he.more hk hx hM pm
    have z1 : es1.size = n + 1 := by rw [← Array.length_toList, pm.length_eq, List.length_append, Array.length_toList, hn] <;> rfl
    have T1 : Tb w es1.size t1 := ⟨by rw [z1]; exact room, f1, r1, ht.2.2.2.imp id fun z => by rw [l1]; exact z⟩
    have fin : ∀ h', Heap.SameBut a s.heap h' → SD knd h' a (fun j => M j ∨ j = k) es1.size → Q true { s with heap := h' } := fun h' sb r => hQ _ h' sb (.inr ⟨hM, r.congr (fun _ => Iff.rfl) z1⟩)
    refine wpAny_bind ?_
    have gw : ∀ (b : Bool) (z : Shared) (R : Unit → Shared → Prop), R () z → wpAny (model P w) A (match b with | true => rule "set.scan.the-table-gave-way" | false => pure ()) R E z := by
      intro b z R q
      cases b
      · exact wpAny_pure q
      · exact wpAny_rule q
    refine gw _ _ _ ?_
    split
    · refine wpAny_bind ?_
      rw [hashByValue_scannable 8 hx]
      refine wpAny_pure (sd_tail gw ho hex hd e1 ?_ fun h' sb r => ?_)
      · split
        · exact T1
        · exact ⟨T1.1, SetTable.fits_plain_off T1.2.1, T1.2.2.1, T1.2.2.2⟩
      · exact wpAny_pure (fin h' sb r)
    · refine wpAny_bind (wpAny_pure ?_)
      simp only [↓reduceIte]
      refine sd_tail gw ho hex hd e1 T1 fun h' sb r => ?_
      exact wpAny_pure (fin h' sb r)
end
end Pu

set_option Elab.async false
set_option linter.all false
set_option maxRecDepth 100000
set_option maxHeartbeats 2000000
namespace Pu
open PySem PySem.Spec PyProof.Rows L2

section
variable {P : Program} {w : World} {K : Type} [DecidableEq K] {knd : KeyKind P w K}

/-- keys met ahead of place i -/
def Met (val : Nat → K) (i : Nat) : K → Prop := fun k => ∃ j, j < i ∧ val j = k
theorem met_succ (val : Nat → K) (i : Nat) (k : K) : Met val (i + 1) k ↔ (Met val i k ∨ k = val i) := by
  constructor
  · rintro ⟨j, hj, e⟩
    by_cases c : j = i
    · subst c
      exact .inr e.symm
    · exact .inl ⟨j, by omega, e⟩
  · rintro (⟨j, hj, e⟩ | e)
    · exact ⟨j, by omega, e⟩
    · exact ⟨i, by omega, e.symm⟩

variable {A : Around} {R : Result → Shared → Prop} {I : Addr} {fp wr : List Addr} {G : Array GenState → Array GenState → Prop} {n : Nat} {Pv : Nat → Value → Prop} {St : Nat → Shared → Prop}

theorem sd_loop (W : WalksS P w A.in1 I fp wr G n Pv St) (S : Addr) (hS : S ∉ fp) (val : Nat → K)
    (hv : ∀ i v, Pv i v → knd.is (val i) v = true ∧ v.scannable = true) (hb : n + 1 < scanBound) :
    ∀ (k i m : Nat) (s : Shared), n - i = k → i ≤ n → m ≤ i → St i s → SD knd s.heap S (Met val i) m →
      (∀ m' s', m' ≤ n → Moved (S :: wr) G s s' → SD knd s'.heap S (Met val n) m' → R (.ok (.ret .none)) s') →
      codeAny (model P w) A (.builtin "set.update.loop" ⟨[.ref S, .ref I], []⟩) R s := by
  have out : S ∉ wr := fun h => hS (W.sub _ h)
  have sub : ∀ b ∈ wr, b ∈ S :: wr := fun b hb => List.mem_cons_of_mem _ hb
  intro k
  induction k with
  | zero =>
    intro i m s e1 e2 e3 st sd fin
    obtain rfl : i = n := by omega
    refine codeAny_builtin F.entry_set_update_loop ?_
    rw [Around.under_plainId F.plain_set_update_loop _]
    show wpAny _ A.in1 (pyNext (.ref I) >>= _) _ _ s
    refine wpAny_bind (W.done s _ _ st fun s1 mv => ?_)
    show wpAny _ A.in1 (ret Value.none) _ _ s1
    exact wpAny_pure (fin m s1 e3 (mv.mono sub) (sd.at fun o e => mv.heap S o out e))
  | succ k ih =>
    intro i m s e1 e2 e3 st sd fin
    have lt : i < n := by omega
    refine codeAny_builtin F.entry_set_update_loop ?_
    rw [Around.under_plainId F.plain_set_update_loop _]
    show wpAny _ A.in1 (pyNext (.ref I) >>= _) _ _ s
    refine wpAny_bind (W.item i s _ _ lt st fun v s1 pv st1 mv => ?_)
    obtain ⟨hk, hx⟩ := hv i v pv
    have sd1 : SD knd s1.heap S (Met val i) m := sd.at fun o e => mv.heap S o out e
    show wpAny _ A.in1 (holding [v] (setAdd S v) >>= _) _ _ s1
    refine wpAny_bind (wpAny_holding ?_)
    unfold setAdd
    refine wpAny_holding (wpAny_bind (knd.pyHash hk ?_))
    refine sd_put (s := { s1 with toks := s1.toks + 1 }) hk hx sd1 (by omega) fun b h2 sb alt => ?_
    have nx : ∃ m2, m2 ≤ i + 1 ∧ SD knd h2 S (Met val (i + 1)) m2 := by
      rcases alt with ⟨a1, a2⟩ | ⟨a1, a2⟩
      · refine ⟨m, by omega, a2.congr (fun j => ?_) rfl⟩
        rw [met_succ]
        exact ⟨fun z => z.elim id fun e => e ▸ a1, .inl⟩
      · exact ⟨m + 1, by omega, a2.congr (fun j => met_succ val i j) rfl⟩
    obtain ⟨m2, hm2, sd2⟩ := nx
    refine wpAny_pure ⟨plainId_quiet F.plain_set_update_loop _, ih (i + 1) m2 _ (by omega) lt hm2 (W.frame _ s1 _ _ st1 (Nat.le_succ _) fun b hb o e => ?_) sd2 fun m3 s3 hm3 mv3 sd3 => ?_⟩
    · rw [sb.2 b (fun z : b = S => hS (z ▸ hb))]
      exact e
    · refine fin m3 s3 hm3 (Moved.trans W.gtrans ((mv.mono sub).then_heap (Nat.le_succ _) fun b o hb e => ?_) mv3) sd3
      rw [sb.2 b (fun z : b = S => hb (z ▸ List.mem_cons_self))]
      exact e
end

section
variable {P : Program} {w : World} {A : Around} {E : Value → Shared → Prop} {s : Shared}
theorem sd_made (x : Value) {Q : Value → Shared → Prop}
    (h : Q (.ref s.heap.objs.size) { s with heap := s.heap.push { cls := .type "set", dict := none, data := .set #[] 0 (.fresh 0 0 (!w.params.followText "set-order")) } }) :
    codeAny (model P w) A (.call (.builtin "set.__new__") ⟨[.type "set", x], []⟩) (wants Q E) s := by
  refine codeAny_of_tree ?_
  show wpAny _ A.in1 (checkBuiltinCall "set.__new__" ⟨[.type "set", x], []⟩ >>= fun _ => again (.builtin "set.__new__" ⟨[.type "set", x], []⟩)) _ _ s
  refine wpAny_bind (wpAny_of_eq (F.newCall_set_1 x) (wpAny_pure ⟨plainId_quiet F.plain_set_new _, codeAny_builtin F.entry_set_new ?_⟩))
  rw [Around.under_plainId F.plain_set_new _]
  unfold Builtin.«set.__new__» Builtin.Frozenset.newClass
  have q := sub_set_self
  obtain ⟨hp, g, d, tk, os⟩ := s
  dsimp only
  wp_walk
  refine wpAny_askSetting (wpAny_pure ?_)
  dsimp only
  simp only [newObj]
  exact wpAny_bind (wpAny_alloc (wpAny_pure (wpAny_pure h)))
end

section
variable {P : Program} {w : World} {K : Type} [DecidableEq K] {knd : KeyKind P w K} {A : Around} {E : Value → Shared → Prop} {s : Shared}
/-- the heap with the new empty set -/
def Hs0 (w : World) (h h0 : Heap) : Prop := h0.get? h.objs.size = some { cls := .type "set", dict := none, data := .set #[] 0 (.fresh 0 0 (!w.params.followText "set-order")) } ∧ h0.objs.size = h.objs.size + 1 ∧
  ∀ b o, h.get? b = some o → h0.get? b = some o
/-- what set.__init__ leaves -/
def Hs1 (knd : KeyKind P w K) (s : Shared) (n : Nat) (val : Nat → K) (z : Shared) : Prop := ∃ h' tk m, z = { s with heap := h', toks := tk } ∧ m ≤ n ∧ SD knd h' s.heap.objs.size (Met val n) m ∧
  ∀ b o, s.heap.get? b = some o → h'.get? b = some o
/-- a class called, its __init__ checked by hand -/
theorem call_made {T newId initId : String} {B : Builtin} {as : List Value} {Q Q1 : Value → Shared → Prop} (c : TypeCalled T newId initId) (c1 : checkTypeCall T ⟨as, []⟩ = pure ()) (c2 : entryFor table initId = some B)
    (mk : codeAny (model P w) A.in1 (.call (.builtin newId) ⟨.type T :: as, []⟩) (wants Q1 E) s)
    (nx : ∀ v z, Q1 v z → z.TypeIs v T ∧ (∀ (A2 : Around) (E2 : Value → Shared → Prop) (R : Unit → Shared → Prop), R () z → wpAny (model P w) A2 (checkBuiltinCall initId ⟨v :: as, []⟩) R E2 z) ∧
      wpAny (model P w) A.in1.in1 (B ⟨v :: as, []⟩)
        (fun r z2 => match r with | .done f => wants (fun u z3 => u = .none ∧ Q v z3) E (.ok f) z2 | .again k => k.quiet = true ∧ codeAny (model P w) A.in1 k (wants (fun u z3 => u = .none ∧ Q v z3) E) z2)
        (fun e z2 => wants (fun u z3 => u = .none ∧ Q v z3) E (.error e) z2) z) :
    wpAny (model P w) A (call (.type T) as) Q E s := by
  obtain ⟨m1, m2, hmro⟩ := c.mro
  have hmade := c.made
  have hsub := c.sub
  refine wpAny_call (codeAny_of_tree ?_)
  show wpAny _ _ (callAny (.type T) _) _ _ _
  refine wpAny_pure ⟨Code.quiet_builtin _ (by decide +kernel), codeAny_builtin F.entry_type_call ?_⟩
  rw [Around.under_plain (weight_type_call_type T as []) rfl]
  have n1 := c.notType
  have n2 := c.canCreate
  repeat (any_goals (first | assumption | wp_step))
  refine codeAny_mono mk fun r z hr => ?_
  cases r with
  | error e => exact hr
  | ok fl =>
    cases fl with
    | ret v =>
      obtain ⟨tT, ck, run⟩ := nx _ _ hr
      have i1 := c.init.lookup
      have i2 := c.init.bind v
      repeat (any_goals (first | assumption | wp_step))
      refine codeAny_mono (codeAny_call_builtin c.init.plain c2 (ck _ _ _ run)) fun r2 z2 hr2 => ?_
      cases r2 with
      | error e => exact hr2
      | ok fl2 =>
        cases fl2 with
        | ret u =>
          obtain ⟨rfl, hq⟩ := hr2
          repeat (any_goals (first | assumption | wp_step))
        | _ => exact hr2.elim
    | _ => exact hr.elim
/-- set(xs) of a list whose things are keys -/
theorem call_setD {l : Addr} {items : Array Value} (val : Nat → K) {Q : Value → Shared → Prop} (hh : A.handled = none) (hl : s.heap.IsList l items)
    (hv : ∀ i v, items[i]? = some v → knd.is (val i) v = true ∧ v.scannable = true) (hb : items.size + 1 < scanBound)
    (h : ∀ z, Hs1 knd s items.size val z → Q (.ref s.heap.objs.size) z) :
    wpAny (model P w) A (call (.type "set") [.ref l]) Q E s := by
  refine call_made (Q1 := fun v z => v = .ref s.heap.objs.size ∧ ∃ h0, z = { s with heap := h0 } ∧ Hs0 w s.heap h0) F.called_set (F.typeCall_set_1 (.ref l)) F.entry_set_init
    (sd_made (P := P) (.ref l) ⟨rfl, _, rfl, Heap.get?_push_size _ rfl, Heap.size_push .., fun b o e => Heap.get?_push_of_some _ e⟩) ?_
  rintro _ _ ⟨rfl, h0, rfl, gS, z1, kp⟩
  refine ⟨⟨_, gS, rfl⟩, fun A2 E2 R hR => check_set_init_1 ⟨_, gS, rfl⟩ hR, ?_⟩
  obtain ⟨ol, hol, hcl, nl, hdl⟩ := hl
  obtain ⟨ocls, odict, odata, oslots⟩ := ol
  simp only at hcl hdl
  subst hcl; subst hdl
  have hol' := kp _ _ hol
  have s1 := F.sub_list_set
  have s2 := F.sub_list_frozenset
  have s3 : (Value.type "list" == Value.type "dict") = false := by decide
  have hl1 : h0.IsList l items := ⟨_, hol', rfl, nl, rfl⟩
  have lS : l < s.heap.objs.size := Heap.lt_size hol
  unfold Builtin.«set.__init__» noKeywords Builtin.Frozenset.updateFrom
  generalize hPI : pyIter = PI
  wp_walk
  subst hPI
  refine wpAny_pyIter_list hl1 ?_
  refine wpAny_bind (wpAny_runValue ?_)
  have hh3 : A.in1.in1.in1.handled = none := by simp [hh]
  have nI : l ≠ h0.objs.size := by
    rw [z1]; exact Nat.ne_of_lt (Nat.lt_succ_of_lt lS)
  have fS : s.heap.objs.size ∉ [h0.objs.size, l] := by
    rw [z1]
    simp only [List.mem_cons, List.not_mem_nil, or_false, not_or]
    exact ⟨Nat.ne_of_lt (Nat.lt_succ_self _), Nat.ne_of_gt lS⟩
  refine sd_loop (knd := knd) ((Walks.list hh3 _ l nI items).toS) s.heap.objs.size fS val hv hb (items.size - 0) 0 0 _ (by omega) (Nat.zero_le _) (Nat.le_refl _)
    ⟨⟨_, Heap.get?_push_size _ rfl, rfl, rfl⟩, (hl1.push _)⟩ ((sd_fresh _ (Heap.get?_push_of_some _ gS)).congr (fun k => ⟨fun ⟨j, hj, _⟩ => by omega, False.elim⟩) rfl) ?_
  intro m z hm mv sd
  obtain ⟨h', g', d', tk', os'⟩ := z
  obtain rfl : g' = s.gens := mv.gens
  obtain rfl : d' = s.drawn := mv.drawn
  obtain rfl : os' = s.os := mv.os
  show wpAny _ _ _ _ _ _
  refine wpAny_pure ?_
  show wpAny _ _ (ret Value.none) _ _ _
  refine wpAny_pure ⟨rfl, h _ ⟨h', tk', m, rfl, hm, sd, fun b o e => ?_⟩⟩
  have hb := Heap.lt_size e
  refine mv.heap b o ?_ (Heap.get?_push_of_some _ (kp _ _ e))
  rw [z1]
  simp only [List.mem_cons, List.not_mem_nil, or_false, not_or]
  exact ⟨Nat.ne_of_lt hb, Nat.ne_of_lt (Nat.lt_succ_of_lt hb)⟩
end
end Pu

set_option Elab.async false
set_option linter.all false
set_option maxRecDepth 100000
set_option maxHeartbeats 2000000
namespace Pu
open PySem PySem.Spec PyProof.Rows L2

/-! ### texts in order -/
def leS (x y : Str) : Bool := decide (x.cps.toList ≤ y.cps.toList)
theorem leS_eq : PySem.W.dataLe false (fun (b : Str) => PyData.str b) = leS := PySem.W.dataLe_str fun b => b
theorem leS_trans (x y z : Str) : leS x y = true → leS y z = true → leS x z = true := by
  unfold leS
  simp only [decide_eq_true_eq]
  exact fun a b => List.le_trans a b
theorem leS_total (x y : Str) : (leS x y || leS y x) = true := by
  unfold leS
  rw [Bool.or_eq_true, decide_eq_true_eq, decide_eq_true_eq]
  exact List.le_total _ _
theorem leS_anti (x y : Str) (a : leS x y = true) (b : leS y x = true) : x = y := by
  unfold leS at a b
  rw [decide_eq_true_eq] at a b
  have q := List.le_antisymm a b
  cases x
  cases y
  simp only [Str.mk.injEq]
  exact Array.toList_inj.mp q
/-- each once -/
def once [DecidableEq α] : List α → List α
  | [] => []
  | x :: xs => if x ∈ xs then once xs else x :: once xs
theorem once_mem [DecidableEq α] : ∀ (xs : List α) (y : α), y ∈ once xs ↔ y ∈ xs
  | [], y => Iff.rfl
  | x :: xs, y => by
    unfold once
    by_cases h : x ∈ xs
    · rw [if_pos h, once_mem xs y, List.mem_cons]
      exact ⟨.inr, fun z => z.elim (fun e => e ▸ h) id⟩
    · rw [if_neg h, List.mem_cons, List.mem_cons, once_mem xs y]
theorem once_nodup [DecidableEq α] : ∀ xs : List α, (once xs).Nodup
  | [] => List.nodup_nil
  | x :: xs => by
    unfold once
    by_cases h : x ∈ xs
    · rw [if_pos h]
      exact once_nodup xs
    · rw [if_neg h]
      exact List.nodup_cons.mpr ⟨fun z => h ((once_mem xs x).mp z), once_nodup xs⟩
/-- sorted(set(xs)) -/
def sset (xs : List Str) : List Str := (once xs).mergeSort leS
theorem sset_eq {xs ys : List Str} (n : ys.Nodup) (m : ∀ x, x ∈ ys ↔ x ∈ xs) : ys.mergeSort leS = sset xs := by
  refine List.Perm.eq_of_pairwise (le := fun a b => leS a b = true) (fun a b _ _ h k => leS_anti a b h k) (List.pairwise_mergeSort leS_trans leS_total _) (List.pairwise_mergeSort leS_trans leS_total _) ?_
  refine ((List.mergeSort_perm _ _).trans ?_).trans (List.mergeSort_perm _ _).symm
  exact (List.perm_ext_iff_of_nodup n (once_nodup xs)).mpr fun a => (m a).trans (once_mem xs a).symm

/-! ### the set of a list of texts -/
def SSO (P : Program) (w : World) (a : Addr) (xs : List Str) : HO := .ext fun h => ∃ n, n ≤ xs.length ∧ SD (strKind P w) h a (· ∈ xs) n
theorem sso_new {P : Program} {w : World} {H : Hp} {h : Heap} {a : Addr} {xs : List Str} {n : Nat} (hn : n ≤ xs.length) (R : SD (strKind P w) h a (· ∈ xs) n) : ObjOk P w H h a (SSO P w a xs) := by
  have ⟨o, _, _, _, ho, _⟩ := R
  exact ⟨⟨n, hn, R⟩, ⟨o, ho⟩, fun h1 h2 ⟨m, hm, p⟩ k => ⟨m, hm, p.at k⟩⟩
def rSetS (K : PySem.W.Frag) (P : Program) (w : World) : List V → Hp → VK → Prop := fun vs H Q => ∃ (l : Addr) (xs : List Str), vs = [.ref l] ∧ SqL K H l (xs.map V.str) ∧ xs.length + 1 < scanBound ∧
  ∀ p, H p = none → Q (.ref p) (upd H p (SSO P w p xs))
theorem strs_at : ∀ {xs : List Str} {us : List Value}, Vals (xs.map V.str) us → us.length = xs.length ∧ ∀ (i : Nat) (v : Value), us[i]? = some v → ∃ t, v = .str ((xs[i]?).getD default) t
  | [], _, .nil => ⟨rfl, fun _ _ h => by simp at h⟩
  | x :: xs, _, .cons r t => by
    obtain ⟨h1, h2⟩ := strs_at t
    refine ⟨by rw [List.length_cons, List.length_cons, h1], fun i v e => ?_⟩
    cases i with
    | zero =>
      obtain ⟨k, q⟩ := r
      simp only [List.getElem?_cons_zero, Option.some.injEq] at e
      subst e
      exact ⟨k, q⟩
    | succ i =>
      simp only [List.getElem?_cons_succ] at e
      exact h2 i v e
theorem met_mem (xs : List Str) (k : Str) : k ∈ xs ↔ Met (fun i => (xs[i]?).getD default) xs.length k := by
  constructor
  · intro h
    obtain ⟨i, hi, e⟩ := List.mem_iff_getElem.mp h
    refine ⟨i, hi, ?_⟩
    show (xs[i]?).getD default = k
    rw [List.getElem?_eq_getElem hi, e] <;> rfl
  · rintro ⟨i, hi, e⟩
    have e : (xs[i]?).getD default = k := e
    rw [List.getElem?_eq_getElem hi] at e
    have e : xs[i] = k := e
    exact e ▸ List.getElem_mem hi
theorem cr_setS {X : Cx} (hc : X.calm = true) : CallR X (.type "set") (rSetS X.K X.prog X.w) := by
  intro pins s σ H vs us Q I r h
  obtain ⟨l, xs, rfl, hl, hb, q⟩ := h
  rw [Vals.ref1 r]
  obtain ⟨its, rv, pl, hz⟩ := I.list hl
  obtain ⟨n1, n2⟩ := strs_at rv
  have hsz : its.toArray.size = xs.length := by rw [← Array.length_toList]; exact n1
  have hn : H s.heap.objs.size = none := I.hok.fresh (Nat.le_refl _)
  refine call_setD (P := X.prog) (w := X.w) (knd := strKind X.prog X.w) (fun i => (xs[i]?).getD default) (I.ok.hd hc) pl.isList (fun i v e => ?_) (by rw [hsz]; exact hb) fun z hz => ?_
  · obtain ⟨t, rfl⟩ := n2 i v (by simpa using e)
    exact ⟨strKind_is _ _ _ _, rfl⟩
  · obtain ⟨h', tk, m, rfl, hm, sd, kp⟩ := hz
    rw [hsz] at hm sd
    exact ⟨.ref s.heap.objs.size, upd H s.heap.objs.size (SSO X.prog X.w s.heap.objs.size xs), I.laid (t' := tk) kp (Nat.le_refl _) (sso_new hm (sd.congr (fun k => met_mem xs k) rfl)), rfl, q _ hn⟩

def rSortSS (P : Program) (w : World) : List V → Hp → VK → Prop := fun vs H Q => ∃ (a : Addr) (xs : List Str), vs = [.ref a] ∧ H a = some (SSO P w a xs) ∧ xs.length < scanBound ∧
  ∀ p, H p = none → Q (.ref p) (upd H p (.lst ((sset xs).map V.str)))
theorem keys_of {P : Program} {w : World} : ∀ {l : List (Int × Value)}, ElemsOf (strKind P w) l → ∃ ks : List Str, PySem.W.EachIs (fun v k => ∃ t, v = Value.str k t) (l.map (·.2)) ks
  | [], _ => ⟨[], .nil⟩
  | e :: l, h => by
    obtain ⟨ks, q⟩ := keys_of h.tail
    obtain ⟨⟨k, hk, _⟩, _⟩ := h.head
    exact ⟨k :: ks, .cons (Value.isStrOf_shape hk) q⟩
theorem each_get {α β : Type} {R : α → β → Prop} : ∀ {xs : List α} {ys : List β}, PySem.W.EachIs R xs ys → (∀ x ∈ xs, ∃ y ∈ ys, R x y) ∧ (∀ y ∈ ys, ∃ x ∈ xs, R x y) ∧ xs.length = ys.length
  | _, _, .nil => ⟨(fun _ h => nomatch h), (fun _ h => nomatch h), rfl⟩
  | _, _, .cons r t => by
    obtain ⟨h1, h2, h3⟩ := each_get t
    refine ⟨fun x hx => ?_, fun y hy => ?_, by rw [List.length_cons, List.length_cons, h3]⟩
    · rcases List.mem_cons.mp hx with e | e
      · subst e
        exact ⟨_, List.mem_cons_self, r⟩
      · obtain ⟨y, a, b⟩ := h1 x e
        exact ⟨y, List.mem_cons_of_mem _ a, b⟩
    · rcases List.mem_cons.mp hy with e | e
      · subst e
        exact ⟨_, List.mem_cons_self, r⟩
      · obtain ⟨x, a, b⟩ := h2 y e
        exact ⟨x, List.mem_cons_of_mem _ a, b⟩
/-- texts of values are told by the values: apart where these are -/
theorem nodup_keys {P : Program} {w : World} : ∀ {vs : List Value} {ks : List Str}, PySem.W.EachIs (fun v k => ∃ t, v = Value.str k t) vs ks → vs.Pairwise (fun u v => ∀ k, (strKind P w).is k u = true → (strKind P w).is k v = true → False) → ks.Nodup
  | _, _, .nil, _ => List.nodup_nil
  | _, _, .cons r t, h => by
    obtain ⟨h1, h2⟩ := List.pairwise_cons.mp h
    refine List.nodup_cons.mpr ⟨fun z => ?_, nodup_keys t h2⟩
    obtain ⟨v, hv, tk, e⟩ := (each_get t).2.1 _ z
    obtain ⟨tk2, e2⟩ := r
    rename_i k0 _ _
    refine h1 v hv k0 ?_ ?_
    · rw [e2]
      exact strKind_is _ _ _ _
    · rw [e]
      exact strKind_is _ _ _ _
theorem reads_each {h : Heap} {S : Addr} : ∀ {vs : List Value} {ks : List Str}, PySem.W.EachIs (fun v k => ∃ t, v = Value.str k t) vs ks → PySem.W.EachIs (fun v (k : Str) => ∃ as, Reads h v (PyData.str k) as ∧ S ∉ as) vs ks
  | _, _, .nil => .nil
  | _, _, .cons ⟨t, e⟩ r => .cons ⟨[], by rw [e]; exact .str _ _, List.not_mem_nil⟩ (reads_each r)
theorem all_texts (ks : List Str) : PySem.W.AllAlike (ks.map fun k => PyData.str k) ∧ PySem.W.Sortable (ks.map fun k => PyData.str k) :=
  ⟨PySem.W.AllAlike.of fun _ _ => rfl, PySem.W.Sortable.others fun _ => ⟨nofun, nofun⟩⟩
theorem vals_texts : ∀ {ks : List Str} {us : List Value}, PySem.W.EachIs (fun v k => ∃ t, v = Value.str k t) us ks → Vals (ks.map V.str) us
  | _, _, .nil => .nil
  | _, _, .cons r t => .cons r (vals_texts t)
theorem cr_sortSS {X : Cx} (hc : X.calm = true) (hu : X.A.units + 64 < cLine) : CallR X (.builtin "sorted") (rSortSS X.prog X.w) := by
  intro pins s σ H vs us Q I r h
  obtain ⟨a, xs, rfl, ha, hb, q⟩ := h
  rw [Vals.ref1 r]
  obtain ⟨⟨n, hn, o, es, ep, t, ho, hex, hd, he, ht, hz⟩, _, _⟩ := I.hok a _ ha
  refine Calls.call_function_entry kind_sorted plain_sorted entry_sorted (args_sorted1 _) ?_
  unfold Builtin.«sorted»
  refine wpAny_bind (m := checkCount "sorted" 1 1 _) (wpAny_pure ?_)
  refine wpAny_bind (collect_set (A := X.A.in1) (I.ok.hd hc) ⟨o, ho, hex.1, hd⟩ ht.2.1 ht.1 ht.2.2.1 ht.2.2.2 fun s1 ws k1 zz g1 o1 pm => ?_)
  have wl : ws.length = n := by rw [pm.length_eq, List.length_map, Array.length_toList]; exact hz
  obtain ⟨ks, hk⟩ := keys_of (P := X.prog) (w := X.w) he.1
  have nk : ws.Pairwise (fun u v => ∀ k, (strKind X.prog X.w).is k u = true → (strKind X.prog X.w).is k v = true → False) :=
    (pm.symm.pairwise_iff (fun {x y} h k a b => h k b a)).mp (List.pairwise_map.mpr he.2.1)
  have hws : ∃ ks2 : List Str, PySem.W.EachIs (fun v k => ∃ t, v = Value.str k t) ws ks2 := by
    have all : ∀ v ∈ ws, ∃ k t, v = Value.str k t := fun v hv => by
      obtain ⟨k, _, t, e⟩ := (each_get hk).1 v (pm.mem_iff.mp hv)
      exact ⟨k, t, e⟩
    clear pm nk wl
    induction ws with
    | nil => exact ⟨[], .nil⟩
    | cons v ws ih =>
      obtain ⟨ks2, z⟩ := ih fun u hu => all u (List.mem_cons_of_mem _ hu)
      obtain ⟨k, t, e⟩ := all v List.mem_cons_self
      exact ⟨k :: ks2, .cons ⟨t, e⟩ z⟩
  obtain ⟨k2, hk2⟩ := hws
  have kn : k2.Nodup := nodup_keys hk2 nk
  have km : ∀ x, x ∈ k2 ↔ x ∈ xs := fun x => by
    refine Iff.trans ?_ (he.2.2 x).symm
    constructor
    · intro hx
      obtain ⟨v, hv, t, e⟩ := (each_get hk2).2.1 x hx
      obtain ⟨en, hen, e2⟩ := List.mem_map.mp (pm.mem_iff.mp hv)
      refine ⟨en, hen, ?_⟩
      rw [e2, e]
      exact strKind_is _ _ _ _
    · rintro ⟨en, hen, e⟩
      obtain ⟨t, e2⟩ := Value.isStrOf_shape e
      obtain ⟨y, hy, t2, e3⟩ := (each_get hk2).1 en.2 (pm.mem_iff.mpr (List.mem_map.mpr ⟨en, hen, rfl⟩))
      rw [e2] at e3
      cases e3
      exact hy
  have kl : k2.length = n := by rw [← (each_get hk2).2.2]; exact wl
  have small : k2.length ≤ sizeLine := by
    rw [kl]
    exact fits_of_scanBound (by omega)
  refine wpAny_bind (wpAny_newList ?_ (by rw [wl, ← kl]; exact small))
  have hoL : (s1.heap.push (seqObj "list" ws.toArray 0)).get? s1.heap.objs.size = some (seqObj "list" ws.toArray 0) := Heap.get?_push_size _ rfl
  refine wpAny_bind (wpAny_holding (PySem.W.list_sort_data (enc := fun k => PyData.str k) hoL hk2 (reads_each hk2) (all_texts k2).1 (all_texts k2).2 small (fun b _ => ?_) fun out lo eo => ?_))
  · show X.A.in1.units + 1 + 0 < cLine
    have : X.A.in1.units ≤ X.A.units + 1 := by first | exact Nat.le_refl _ | (simp [Around.in1]; done) | exact Nat.le_of_eq rfl
    omega
  obtain ⟨c, hc2⟩ := sortedHeap_at (vs := ws) (out := out.toArray) hoL
  rw [leS_eq, sset_eq kn km] at eo
  have hp : s.heap.objs.size ≤ s1.heap.objs.size := zz
  have hN : H s1.heap.objs.size = none := I.hok.fresh hp
  have keep : ∀ b u, s.heap.get? b = some u → (sortedHeap (s1.heap.push (seqObj "list" ws.toArray 0)) s1.heap.objs.size ws out.toArray).get? b = some u := fun b u e => by
    have z := k1 b u e
    have lt := Heap.lt_size z
    rw [sortedHeap_old (Nat.ne_of_lt lt) (by rw [size_push']; exact Nat.lt_succ_of_lt lt)]
    exact Heap.get?_push_of_some _ z
  have lm : ((sset xs).map V.str).length ≤ sizeLine := by
    have e := (each_get eo).2.2
    rw [List.length_map, ← e, lo]
    exact small
  have J : Inv X pins σ (upd H s1.heap.objs.size (.lst ((sset xs).map V.str))) { s with heap := sortedHeap (s1.heap.push (seqObj "list" ws.toArray 0)) s1.heap.objs.size ws out.toArray, gens := s1.gens, drawn := s1.drawn, toks := s1.toks } :=
    I.call (ch := []) (Un.laid keep hp hN) (I.hok.laid keep hp ⟨lm, out, c, vals_texts eo, hc2⟩) (by rw [g1]; exact I.bare) (fun _ z => nomatch z)
  refine wpAny_pure ⟨_, rfl, .ref s1.heap.objs.size, _, ?_, rfl, q _ hN⟩
  have e : ({ s1 with heap := sortedHeap (s1.heap.push (seqObj "list" ws.toArray 0)) s1.heap.objs.size ws out.toArray } : Shared) = { s with heap := sortedHeap (s1.heap.push (seqObj "list" ws.toArray 0)) s1.heap.objs.size ws out.toArray, gens := s1.gens, drawn := s1.drawn, toks := s1.toks } := by
    cases s1
    cases s
    cases o1
    rfl
  exact e ▸ J
end Pu

set_option Elab.async false
set_option linter.all false
set_option maxRecDepth 100000
set_option maxHeartbeats 2000000
namespace Pu
open PySem PySem.Spec PyProof.Rows L2

/-! ### sorted(set(xs)) by values -/
def strOf : List D → Option (List Str)
  | [] => some []
  | .str x :: r => (strOf r).map (x :: ·)
  | _ :: _ => none
theorem strOf_inv : ∀ {ds : List D} {xs : List Str}, strOf ds = some xs → ds = xs.map PyData.str
  | [], _, h => by cases h; rfl
  | d :: ds, xs, h => by
    unfold strOf at h
    split at h
    · rename_i e
      cases e
    · rename_i x r e
      cases e
      cases h2 : strOf ds with
      | none => rw [h2] at h; cases h
      | some ys =>
        rw [h2] at h
        cases h
        rw [strOf_inv h2] <;> rfl
    · cases h
theorem strOf_map (xs : List Str) : strOf (xs.map PyData.str) = some xs := by
  induction xs with
  | nil => rfl
  | cons x xs ih =>
    show (strOf (xs.map PyData.str)).map (x :: ·) = _
    rw [ih] <;> rfl
theorem rp_strs {F : Hp} : ∀ {xs : List Str} {vs : List V}, RpAll F vs (xs.map PyData.str) → vs = xs.map V.str
  | [], _, h => by cases h; rfl
  | x :: xs, _, h => by
    cases h with
    | cons h t =>
      cases h
      rw [rp_strs t] <;> rfl
theorem strs_rp {F : Hp} : ∀ (xs : List Str), RpAll F (xs.map V.str) (xs.map PyData.str)
  | [] => .nil
  | x :: xs => .cons (.str x) (strs_rp xs)
def sSSet (m : M (List R)) : M R := fun ρ => match m ρ with
  | none => none
  | some (rs, ρ1) => match rds ρ1 rs with
    | some [.list ds] => (match strOf ds with
      | some xs => if xs.length ≤ 4000 then some (.own ((sset xs).map PyData.str), ρ1) else none
      | none => none)
    | _ => none
theorem ev_sset {K : PySem.W.Frag} {P : Program} {w : World} {t : TA} {m : M (List R)} (h : EvA t m) : EvR (tCB (rSortSS P w) (tCons (tCB (rSetS K P w) t) tNil)) (sSSet m) := by
  intro par B F0 F H σ ρ z ρ' e S Q q
  unfold sSSet at e
  split at e
  · cases e
  · rename_i rs ρ1 e1
    split at e
    · rename_i ds e2
      split at e
      · rename_i xs e3
        split at e
        · rename_i hz
          cases e
          obtain rfl := strOf_inv e3
          have sb : scanBound = 4096 := rfl
          refine h par B F0 F H σ ρ rs ρ' e1 S _ fun vs F1 H1 x1 S1 h1 => ?_
          obtain ⟨v, rfl, hv⟩ := p1 (rds_ok S1 h1.1 e2)
          obtain ⟨p, ws, rfl, h2, h3⟩ := hv.list S1.fh
          obtain rfl := rp_strs h3
          refine ⟨p, xs, rfl, .inl h2, by omega, fun p2 hp2 => ?_⟩
          refine ⟨p2, xs, rfl, upd_same, by omega, fun p3 hp3 => ?_⟩
          have S2 : Sta par B F0 F1 (upd H1 p2 (SSO P w p2 xs)) σ ρ' := S1.newL hp2
          exact q (.ref p3) F1 _ x1 (S2.newL hp3) (newL_rep S2 hp3 (strs_rp _))
        · cases e
      · cases e
    · cases e

/-! ### list(text), tuple(text) -/
theorem signs_vals : ∀ (cs : List Nat) (us : List Value), us.length = cs.length → (∀ (i : Nat) (v : Value), us[i]? = some v → ∃ c u, cs[i]? = some c ∧ v = .str ⟨#[c]⟩ u) → Vals (cs.map fun c => V.str ⟨#[c]⟩) us
  | [], [], _, _ => .nil
  | c :: cs, u :: us, h, f => by
    refine .cons ?_ (signs_vals cs us (by simpa using h) fun i v e => f (i + 1) v e)
    obtain ⟨c', t, e1, e2⟩ := f 0 u rfl
    cases e1
    exact ⟨t, e2⟩
theorem signs_items {x : Str} {acc : Array Value} (h : ItemsOf (SignAt x) acc x.cps.size) : Vals (x.cps.toList.map fun c => V.str ⟨#[c]⟩) acc.toList := by
  refine signs_vals _ _ (by rw [Array.length_toList, Array.length_toList]; exact h.1) fun i v e => ?_
  obtain ⟨c, u, e1, e2⟩ := h.2 i v (by rw [← Array.getElem?_toList]; exact e)
  exact ⟨c, u, by rw [Array.getElem?_toList]; exact e1, e2⟩
def rListS : List V → Hp → VK → Prop := fun vs H Q => ∃ x : Str, vs = [.str x] ∧ x.length ≤ sizeLine ∧ ∀ p, H p = none → Q (.ref p) (upd H p (.lst (x.cps.toList.map fun c => V.str ⟨#[c]⟩)))
def rTupS : List V → Hp → VK → Prop := fun vs H Q => ∃ x : Str, vs = [.str x] ∧ x.length ≤ sizeLine ∧ ∀ p, H p = none → Q (.ref p) (upd H p (.tup (x.cps.toList.map fun c => V.str ⟨#[c]⟩)))
theorem cr_listS {X : Cx} (hc : X.calm = true) : CallR X (.type "list") rListS := by
  intro pins s σ H vs us Q I r h
  obtain ⟨x, rfl, hz, q⟩ := h
  cases r with
  | cons r1 r2 =>
    cases r2
    obtain ⟨t, rfl⟩ := r1
    have hz' : x.cps.size ≤ sizeLine := hz
    refine call_list_str (I.ok.hd hc) x t (fun h' tk acc c kp hg hi => ?_) hz'
    refine ⟨.ref s.heap.objs.size, _, I.laid (t' := tk) kp (Nat.le_refl _) (o := .lst (x.cps.toList.map fun c => V.str ⟨#[c]⟩)) ⟨by rw [List.length_map, Array.length_toList]; exact hz', acc.toList, c, signs_items hi, hg⟩, rfl, q _ (I.hok.fresh (Nat.le_refl _))⟩
theorem cr_tupS {X : Cx} (hc : X.calm = true) : CallR X (.type "tuple") rTupS := by
  intro pins s σ H vs us Q I r h
  obtain ⟨x, rfl, hz, q⟩ := h
  cases r with
  | cons r1 r2 =>
    cases r2
    obtain ⟨t, rfl⟩ := r1
    have hz' : x.cps.size ≤ sizeLine := hz
    refine call_tuple_str (I.ok.hd hc) x t (fun h' tk acc kp hi => ?_) hz'
    have hp : s.heap.get? h'.objs.size = none := by
      cases e : s.heap.get? h'.objs.size with
      | none => rfl
      | some o => exact absurd (Heap.lt_size (kp _ _ e)) (Nat.lt_irrefl _)
    have hn : H h'.objs.size = none := I.hok.gone hp
    exact ⟨.ref h'.objs.size, _, I.laidN (t' := tk) (fun b o e => Heap.get?_push_of_some _ (kp b o e)) hp hn (o := .tup (x.cps.toList.map fun c => V.str ⟨#[c]⟩)) ⟨by rw [List.length_map, Array.length_toList]; exact hz', acc.toList, signs_items hi, IsTup.new _ _⟩, rfl, q _ hn⟩
theorem signs_rp {F : Hp} : ∀ (cs : List Nat), RpAll F (cs.map fun c => V.str ⟨#[c]⟩) (cs.map fun c => PyData.str ⟨#[c]⟩)
  | [] => .nil
  | c :: cs => .cons (.str _) (signs_rp cs)
def gListS : List D → Option R
  | [.str x] => if x.length ≤ big then some (.own (signs x)) else none
  | _ => none
def gTupS : List D → Option R
  | [.str x] => if x.length ≤ big then some (.d (.tuple (signs x))) else none
  | _ => none
theorem cs_listS : CallS rListS gListS := by
  intro par B F0 F H σ ρ vs xs z e S hv Q q
  unfold gListS at e
  split at e
  · split at e
    · rename_i hz
      cases e
      obtain ⟨v, rfl, h⟩ := p1 hv
      rw [rdv_str h]
      exact ⟨_, rfl, Nat.le_trans hz big_line, fun p hp => q (.ref p) F _ (Ex.refl F) (S.newL hp) (newL_rep S hp (signs_rp _))⟩
    · cases e
  · cases e
theorem cs_tupS : CallS rTupS gTupS := by
  intro par B F0 F H σ ρ vs xs z e S hv Q q
  unfold gTupS at e
  split at e
  · split at e
    · rename_i hz
      cases e
      obtain ⟨v, rfl, h⟩ := p1 hv
      rw [rdv_str h]
      exact ⟨_, rfl, Nat.le_trans hz big_line, fun p hp => q (.ref p) _ _ (Ex.new (S.fh.back hp)) (S.newT hp) (newT_rep S hp (signs_rp _))⟩
    · cases e
  · cases e

/-! ### the signs of a text, walked -/
theorem walk_str {F : Hp} {x : Str} : Walk F (Its x) (signs x) := by
  intro i F' H' x1 x2
  have len : (signs x).length = x.cps.size := by unfold signs; rw [List.length_map, Array.length_toList]
  refine ⟨fun hi => by rw [len] at hi; exact hi, fun d hd => ?_⟩
  have hi : i < x.cps.size := by rw [← len]; exact (List.getElem?_eq_some_iff.mp hd).1
  refine ⟨hi, fun y H'' z => ?_⟩
  obtain ⟨rfl, c, hc, rfl⟩ := z
  refine .inl ⟨rfl, ?_⟩
  unfold signs at hd
  rw [List.getElem?_map, Array.getElem?_toList, hc] at hd
  cases hd
  exact .str _
def iAny (m : M R) : M (List D) := fun ρ => match iSq m ρ with
  | some z => some z
  | none => match m ρ with
    | some (.d (.str x), ρ1) => some (signs x, ρ1)
    | _ => none
theorem ei_any {K : PySem.W.Frag} {te : TE} {m : M R} (h : EvR te m) : EvI (iEither (iEither (iList K te) (iTup K te)) (iStr te)) (iAny m) := by
  intro par B F0 F H σ ρ xs ρ' e S R q
  unfold iAny at e
  split at e
  · rename_i z e1
    cases e
    exact .inl (ei_sq h par B F0 F H σ ρ xs ρ' e1 S R q)
  · split at e
    · rename_i x ρ1 e1
      cases e
      refine .inr (h par B F0 F H σ ρ _ ρ' e1 S _ fun v F1 H1 x1 S1 h1 => ?_)
      cases h1
      exact ⟨x, rfl, q _ F1 H1 x1 S1 walk_str⟩
    · cases e
end Pu

set_option Elab.async false
set_option linter.all false
set_option maxRecDepth 100000
set_option maxHeartbeats 2000000
namespace Pu
open PySem PySem.Spec PyProof.Rows L2

/-! ### t[::-1] -/
section
variable {P : Program} {w : World} {A : Around} {E : Value → Shared → Prop} {s : Shared}
theorem adjust_back (n : Nat) : Builtin.Slice.sliceAdjust none none (-1) (n : Int) = ((n : Int) - 1, -1) := rfl
theorem places_back (n : Nat) : Builtin.Slice.slicePlaces ((n : Int) - 1) (-1) (-1) = n := by
  unfold Builtin.Slice.slicePlaces
  rw [if_neg (by decide)]
  by_cases h : (n : Int) - 1 > -1
  · rw [if_pos h]
    have e : (-(-1) : Int) = 1 := rfl
    rw [e, Int.ediv_one]
    omega
  · rw [if_neg h]
    omega
theorem pick_back (xs : List Value) : ((List.range xs.length).filterMap fun (m : Nat) => xs.toArray[((xs.length : Int) - 1 + (m : Int) * -1).toNat]?) = xs.reverse := by
  have e : ∀ m, m ∈ List.range xs.length → xs.toArray[((xs.length : Int) - 1 + (m : Int) * -1).toNat]? = some (xs.reverse.getD m Value.none) := fun m hm => by
    have hm := List.mem_range.mp hm
    have q : ((xs.length : Int) - 1 + (m : Int) * -1).toNat = xs.length - 1 - m := by omega
    rw [q, List.getElem?_toArray, List.getD_eq_getElem?_getD, List.getElem?_reverse hm, List.getElem?_eq_getElem (by omega)] <;> rfl
  have e2 : (List.range xs.length).filterMap (fun (m : Nat) => xs.toArray[((xs.length : Int) - 1 + (m : Int) * -1).toNat]?) = (List.range xs.length).map fun m => xs.reverse.getD m Value.none := by
    revert e
    generalize List.range xs.length = l
    intro e
    induction l with
    | nil => rfl
    | cons a l ih =>
      rw [List.filterMap_cons, e a List.mem_cons_self, List.map_cons, ih fun m hm => e m (List.mem_cons_of_mem _ hm)]
  rw [e2]
  apply List.ext_getElem?
  intro i
  rw [List.getElem?_map]
  by_cases h : i < xs.length
  · rw [List.getElem?_range h, List.getElem?_eq_getElem (by rw [List.length_reverse]; exact h)]
    show some (xs.reverse.getD i Value.none) = _
    rw [List.getD_eq_getElem?_getD, List.getElem?_eq_getElem (by rw [List.length_reverse]; exact h)] <;> rfl
  · rw [List.getElem?_eq_none (by rw [List.length_range]; omega), List.getElem?_eq_none (by rw [List.length_reverse]; omega)] <;> rfl
theorem getItem_back {t sl : Addr} {its : List Value} {vs : Value} {Q : Value → Shared → Prop} (ht : IsTup s.heap t its.toArray) (hs : s.heap.IsSliceOf sl .none .none vs) (ps : IsPart vs (some (-1)))
    (h : Q (.ref s.heap.objs.size) { s with heap := s.heap.push { cls := .type "tuple", data := .seq its.reverse.toArray } }) (hsz : its.length ≤ sizeLine) : wpAny (model P w) A (getItem (.ref t) (.ref sl)) Q E s := by
  have tk : sizeOk (.seq its.reverse.toArray) := by
    show its.reverse.toArray.size ≤ sizeLine
    rw [List.size_toArray, List.length_reverse]
    exact hsz
  obtain ⟨os, hos, hcs, hds⟩ := id hs
  have hTs : s.TypeIs (.ref sl) "slice" := ⟨os, hos, hcs⟩
  unfold getItem
  try with_reducible refine wpAny_holding ?_
  first | refine wpAny_bind (wpAny_pure ?_) | skip
  refine wpAny_bind (wpAny_sequenceKey ht.typeIs (by decide) ?_)
  refine wpAny_bind (wpAny_callSpecial?_slot (name := Str.ofString "__getitem__") ht.typeIs slot_tuple_getitem
    (wpAny_call_entry slot_tuple_getitem ht.typeIs entry_tuple_getitem ?_ (args_tuple_getitem _ _)))
  show wpAny _ _ (Builtin.Tuple.tupleItemsOf (.ref t) >>= _) _ _ s
  refine wpAny_bind (tupleItemsOf_ ht ?_)
  refine wpAny_bind (wpAny_typeOf hTs ?_)
  rw [if_pos (by decide)]
  refine wpAny_bind ?_
  unfold Builtin.Slice.sliceApplied Builtin.Slice.sliceFields
  refine wpAny_bind (wpAny_bind (wpAny_field hos hds (x := .none) rfl (wpAny_bind (wpAny_field hos hds (x := .none) rfl (wpAny_bind (wpAny_field hos hds (x := vs) rfl (wpAny_pure ?_)))))))
  refine wpAny_bind (HT.slicePart_ ps ?_)
  show wpAny _ _ (if ((-1 : Int) == 0) = true then _ else _) _ _ s
  rw [if_neg (by decide)]
  refine wpAny_bind (slicePart_none (wpAny_bind (slicePart_none (wpAny_bind (wpAny_pure ?_)))))
  have e1 : ((its.toArray.size : Nat) : Int) = ((its.length : Nat) : Int) := by rw [List.size_toArray]
  show wpAny _ _ (match Builtin.Slice.sliceAdjust none none (-1) ((its.toArray.size : Nat) : Int) with | (lo, hi) => pure (lo, (-1 : Int), Builtin.Slice.slicePlaces lo hi (-1))) _ _ s
  rw [adjust_back]
  show wpAny _ _ (pure (((its.toArray.size : Nat) : Int) - 1, (-1 : Int), Builtin.Slice.slicePlaces (((its.toArray.size : Nat) : Int) - 1) (-1) (-1))) _ _ s
  rw [places_back]
  refine wpAny_pure ?_
  have no : ¬ (((((its.toArray.size : Nat) : Int) - 1) == 0 && (-1 : Int) == 1 && its.toArray.size == its.toArray.size) = true) := by
    rw [show ((-1 : Int) == 1) = false from rfl, Bool.and_false, Bool.false_and]
    exact Bool.false_ne_true
  show wpAny _ _ (if ((((its.toArray.size : Nat) : Int) - 1) == 0 && (-1 : Int) == 1 && its.toArray.size == its.toArray.size) = true then _ else _) _ _ s
  rw [if_neg no, List.size_toArray, pick_back]
  first
    | exact wpAny_bind (m := Builtin.Tuple.tupleExact _) (wpAny_newObj_type (wpAny_pure ⟨_, rfl, wpAny_pure h⟩) tk)
    | exact wpAny_bind (m := Builtin.Tuple.tupleExact _) (wpAny_newObj_type (wpAny_bind (wpAny_pure (wpAny_pure ⟨_, rfl, wpAny_pure h⟩))) tk)
    | exact wpAny_bind (wpAny_bind (m := Builtin.Tuple.tupleExact _) (wpAny_newObj_type (wpAny_pure (wpAny_pure ⟨_, rfl, wpAny_pure h⟩)) tk))
    | exact wpAny_bind (wpAny_bind (m := Builtin.Tuple.tupleExact _) (wpAny_newObj_type (wpAny_pure ⟨_, rfl, wpAny_pure h⟩) tk))
end
def tRevQ (K : PySem.W.Frag) (te : TE) : TE := fun σ H Q => te σ H fun x H1 => ∃ a xs, x = .ref a ∧ ((SqL K H1 a xs ∧ ∀ p, H1 p = none → Q (.ref p) (upd H1 p (.lst xs.reverse))) ∨ (SqT K H1 a xs ∧ ∀ p, H1 p = none → Q (.ref p) (upd H1 p (.tup xs.reverse))))
theorem pe_revQ {X : Cx} {e : Expr} {te : TE} {k : Nat} {p1 p2 p3 pos : Pos} (he : PE X e te) : PE X (.Subscript e (.Slice none none (some (.UnaryOp .USub (.Constant (.int 1) k p1) p2)) p3) pos) (tRevQ X.K te) := by
  refine ⟨fun pins s σ H Q I h => ?_⟩
  refine Subscript_ (thn (he.run pins s σ H _ I h) fun v s1 ⟨x, H1, I1, r1, q1⟩ => ?_)
  obtain ⟨a, xs, ex, hx⟩ := q1
  subst ex
  cases r1
  have hst : PO X (some (.UnaryOp .USub (.Constant (.int 1) k p1) p2)) (tPart (tUn (rU fun i => .int (-i)) (tC (.int 1)))) := po_some (pe_un un_neg pe_int)
  refine wpAny_Slice (thn (po_none.run pins s1 σ H1 (fun o H2 => o = none ∧ H2 = H1) I1 ⟨rfl, rfl⟩) fun vl s2 ⟨l, H2, I2, pl, el, e2⟩ => ?_)
  subst el e2
  refine thn (po_none.run pins s2 σ H2 (fun o H3 => o = none ∧ H3 = H2) I2 ⟨rfl, rfl⟩) fun vu s3 ⟨u, H3, I3, pu, eu, e3⟩ => ?_
  subst eu e3
  refine thn (hst.run pins s3 σ H3 (fun o H4 => o = some (-1) ∧ H4 = H3) I3 ⟨1, rfl, -1, rfl, rfl, rfl⟩) fun vs s4 ⟨o, H4, I4, ps, eo, e4⟩ => ?_
  subst eo e4
  have I5 : Inv X pins σ H4 { s4 with heap := s4.heap.push { cls := .type "slice", data := .fields #[vl, vu, vs] } } := I4.kept (t' := s4.toks) fun b ob q => Heap.get?_push_of_some _ q
  show wpAny (model X.prog X.w) X.A (subscriptTail e (.Slice none none (some (.UnaryOp .USub (.Constant (.int 1) k p1) p2)) p3) (.ref a) (.ref s4.heap.objs.size)) (EP X pins σ Q) X.xe { s4 with heap := s4.heap.push { cls := .type "slice", data := .fields #[vl, vu, vs] } }
  rcases hx with ⟨hx, q⟩ | ⟨hx, q⟩
  · obtain ⟨its, r, ht, hz⟩ := I5.list hx
    have hlen := r.length
    refine tail_any (ops := [.ref a, .ref s4.heap.objs.size]) ht.isList.typeIs (PySem.slot_list_getitem.lookup) ?_ (by with_unfolding_all rfl)
    refine wpAny_getItem_list_slice ht.isList (Heap.IsSliceOf.new _ vl vu vs) pl pu ps (by decide) ?_ (by rw [List.size_toArray]; omega)
    rw [PySem.W.krv_pick]
    exact ⟨.ref _, _, I5.laid (t' := s4.toks) (o := .lst xs.reverse) (fun b ob q => Heap.get?_push_of_some _ q) (Nat.le_refl _) ⟨by rw [List.length_reverse]; exact hz, _, 0, r.reverse, Heap.get?_push_size _ rfl⟩, rfl, q _ (I5.hok.fresh (Nat.le_refl _))⟩
  · obtain ⟨its, r, ht, hz⟩ := I5.tuple hx
    have hlen := r.length
    cases pl
    cases pu
    refine tail_any (ops := [.ref a, .ref s4.heap.objs.size]) ht.typeIs (slot_tuple_getitem.lookup) ?_ (by with_unfolding_all rfl)
    refine getItem_back ht (Heap.IsSliceOf.new _ _ _ vs) ps ?_ (by omega)
    exact ⟨.ref _, _, I5.laid (t' := s4.toks) (o := .tup xs.reverse) (fun b ob q => Heap.get?_push_of_some _ q) (Nat.le_refl _) ⟨by rw [List.length_reverse]; exact hz, _, r.reverse, IsTup.new _ _⟩, rfl, q _ (I5.hok.fresh (Nat.le_refl _))⟩
def sRev (m : M R) : M R := fun ρ => match m ρ with
  | none => none
  | some (r, ρ1) => match rd ρ1 r with
    | some (.list xs) => some (.own xs.reverse, ρ1)
    | some (.tuple xs) => some (.d (.tuple xs.reverse), ρ1)
    | _ => none
theorem ev_rev {K : PySem.W.Frag} {te : TE} {m : M R} (h : EvR te m) : EvR (tRevQ K te) (sRev m) := by
  intro par B F0 F H σ ρ z ρ' e S Q q
  unfold sRev at e
  split at e
  · cases e
  · rename_i r ρ1 e1
    split at e
    · rename_i xs e2
      cases e
      refine h par B F0 F H σ ρ r ρ' e1 S _ fun v F1 H1 x1 S1 h1 => ?_
      obtain ⟨p, vs, rfl, h2, h3⟩ := (rrep_rd S1 h1 e2).list S1.fh
      exact ⟨p, vs, rfl, .inl ⟨.inl h2, fun n hn => q (.ref n) F1 _ x1 (S1.newL hn) (newL_rep S1 hn h3.reverse)⟩⟩
    · rename_i xs e2
      cases e
      refine h par B F0 F H σ ρ r ρ' e1 S _ fun v F1 H1 x1 S1 h1 => ?_
      obtain ⟨p, vs, rfl, h2, h3⟩ := (rrep_rd S1 h1 e2).tuple
      exact ⟨p, vs, rfl, .inr ⟨.inl (.inl (S1.fh _ _ h2)), fun n hn => q (.ref n) _ _ (x1.trans (Ex.new (S1.fh.back hn))) (S1.newT hn) (newT_rep S1 hn h3.reverse)⟩⟩
    · cases e

/-! ### f(k = v, ..), the keywords in the parameters' order -/
def catG (us ws : List Value) : List Value := us ++ ws
def catV (us ws : List V) : List V := us ++ ws
theorem Fun.kbinds {K : PySem.W.Frag} {x qual : Str} {st : Stmt} {f : Addr} {fd : FuncData} {ps : List Str} (ks : List Str) (F : L2.Fun K x qual st f fd)
    (h : ∀ (kV doc pm : Value) (an : Option Addr) (cdv ct : Value) (us ws : List Value), (us ++ ws).length = ps.length → bindArgs (PySem.W.fnOf x qual (defArgs st) (defBody st) (defScope st) .none kV doc pm an cdv ct) ⟨us, ks.zip ws⟩ = pure (ps.zip (us ++ ws))) :
    KBinds K fd ps ks catG catV := by
  obtain ⟨oc, od, kV, doc, pm, an, cdv, ct, osl, rfl, lk, hcd⟩ := F.ex
  exact ⟨fun s us ws _ hl => BindsTo.of_eq (h kV doc pm an cdv ct us ws hl), fun r1 r2 => r1.append r2⟩
section
variable {X : Cx} {CX : CXT} {k : Nat} {f : Addr} {fd : FuncData} {ps ks : List Str} {sp : Sp} {E : XK} {x : Str} {p pos : Pos} {kws : List Keyword} {tk : TA} {g : List Value → List Value → List Value} {gV : List V → List V → List V}
theorem pe_callK0 (F : FnOk X.prog X.w X.K X.mg X.base CX k f fd ps sp) (hr : Room k X.A) (hg : Gl X x) (hm : X.mg x = some (.ref f)) (hk : PySem.W.keepIn X.K (.ref f) = true) (hb : KBinds X.K fd ps ks g gV) (hx : Passes CX X E)
    (hkw : PK X kws tk) (hall : (backToKw pos (keywordEach kws X.env)).all (·.1.isSome) = true := by rfl) (hks : (backToKw pos (keywordEach kws X.env)).filterMap (·.1) = ks := by rfl)
    (hdb : (x == ("__debug__" : Str)) = false := by decide)
    (hpl : ((backTo pos (starEach [] X.env)).any (·.1) || (backToKw pos (keywordEach kws X.env)).any (·.1.isNone)) = false := by rfl) :
    PE X (.Call (.Name x p) [] kws pos) (tCallK sp gV E tNil tk) := by
  refine ⟨fun pins s σ H Q I h => ?_⟩
  refine wpAny_Call_Name_kw (ld_glob I hg hm ?_ hdb)
  refine PySem.W.callWith_KW0 (h₀ := X.base) I.ok.mod.kin hk hall ?_ hpl
  refine thn (hkw.run pos pins s σ H _ I h) fun ws s2 ⟨zs, H2, I2, rz, q2⟩ => ⟨I2.kIn, ?_⟩
  rw [hks]
  exact run_fnk (us := []) (vs := []) F hr hb hx I2 .nil rz q2
end
/-- the arguments, the keywords' behind -/
def tApp (t tk : TA) : TA := fun σ H Q => t σ H fun vs H1 => tk σ H1 fun zs H2 => Q (vs ++ zs) H2
theorem ev_callK {fn : FnM} {ms : List Bool} {t tk : TA} {m : M (List R)} {E : XK} (h : EvA (tApp t tk) m) : EvR (tCallK (spF fn) catV E t tk) (sCall fn ms m) := by
  intro par B F0 F H σ ρ z ρ' e S Q q
  have := ev_call (E := E) (fn := fn) (ms := ms) h par B F0 F H σ ρ z ρ' e S Q q
  have e2 : tCall (spF fn) [] E (tApp t tk) σ H Q = tCallK (spF fn) catV E t tk σ H Q := by
    unfold tCall tCallK tApp catV
    simp only [List.append_nil]
  rw [← e2]
  exact this
theorem app_nil (tk : TA) : tApp tNil tk = tk := rfl
theorem app_cons (ta : TE) (t tk : TA) : tApp (tCons ta t) tk = tCons ta (tApp t tk) := rfl
end Pu

set_option Elab.async false
set_option linter.all false
set_option maxRecDepth 100000
set_option maxHeartbeats 2000000
namespace Pu
open PySem PySem.Spec PyProof.Rows L2

/-! ### one rule a sign -/
def orG (g g' : D → D → Option R) : D → D → Option R := fun x y => match g x y with | some z => some z | none => g' x y
theorem OpS.orG {r r' : R2} {g g' : D → D → Option R} (h : OpS r g) (h' : OpS r' g') : OpS (fun x y H Q => r x y H Q ∨ r' x y H Q) (Pu.orG g g') := OpS.or h h'
section
variable {X : Cx} {k : Nat}
def rAddU (K : PySem.W.Frag) : R2 := fun x y H Q => (rI0 (fun i j => .int (i + j)) x y H Q ∨ ∃ i j, x = .str i ∧ y = .str j ∧ i.length + j.length ≤ sizeLine ∧ Q (.str (i ++ j)) H) ∨ (rCatR x y H Q ∨ rCatA K x y H Q)
theorem op_addU : OpR X (binaryOp .Add) (rAddU X.K) := (op_add.or op_add_str).or (op_catR.or op_catA)
def gAddU : D → D → Option R := orG (orG gAdd gCatS) (orG gCatL gCatT)
theorem os_addU {K : PySem.W.Frag} : OpS (rAddU K) gAddU := (os_add.orG os_catS).orG (os_catL.orG os_catT)
def rMulU : R2 := fun x y H Q => rI CMul (fun i j => .int (i * j)) x y H Q ∨ rRepR x y H Q
theorem op_mulU : OpR X (binaryOp .Mult) rMulU := op_mul.or op_repR
def gMulU : D → D → Option R := orG gMul gRep
theorem os_mulU : OpS rMulU gMulU := os_mul.orG os_rep
def rLtU : R2 := fun x y H Q => rI0 (fun i j => .bl (decide (i < j))) x y H Q ∨ ∃ i j, x = .str i ∧ y = .str j ∧ Q (.bl (decide (i.cps.toList < j.cps.toList))) H
theorem op_ltU : OpR X (compareOp .Lt) rLtU := op_lt.or op_lt_str
def gLtU : D → D → Option R := orG gLt gLtS
theorem os_ltU : OpS rLtU gLtU := os_lt.orG os_ltS
def rLeU : R2 := fun x y H Q => rI0 (fun i j => .bl (decide (i ≤ j))) x y H Q ∨ ∃ i j, x = .str i ∧ y = .str j ∧ Q (.bl (!decide (j.cps.toList < i.cps.toList))) H
theorem op_leU : OpR X (compareOp .LtE) rLeU := op_le.or op_le_str
def gLeU : D → D → Option R := orG gLe gLeS
theorem os_leU : OpS rLeU gLeU := os_le.orG os_leS
def rInU (K : PySem.W.Frag) : R2 := fun x y H Q => rInDT K x y H Q ∨ ∃ (c : Nat) (z : Str), x = .str ⟨#[c]⟩ ∧ y = .str z ∧ Q (.bl (decide (c ∈ z.cps.toList))) H
theorem op_inU (hu : X.A.units + 65 < cLine) : OpR X (compareOp .In) (rInU X.K) := (op_inDT hu).or op_in_sign
def gInU : D → D → Option R := orG (gIn false) (gInS false)
theorem os_inU {K : PySem.W.Frag} : OpS (rInU K) gInU := os_in.orG os_inS
def rNotInU (K : PySem.W.Frag) : R2 := fun x y H Q => rNotInDT K x y H Q ∨ ∃ (c : Nat) (z : Str), x = .str ⟨#[c]⟩ ∧ y = .str z ∧ Q (.bl (!decide (c ∈ z.cps.toList))) H
theorem op_notInU (hu : X.A.units + 65 < cLine) : OpR X (compareOp .NotIn) (rNotInU X.K) := (op_notInDT hu).or op_notIn_sign
def gNotInU : D → D → Option R := orG (gIn true) (gInS true)
theorem os_notInU {K : PySem.W.Frag} : OpS (rNotInU K) gNotInU := os_notIn.orG os_notInS

/-! ### calls -/
def orC (g g' : List D → Option R) : List D → Option R := fun x => match g x with | some z => some z | none => g' x
theorem CallS.orC {r r' : List V → Hp → VK → Prop} {g g' : List D → Option R} (h : CallS r g) (h' : CallS r' g') : CallS (fun xs H Q => r xs H Q ∨ r' xs H Q) (Pu.orC g g') := CallS.or h h'
def rLenU (K : PySem.W.Frag) : List V → Hp → VK → Prop := fun xs H Q => (∃ p ys, xs = [.ref p] ∧ (SqL K H p ys ∨ SqT K H p ys) ∧ Q (.int ys.length) H) ∨ ∃ z : Str, xs = [.str z] ∧ z.length ≤ sizeLine ∧ Q (.int z.length) H
theorem cr_lenU : CallR X (.builtin "len") (rLenU X.K) := call_len_seq.or call_len_str
def gLenU : List D → Option R := orC gLen gLenS
theorem cs_lenU {K : PySem.W.Frag} : CallS (rLenU K) gLenU := cs_len.orC cs_lenS
def rListU (K : PySem.W.Frag) : List V → Hp → VK → Prop := fun xs H Q => (∃ p ys, xs = [.ref p] ∧ (SqL K H p ys ∨ SqT K H p ys) ∧ ∀ l, H l = none → Q (.ref l) (upd H l (.lst ys))) ∨ rListS xs H Q
theorem cr_listU (hc : X.calm = true) : CallR X (.type "list") (rListU X.K) := call_list_of.or (cr_listS hc)
def gListU : List D → Option R := orC gList gListS
theorem cs_listU {K : PySem.W.Frag} : CallS (rListU K) gListU := cs_list.orC cs_listS
def rTupU (K : PySem.W.Frag) : List V → Hp → VK → Prop := fun xs H Q => (∃ p ys, xs = [.ref p] ∧ ((SqL K H p ys ∧ ∀ l, H l = none → Q (.ref l) (upd H l (.tup ys))) ∨ (SqT K H p ys ∧ Q (.ref p) H))) ∨ rTupS xs H Q
theorem cr_tupU (hc : X.calm = true) : CallR X (.type "tuple") (rTupU X.K) := call_tuple_of.or (cr_tupS hc)
def gTupU : List D → Option R := orC gTuple gTupS
theorem cs_tupU {K : PySem.W.Frag} : CallS (rTupU K) gTupU := cs_tuple.orC cs_tupS
/-- what is walked: a list, a tuple, a text -/
theorem pi_any {tg e : Expr} {te : TE} (h : PE X e te) : PI X tg e (iEither (iEither (iList X.K te) (iTup X.K te)) (iStr te)) := pi_either (pi_either (pi_list h) (pi_tup h)) (pi_str h)
end

theorem r64 {k : Nat} {A : Around} (hr : Room k A) : A.units + 64 < cLine := by
  have := hr.un
  omega
theorem r65 {k : Nat} {A : Around} (hr : Room k A) : A.units + 65 < cLine := by
  have := hr.un
  omega
def gNeg : D → Option R
  | .int i => some (.d (.int (-i)))
  | _ => none
theorem os_neg : UnS (rU fun i => .int (-i)) gNeg := by
  intro par B F0 F H σ ρ v x z e S hv Q q
  unfold gNeg at e
  split at e
  · cases e
    rw [rdv_int hv]
    exact ⟨_, rfl, q_flat S (.int _) q⟩
  · cases e
/-! ### a def: p parameters among n names -/
def fnP (p n : Nat) (b : MS) : FnM := fun cs => if cs.length = p then fnOf n b cs else none
theorem fnP_len {p n : Nat} {b : MS} {vs : List V} {H : Hp} {Q : VK} {E : XK} (h : spF (fnP p n b) vs H Q E) : vs.length = p := by
  obtain ⟨F, cs, c, cs', x, A, e, q⟩ := h
  unfold fnP at e
  split at e
  · rename_i hl
    rw [paired_len A.rep, hl]
  · cases e
theorem fnP_body {p n : Nat} {b : MS} {vs : List V} {H : Hp} {Q : VK} {E : XK} (h : spF (fnP p n b) vs H Q E) : spF (fnOf n b) vs H Q E := by
  obtain ⟨F, cs, c, cs', x, A, e, q⟩ := h
  unfold fnP at e
  split at e
  · exact ⟨F, cs, c, cs', x, A, e, q⟩
  · cases e
theorem fnP_ok {N : List Str} {p : Nat} {t : TS} {b : MS} (h : EvS t b) {vs : List V} {H : Hp} {Q : VK} {E : XK} (hp : p ≤ N.length) (hs : spF (fnP p N.length b) vs H Q E) : t { nx := fun _ H' => Q .non H', rt := Q } (start N vs) H :=
  body_ok h (by rw [fnP_len hs]; exact hp) (fnP_body hs)
/-- a def of which nothing is promised -/
theorem spF_none {vs : List V} {H : Hp} {Q : VK} {E : XK} (h : spF (fun _ => none) vs H Q E) : False := by
  obtain ⟨F, cs, c, cs', x, A, e, q⟩ := h
  cases e
end Pu

set_option Elab.async false
set_option linter.all false
set_option maxRecDepth 100000
set_option maxHeartbeats 2000000
namespace Pu
open PySem PySem.Spec PyProof.Rows L2

/-! ### the rules, the fragment named (so that they fit in a comprehension, too) -/
section
variable {X : Cx} {a b e : Expr} {ta tb te : TE} {rest : List Expr} {pos : Pos} (K : PySem.W.Frag)
theorem xAdd (hK : X.K = K := by rfl) : OpR X (binaryOp .Add) (rAddU K) := hK ▸ op_addU
theorem xEq (hu : X.A.units + 64 < cLine) (hK : X.K = K := by rfl) : OpR X (compareOp .Eq) (rEqD K) := hK ▸ op_eqD hu
theorem xNe (hu : X.A.units + 64 < cLine) (hK : X.K = K := by rfl) : OpR X (compareOp .NotEq) (rNeD K) := hK ▸ op_neD hu
theorem xIn (hu : X.A.units + 65 < cLine) (hK : X.K = K := by rfl) : OpR X (compareOp .In) (rInU K) := hK ▸ op_inU hu
theorem xNotIn (hu : X.A.units + 65 < cLine) (hK : X.K = K := by rfl) : OpR X (compareOp .NotIn) (rNotInU K) := hK ▸ op_notInU hu
theorem xAnd (ha : PE X a ta) (hb : PE X (.BoolOp .And (b :: rest) pos) tb) (hK : X.K = K := by rfl) : PE X (.BoolOp .And (a :: b :: rest) pos) (tAndT K ta tb) := hK ▸ pe_andT ha hb
theorem xOr (ha : PE X a ta) (hb : PE X (.BoolOp .Or (b :: rest) pos) tb) (hK : X.K = K := by rfl) : PE X (.BoolOp .Or (a :: b :: rest) pos) (tOrT K ta tb) := hK ▸ pe_orT ha hb
theorem xNot (ha : PE X a ta) (hK : X.K = K := by rfl) : PE X (.UnaryOp .Not a pos) (tNotT K ta) := hK ▸ pe_notT ha
def tTru (K : PySem.W.Frag) (ta : TE) : TT := fun σ H Q => ta σ H fun x H' => ∃ k, TruV K x H' k ∧ Q k H'
theorem xTru (ha : PE X a ta) (he : ∀ whole, isTrue a X.env whole = (do let v ← whole; standAt a.pos; holding [v] (truthy v))) (hK : X.K = K := by rfl) : PT X a (tTru K ta) := hK ▸ pt_truth ha he
theorem et_tru {K : PySem.W.Frag} {te : TE} {m : M R} (h : EvR te m) : EvT (tTru K te) (sTru m) := et_truth h
theorem xIx (hK : X.K = K := by rfl) : IxR X (rIx K) := hK ▸ ix_seq
def rSlU (K : PySem.W.Frag) : R3 := fun x lo hi H Q => rSlL K x lo hi H Q ∨ rSlA K x lo hi H Q
theorem xSl (hK : X.K = K := by rfl) : SlR X (rSlU K) := hK ▸ SlR.or sl_list sl_tupA
theorem ss_U {K : PySem.W.Frag} : SlS (rSlU K) gSl := ss_seq
theorem xRev {k : Nat} {p1 p2 p3 : Pos} (he : PE X e te) (hK : X.K = K := by rfl) : PE X (.Subscript e (.Slice none none (some (.UnaryOp .USub (.Constant (.int 1) k p1) p2)) p3) pos) (tRevQ K te) := hK ▸ pe_revQ he
theorem xLen (hK : X.K = K := by rfl) : CallR X (.builtin "len") (rLenU K) := hK ▸ cr_lenU
theorem xList (hc : X.calm = true) (hK : X.K = K := by rfl) : CallR X (.type "list") (rListU K) := hK ▸ cr_listU hc
theorem xTup (hc : X.calm = true) (hK : X.K = K := by rfl) : CallR X (.type "tuple") (rTupU K) := hK ▸ cr_tupU hc
theorem xAll (hc : X.calm = true) (hK : X.K = K := by rfl) : CallR X (.builtin "all") (rAll K) := hK ▸ cr_all hc
theorem xAny (hc : X.calm = true) (hK : X.K = K := by rfl) : CallR X (.builtin "any") (rAny K) := hK ▸ cr_any hc
theorem xSorted (hu : X.A.units + 64 < cLine) (hK : X.K = K := by rfl) : CallR X (.builtin "sorted") (rSortedG K) := hK ▸ cr_sortedG hu
theorem xIsi (hK : X.K = K := by rfl) : CallR X (.builtin "isinstance") (rIsi K) := hK ▸ call_isi
theorem xIsiT (hK : X.K = K := by rfl) : CallR X (.builtin "isinstance") (rIsiT K) := hK ▸ call_isiT
theorem xSet (P : Program) (w : World) (hc : X.calm = true) (hK : X.K = K := by rfl) (hP : X.prog = P := by rfl) (hw : X.w = w := by rfl) : CallR X (.type "set") (rSetS K P w) := by
  subst hK hP hw
  exact cr_setS hc
theorem xSortSS (P : Program) (w : World) (hc : X.calm = true) (hu : X.A.units + 64 < cLine) (hP : X.prog = P := by rfl) (hw : X.w = w := by rfl) : CallR X (.builtin "sorted") (rSortSS P w) := by
  subst hP hw
  exact cr_sortSS hc hu
theorem xiAny {tg : Expr} (h : PE X e te) (hK : X.K = K := by rfl) : PI X tg e (iEither (iEither (iList K te) (iTup K te)) (iStr te)) := hK ▸ pi_any h
theorem xEnum {tA : TA} {p tpos : Pos} {elts : List Expr} {kk : Nat} (hg : Gl X "enumerate") (hm : X.mg "enumerate" = none) (ha : PA X [e] tA) (hK : X.K = K := by rfl) (hs : starEach [e] X.env = [(false, eval e X.env)] := by rfl) :
    PI X (.Tuple elts kk tpos) (.Call (.Name "enumerate" p) [e] [] pos) (iEnum K tA) := hK ▸ pi_enum hg hm ha hs
theorem xZip {e2 : Expr} {tA : TA} {p tpos : Pos} {elts : List Expr} {kk : Nat} (hg : Gl X "zip") (hm : X.mg "zip" = none) (ha : PA X [e, e2] tA) (hK : X.K = K := by rfl)
    (hs : starEach [e, e2] X.env = (false, eval e X.env) :: starEach [e2] X.env := by rfl) (hpl : (backTo pos (starEach [e2] X.env)).any (·.1) = false := by rfl) : PI X (.Tuple elts kk tpos) (.Call (.Name "zip" p) [e, e2] [] pos) (RZ.iZipA K tA) := hK ▸ RZ.pi_zipA hg hm ha hs hpl
theorem xgTup {es : List Expr} {k : Nat} {t : TGs} (n : Nat) (hc : X.calm = true) (h : PGs X es t) (hK : X.K = K := by rfl)
    (hn : (assignEach es X.env).length = n := by rfl) (hst : (assignEach es X.env).findIdx? (·.1) = none := by rfl) : PG X (.Tuple es k pos) (gTup K n t) := hK ▸ pg_tup hc h hn hst
theorem xApp {o : Expr} {to : TE} {t : TA} {apos cpos : Pos} {es : List Expr} (ho : PE X o to) (ha : PA X (e :: es) t) (hK : X.K = K := by rfl)
    (hbase : attributeBase o "append" X.env (eval o X.env) = eval o X.env := by rfl)
    (hfew : ((backTo cpos (starEach (e :: es) X.env)).all (fun x => !x.1) && (backToKw cpos (keywordEach [] X.env)).all (fun x => x.1.isSome)
      && decide ((e :: es).length + ([] : List Keyword).length + (if ([] : List Keyword).isEmpty then 0 else 1) < 30)) = true := by rfl)
    (hline : (apos.endLine == cpos.line) = true := by rfl) (hs : starEach (e :: es) X.env = (false, eval e X.env) :: starEach es X.env := by rfl) (hplain : (backTo cpos (starEach es X.env)).any (·.1) = false := by rfl) :
    PE X (.Call (.Attribute o "append" apos) (e :: es) [] cpos) (tBM K "list" rAppend to t) := hK ▸ pe_bm PySem.F.plainAttrs_list PySem.F.slot_list_append PySem.F.type_list_append mt_append ho ha hbase hfew hline hs hplain
theorem xPop {o : Expr} {to : TE} {t : TA} {apos cpos : Pos} {es : List Expr} (ho : PE X o to) (ha : PA X (e :: es) t) (hK : X.K = K := by rfl)
    (hbase : attributeBase o "pop" X.env (eval o X.env) = eval o X.env := by rfl)
    (hfew : ((backTo cpos (starEach (e :: es) X.env)).all (fun x => !x.1) && (backToKw cpos (keywordEach [] X.env)).all (fun x => x.1.isSome)
      && decide ((e :: es).length + ([] : List Keyword).length + (if ([] : List Keyword).isEmpty then 0 else 1) < 30)) = true := by rfl)
    (hline : (apos.endLine == cpos.line) = true := by rfl) (hs : starEach (e :: es) X.env = (false, eval e X.env) :: starEach es X.env := by rfl) (hplain : (backTo cpos (starEach es X.env)).any (·.1) = false := by rfl) :
    PE X (.Call (.Attribute o "pop" apos) (e :: es) [] cpos) (tBM K "list" rPopAt to t) := hK ▸ pe_bm PySem.F.plainAttrs_list PySem.F.slot_list_pop PySem.F.type_list_pop mt_popAt ho ha hbase hfew hline hs hplain
end
/-- a call of a def of the package that raises nothing -/
theorem xCall {X : Cx} {P : Program} {w : World} {K : PySem.W.Frag} {mg : Str → Option Value} {base : Heap} {j : Nat} {f : Addr} {fd : FuncData} {ps : List Str} {fn : FnM} {x : Str} {p pos : Pos} {e : Expr} {es : List Expr} {t : TA}
    (F : FnOk P w K mg base CX0 j f fd ps (spF fn)) (hm : mg x = some (.ref f)) (hk : PySem.W.keepIn K (.ref f) = true) (hb : Binds K fd ps []) (ha : PA X (e :: es) t) (hr : Room j X.A)
    (hX : (X.prog, X.w, X.K, X.mg, X.base) = (P, w, K, mg, base) := by rfl) (hg : Gl X x := by rfl)
    (hdb : (x == ("__debug__" : Str)) = false := by decide) (he : starEach (e :: es) X.env = (false, eval e X.env) :: starEach es X.env := by rfl) (hpl : (backTo pos (starEach es X.env)).any (·.1) = false := by rfl) :
    PE X (.Call (.Name x p) (e :: es) [] pos) (tCall (spF fn) [] E0 t) := by
  cases hX
  exact pe_call F hr hg hm hk hb .nil pass0 ha hdb he hpl
theorem xCall0 {X : Cx} {P : Program} {w : World} {K : PySem.W.Frag} {mg : Str → Option Value} {base : Heap} {j : Nat} {f : Addr} {fd : FuncData} {ps : List Str} {fn : FnM} {x : Str} {p pos : Pos}
    (F : FnOk P w K mg base CX0 j f fd ps (spF fn)) (hm : mg x = some (.ref f)) (hk : PySem.W.keepIn K (.ref f) = true) (hb : Binds K fd ps []) (hr : Room j X.A)
    (hX : (X.prog, X.w, X.K, X.mg, X.base) = (P, w, K, mg, base) := by rfl) (hg : Gl X x := by rfl)
    (hdb : (x == ("__debug__" : Str)) = false := by decide) :
    PE X (.Call (.Name x p) [] [] pos) (tCall (spF fn) [] E0 tNil) := by
  cases hX
  exact pe_call0 F hr hg hm hk hb .nil pass0 hdb
theorem xCallK {X : Cx} {P : Program} {w : World} {K : PySem.W.Frag} {mg : Str → Option Value} {base : Heap} {j : Nat} {f : Addr} {fd : FuncData} {ps ks : List Str} {fn : FnM} {x : Str} {p pos : Pos} {kws : List Keyword} {tk : TA}
    (F : FnOk P w K mg base CX0 j f fd ps (spF fn)) (hm : mg x = some (.ref f)) (hk : PySem.W.keepIn K (.ref f) = true) (hb : KBinds K fd ps ks catG catV) (ha : PK X kws tk) (hr : Room j X.A)
    (hX : (X.prog, X.w, X.K, X.mg, X.base) = (P, w, K, mg, base) := by rfl) (hg : Gl X x := by rfl)
    (hall : (backToKw pos (keywordEach kws X.env)).all (·.1.isSome) = true := by rfl) (hks : (backToKw pos (keywordEach kws X.env)).filterMap (·.1) = ks := by rfl)
    (hdb : (x == ("__debug__" : Str)) = false := by decide) (hpl : ((backTo pos (starEach [] X.env)).any (·.1) || (backToKw pos (keywordEach kws X.env)).any (·.1.isNone)) = false := by rfl) :
    PE X (.Call (.Name x p) [] kws pos) (tCallK (spF fn) catV E0 tNil tk) := by
  cases hX
  exact pe_callK0 F hr hg hm hk hb pass0 ha hall hks hdb hpl
/-! ### a, b = x, y by a tuple that is laid (a name of them is read in a comprehension) -/
theorem par_core {i j : Nat} {par : L2.St} {B F0 F1 H1 : Hp} {σ : L2.St} {ρ1 ρ2 ρ3 ρ4 ρ5 : Rho} {v w : V} {r s : R} {c d : C} (S1 : Sta par B F0 F1 H1 σ ρ1) (hv : RRep B F1 H1 σ ρ1 v r) (hw : RRep B F1 H1 σ ρ1 w s)
    (hn : OwnNd [v, w] [r, s]) (e2 : cv ρ1 r = some (c, ρ2)) (e3 : cv ρ2 s = some (d, ρ3)) (e4 : setC i c ρ3 = some ρ4) (e5 : setC j d ρ4 = some ρ5) :
    ∃ F3, Ex F1 F3 ∧ Sta par B F0 F3 H1 ((σ.set i (some v)).set j (some w)) ρ5 := by
  obtain ⟨F2, x2, S2, c2, ap2, na2, ow2, k2⟩ := cv_keep S1 hv e2
  obtain ⟨F3, x3, S3, d3, ap3, na3, ow3, k3⟩ := cv_keep S2 (k2 w s hw) e3
  have ap2' : c.isOwn = true → Apart σ ρ3 v := fun ho => by
    cases c with
    | d x => cases ho
    | arg xs => exact absurd rfl (na2 xs)
    | own xs =>
      have er := ow2 xs rfl
      subst er
      obtain ⟨p, ep, _, ap⟩ := k3 v _ (k2 v _ hv)
      exact ap
  have c3 : CRep B F3 H1 v c := by
    cases c with
    | d x => exact Rp.up c2 x3
    | arg xs => exact absurd rfl (na2 xs)
    | own xs =>
      have er := ow2 xs rfl
      subst er
      obtain ⟨p, ep, ow, _⟩ := k3 v _ (k2 v _ hv)
      exact ⟨p, ep, ow⟩
  have S4 := S3.setC e4 c3 ap2' na2
  obtain ⟨hi4, rfl, _⟩ := setC_inv e4
  refine ⟨F3, x2.trans x3, S4.setC e5 d3 (fun ho => ?_) na3⟩
  intro k c' hk ho' hs
  rcases set_get hk with ⟨rfl, ek⟩ | ⟨hne, hk⟩
  · cases ek
    have hl : k < σ.length := by rw [S3.len]; exact hi4
    rw [List.getElem?_set_self hl] at hs
    cases hs
    cases c with
    | d x => cases ho'
    | arg xs => exact absurd rfl (na2 xs)
    | own xs =>
      cases d with
      | d x => cases ho
      | arg xs => exact absurd rfl (na3 xs)
      | own ys =>
        have er := ow2 xs rfl
        have es := ow3 ys rfl
        subst er es
        exact hn.1 xs rfl 0 ys rfl rfl
  · rw [List.getElem?_set_ne (fun z => hne z.symm)] at hs
    exact ap3 ho k c' hk ho' hs
theorem es_parT {K : PySem.W.Frag} {i j : Nat} {t : TA} {m : M (List R)} (h : EvA t m) : EvS (tAsg (tTup t) (gTup K 2 (gCons (gName i) (gCons (gName j) gNil)))) (zPar i j m) := by
  intro par B F0 F H σ ρ res e S D q
  unfold zPar at e
  split at e
  · rename_i r s ρ1 e1
    split at e
    · cases e
    · rename_i c ρ2 e2
      split at e
      · cases e
      · rename_i d ρ3 e3
        split at e
        · cases e
        · rename_i ρ4 e4
          cases e5 : setC j d ρ4 with
          | none => rw [e5] at e; cases e
          | some ρ5 =>
            rw [e5] at e
            cases e
            refine h par B F0 F H σ ρ _ ρ1 e1 S _ fun vs F1 H1 x1 S1 h1 => ?_
            obtain ⟨hp, hn⟩ := h1
            cases hp with
            | cons hv ht =>
              cases ht with
              | cons hw ht =>
                cases ht
                rename_i v w
                obtain ⟨F3, x3, S5⟩ := par_core S1 hv hw hn e2 e3 e4 e5
                refine ⟨by show 2 ≤ sizeLine; decide, fun p hp => ⟨p, [v, w], rfl, .inl (.inl upd_same), rfl, v, [w], rfl, w, [], rfl, rfl, ?_⟩⟩
                exact q _ F3 _ (x1.trans x3) (S5.newL hp)
  · cases e
theorem ev_callK0 {fn : FnM} {ms : List Bool} {tk : TA} {m : M (List R)} {E : XK} (h : EvA tk m) : EvR (tCallK (spF fn) catV E tNil tk) (sCall fn ms m) := ev_callK (t := tNil) h
theorem ev_callK1 {fn : FnM} {ms : List Bool} {ta : TE} {tk : TA} {m : M (List R)} {E : XK} (h : EvA (tCons ta tk) m) : EvR (tCallK (spF fn) catV E (tCons ta tNil) tk) (sCall fn ms m) := ev_callK (t := tCons ta tNil) h
theorem ev_callK2 {fn : FnM} {ms : List Bool} {ta tb : TE} {tk : TA} {m : M (List R)} {E : XK} (h : EvA (tCons ta (tCons tb tk)) m) : EvR (tCallK (spF fn) catV E (tCons ta (tCons tb tNil)) tk) (sCall fn ms m) := ev_callK (t := tCons ta (tCons tb tNil)) h
end Pu

set_option Elab.async false
set_option linter.all false
set_option maxRecDepth 100000
set_option maxHeartbeats 2000000
namespace Pu
open PySem PySem.Spec PyProof.Rows L2

/-! ### the law's own call, from its meaning -/
theorem ints_rp {F : Hp} : ∀ ns : List Int, RpAll F (ns.map V.int) (ns.map PyData.int)
  | [] => .nil
  | n :: ns => .cons (.int n) (ints_rp ns)
theorem script_sp {fn : FnM} {H : Hp} {a : Addr} {ns : List Int} {cs' : List C} {E : XK} (hS : Rd H a (.lst (ns.map V.int))) (e : fn [.d (.list (ns.map PyData.int))] = some (.d (.bool true), cs')) :
    spF fn [.ref a] H (fun v _ => v = .bl true) E := by
  have rd : Rd (fun b => if b = a then H a else none) a (.lst (ns.map V.int)) := by
    rcases hS with h | ⟨o, h⟩
    · exact .inl ((if_pos rfl).trans h)
    · exact .inr ⟨o, (if_pos rfl).trans h⟩
  have hx : Ex (fun b => if b = a then H a else none) H := fun b o h => by
    by_cases c : b = a
    · have h : (if b = a then H a else none) = some o := h
      rw [if_pos c] at h
      rw [c]
      exact h
    · have h : (if b = a then H a else none) = some o := h
      rw [if_neg c] at h
      cases h
  refine ⟨fun b => if b = a then H a else none, [.d (.list (ns.map PyData.int))], .d (.bool true), cs', hx, ⟨.cons (.lst rd (ints_rp ns)) .nil, fun i j xs ys v h => ?_⟩, e, fun v F' H' _ _ _ _ r _ => ?_⟩
  · cases i with
    | zero => cases h
    | succ i => cases h
  · cases r
    rfl
theorem no_list : ∀ {K : List (Addr × Obj)} {a : Addr} {o : Obj}, (K.all fun p => !(p.2.cls == Value.type "list")) = true → K.lookup a = some o → o.cls ≠ .type "list"
  | [], a, o, h, e => nomatch e
  | (b, u) :: K, a, o, h, e => by
    rw [List.all_cons, Bool.and_eq_true] at h
    rw [List.lookup_cons] at e
    cases c : (a == b) with
    | true =>
      rw [c] at e
      cases e
      intro z
      have q : (!(u.cls == Value.type "list")) = true := h.1
      rw [z] at q
      exact Bool.noConfusion q
    | false =>
      rw [c] at e
      exact no_list h.2 e
theorem script_spK {K : PySem.W.Frag} {fn : FnM} {H : Hp} {a : Addr} {ns : List Int} {cs' : List C} {E : XK} (hS : SqL K H a (ns.map V.int)) (hK : (K.all fun p => !(p.2.cls == Value.type "list")) = true)
    (e : fn [.d (.list (ns.map PyData.int))] = some (.d (.bool true), cs')) : spF fn [.ref a] H (fun v _ => v = .bl true) E := by
  rcases hS with h | ⟨o, its, n, h1, h2, _⟩
  · exact script_sp h e
  · exact absurd h2 (no_list hK h1)
end Pu

set_option Elab.async false
set_option linter.all false
set_option maxRecDepth 100000
set_option maxHeartbeats 2000000
namespace Pu
open PySem PySem.Spec PyProof.Rows L2

/-! ### tests of a text: x.isascii(), x.isalpha(), x.islower() -/
def gSt (f : Str → Bool) : D → Option R
  | .str x => some (.d (.bool (f x)))
  | _ => none
def rSt (f : Str → Bool) : V → List V → Hp → VK → Prop := fun x xs H Q => ∃ a, x = .str a ∧ xs = [] ∧ True ∧ Q (.bl (f a)) H
theorem us_st {f : Str → Bool} : UnS (fun x H Q => (∃ a, x = .str a) ∧ rSt f x [] H Q) (gSt f) := by
  intro par B F0 F H σ ρ v x z e S hv Q q
  unfold gSt at e
  split at e
  · cases e
    rw [rdv_str hv]
    exact ⟨⟨_, rfl⟩, _, rfl, rfl, trivial, q_flat S (.bl _) q⟩
  · cases e
theorem ev_st {f : Str → Bool} {te : TE} {m : M R} (ha : EvR te m) : EvR (tM0 (rSt f) te) (sUn (gSt f) m) :=
  ev_k (te := te) (k := fun x H Q => (∃ a, x = .str a) ∧ rSt f x [] H Q) ha us_st
section
variable {X : Cx} {o e : Expr} {to te : TE}
theorem xAscii {apos pos : Pos} (ho : PE X o to) (hbase : attributeBase o "isascii" X.env (eval o X.env) = eval o X.env := by rfl) (hline : (apos.endLine == pos.line) = true := by rfl) :
    PE X (.Call (.Attribute o "isascii" apos) [] [] pos) (tM0 (rSt Txt.isascii) to) :=
  pe_m0 F.slot_str_isascii F.type_str_isascii (mt0 (C := fun _ => True) (g := fun a => .bl (Txt.isascii a)) fun _ _ s _ _ h => PySem.SC.isascii (h _ s.toks rfl)) ho hbase hline
theorem xAlpha {apos pos : Pos} (ho : PE X o to) (hbase : attributeBase o "isalpha" X.env (eval o X.env) = eval o X.env := by rfl) (hline : (apos.endLine == pos.line) = true := by rfl) :
    PE X (.Call (.Attribute o "isalpha" apos) [] [] pos) (tM0 (rSt Txt.isalpha) to) :=
  pe_m0 F.slot_str_isalpha F.type_str_isalpha (mt0 (C := fun _ => True) (g := fun a => .bl (Txt.isalpha a)) fun _ _ s _ _ h => PySem.SC.isalpha (h _ s.toks rfl)) ho hbase hline
theorem xLower {apos pos : Pos} (ho : PE X o to) (hbase : attributeBase o "islower" X.env (eval o X.env) = eval o X.env := by rfl) (hline : (apos.endLine == pos.line) = true := by rfl) :
    PE X (.Call (.Attribute o "islower" apos) [] [] pos) (tM0 (rSt Txt.islower) to) :=
  pe_m0 F.slot_str_islower F.type_str_islower (mt0 (C := fun _ => True) (g := fun a => .bl (Txt.islower a)) fun _ _ s _ _ h => PySem.SC.islower (h _ s.toks rfl)) ho hbase hline
end
end Pu

set_option Elab.async false
set_option linter.all false
set_option maxRecDepth 100000
set_option maxHeartbeats 2000000
namespace Pu
open PySem PySem.Spec PyProof.Rows L2

/-! ### the meanings run -/
section
variable {ρ ρ1 ρ2 ρ3 : Rho} {a b m : M R} {x y : D} {r : R} {p q : Bool} {i j : Nat}
theorem rSeq {a b : MS} {o : Option Res} (h : a ρ = some (.nx ρ1)) (k : b ρ1 = o) : zSeq a b ρ = o := by unfold zSeq; rw [h]; exact k
theorem rSeqR {a b : MS} {r : R} (h : a ρ = some (.rt r ρ1)) : zSeq a b ρ = some (.rt r ρ1) := by unfold zSeq; rw [h]
theorem rRet (h : m ρ = some (r, ρ1)) : zRet m ρ = some (.rt r ρ1) := by unfold zRet; rw [h]
theorem rIf {c : M Bool} {a b : MS} {o : Option Res} (h : c ρ = some (p, ρ1)) (k : (if p = true then a ρ1 else b ρ1) = o) : zIf c a b ρ = o := by
  unfold zIf; rw [h]; cases p <;> exact k
theorem rIfT {c : M Bool} {a b : MS} {o : Option Res} (h : c ρ = some (true, ρ1)) (k : a ρ1 = o) : zIf c a b ρ = o := by unfold zIf; rw [h]; exact k
theorem rIfF {c : M Bool} {a b : MS} {o : Option Res} (h : c ρ = some (false, ρ1)) (k : b ρ1 = o) : zIf c a b ρ = o := by unfold zIf; rw [h]; exact k
theorem rDrop (h : m ρ = some (r, ρ1)) : zDrop m ρ = some (.nx ρ1) := by unfold zDrop; rw [h]
theorem rSet {c : C} {π : Rho} (h : m ρ = some (r, ρ1)) (k : cv ρ1 r = some (c, ρ2)) (s : setC i c ρ2 = some π) : zSet i m ρ = some (.nx π) := by unfold zSet; rw [h]; simp only [k, s]; rfl
theorem rVar (h : ρ[i]? = some (some (.d x))) : sVar i ρ = some (.d x, ρ) := by unfold sVar; rw [h]
theorem rOp {g : D → D → Option R} {r s t : R} (h : a ρ = some (r, ρ1)) (k : b ρ1 = some (s, ρ2)) (hx : rd ρ2 r = some x) (hy : rd ρ2 s = some y) (e : g x y = some t) : sOp g a b ρ = some (t, ρ2) := by
  unfold sOp; rw [h]; simp only [k, hx, hy, e]; rfl
theorem rOpD {g : D → D → Option R} {t : R} (h : a ρ = some (.d x, ρ1)) (k : b ρ1 = some (.d y, ρ2)) (e : g x y = some t) : sOp g a b ρ = some (t, ρ2) := rOp h k rfl rfl e
theorem rUn {g : D → Option R} {r t : R} (h : a ρ = some (r, ρ1)) (hx : rd ρ1 r = some x) (e : g x = some t) : sUn g a ρ = some (t, ρ1) := by
  unfold sUn; rw [h]; simp only [hx, e]; rfl
theorem rUnD {g : D → Option R} {t : R} (h : a ρ = some (.d x, ρ1)) (e : g x = some t) : sUn g a ρ = some (t, ρ1) := rUn h rfl e
theorem rAndV (h : a ρ = some (.d (.bool p), ρ1)) (k : p = true → b ρ1 = some (.d (.bool q), ρ1)) : sAndV a b ρ = some (.d (.bool (p && q)), ρ1) := by
  unfold sAndV; rw [h]
  cases p
  · rfl
  · exact k rfl
theorem rOrV (h : a ρ = some (.d (.bool p), ρ1)) (k : p = false → b ρ1 = some (.d (.bool q), ρ1)) : sOrV a b ρ = some (.d (.bool (p || q)), ρ1) := by
  unfold sOrV; rw [h]
  cases p
  · exact k rfl
  · rfl
theorem rNotV (h : a ρ = some (.d (.bool p), ρ1)) : sNotV a ρ = some (.d (.bool (!p)), ρ1) := by unfold sNotV; rw [h]; rfl
theorem rAnd {s t : M Bool} (h : s ρ = some (p, ρ1)) (k : p = true → t ρ1 = some (q, ρ1)) : sAnd s t ρ = some (p && q, ρ1) := by
  unfold sAnd; rw [h]
  cases p
  · rfl
  · exact k rfl
theorem rOr {s t : M Bool} (h : s ρ = some (p, ρ1)) (k : p = false → t ρ1 = some (q, ρ1)) : sOr s t ρ = some (p || q, ρ1) := by
  unfold sOr; rw [h]
  cases p
  · exact k rfl
  · rfl
theorem rNot {s : M Bool} (h : s ρ = some (p, ρ1)) : sNot s ρ = some (!p, ρ1) := by unfold sNot; rw [h]
theorem rTst (h : a ρ = some (.d (.bool p), ρ1)) : sTst a ρ = some (p, ρ1) := by unfold sTst; rw [h]
theorem rTru (h : a ρ = some (r, ρ1)) (hx : rd ρ1 r = some x) (e : dTru x = some p) : sTru a ρ = some (p, ρ1) := by unfold sTru; rw [h]; simp only [hx, e]; rfl
theorem rTruD (h : a ρ = some (.d x, ρ1)) (e : dTru x = some p) : sTru a ρ = some (p, ρ1) := rTru h rfl e
theorem rTruB (h : a ρ = some (.d (.bool p), ρ1)) : sTru a ρ = some (p, ρ1) := rTru h rfl rfl
theorem rIfE {c : M Bool} (h : c ρ = some (p, ρ1)) (ka : p = true → a ρ1 = some (r, ρ2)) (kb : p = false → b ρ1 = some (r, ρ2)) : sIf c a b ρ = some (r, ρ2) := by
  unfold sIf; rw [h]
  cases p
  · exact kb rfl
  · exact ka rfl
theorem rCons {ms : M (List R)} {rs : List R} (h : a ρ = some (r, ρ1)) (k : ms ρ1 = some (rs, ρ2)) : aCons a ms ρ = some (r :: rs, ρ2) := by unfold aCons; rw [h]; simp only [k]
theorem rCB {g : List D → Option R} {ms : M (List R)} {rs : List R} {xs : List D} {t : R} (h : ms ρ = some (rs, ρ1)) (k : rds ρ1 rs = some xs) (e : g xs = some t) : sCB g ms ρ = some (t, ρ1) := by
  unfold sCB; rw [h]; simp only [k, e]; rfl
theorem rCB1 {g : List D → Option R} {t : R} (h : a ρ = some (r, ρ1)) (k : rd ρ1 r = some x) (e : g [x] = some t) : sCB g (aCons a aNil) ρ = some (t, ρ1) :=
  rCB (rCons h rfl) (by unfold rds; rw [k]; rfl) e
theorem rTup {ms : M (List R)} {rs : List R} {xs : List D} (h : ms ρ = some (rs, ρ1)) (k : fzs ρ1 rs = some (xs, ρ2)) (l : xs.length ≤ big) : sTup ms ρ = some (.d (.tuple xs), ρ2) := by
  unfold sTup; rw [h]; simp only [k]; rw [if_pos l]
theorem rLst {ms : M (List R)} {rs : List R} {xs : List D} (h : ms ρ = some (rs, ρ1)) (k : fzs ρ1 rs = some (xs, ρ2)) (l : xs.length ≤ big) : sLst ms ρ = some (.own xs, ρ2) := by
  unfold sLst; rw [h]; simp only [k]; rw [if_pos l]
theorem rCall {fn : FnM} {ms : List Bool} {n : M (List R)} {rs rs2 : List R} {cs cs' : List C} {c : C} {π : Rho} {t : R} (h : n ρ = some (rs, ρ1)) (k : fzm ρ1 ms rs = some (rs2, ρ2)) (kc : csOf ρ2 rs2 = some cs) (nd : (slots rs2).Nodup)
    (e : fn cs = some (c, cs')) (he : cs'.map C.isOwn = cs.map C.isOwn) (ht : resOf c = t) (hp : backs ρ2 rs2 cs' = π) : sCall fn ms n ρ = some (t, π) := by
  unfold sCall; rw [h]; simp only [k, kc]; rw [if_pos nd]; simp only [e]; rw [if_pos he, ht, hp]
/-- a call with data alone -/
theorem rCall1 {fn : FnM} {bm : Bool} (h : a ρ = some (.d x, ρ1)) (e : fn [.d x] = some (.d y, [.d x])) : sCall fn [bm] (aCons a aNil) ρ = some (.d y, ρ1) := by
  refine rCall (rs := [.d x]) (rs2 := [.d x]) (ρ2 := ρ1) (cs := [.d x]) (cs' := [.d x]) (rCons h rfl) ?_ rfl List.nodup_nil e rfl rfl rfl
  cases bm <;> rfl
/-- a call with one list that is handed over for good -/
theorem rCall1f {fn : FnM} (h : a ρ = some (r, ρ1)) (k : fz ρ1 r = some (x, ρ2)) (e : fn [.d x] = some (.d y, [.d x])) : sCall fn [false] (aCons a aNil) ρ = some (.d y, ρ2) := by
  refine rCall (rs := [r]) (rs2 := [.d x]) (ρ2 := ρ2) (cs := [.d x]) (cs' := [.d x]) (rCons h rfl) ?_ rfl List.nodup_nil e rfl rfl rfl
  simp only [fzm, k]
theorem rSl {g : D → Option Int → Option Int → Option R} {l h : M (Option Int)} {lo hi : Option Int} {t : R} (e1 : a ρ = some (r, ρ1)) (e2 : l ρ1 = some (lo, ρ2)) (e3 : h ρ2 = some (hi, ρ3)) (e4 : rd ρ3 r = some x) (e5 : g x lo hi = some t) : sSl g a l h ρ = some (t, ρ3) := by
  unfold sSl; rw [e1]; simp only [e2, e3, e4, e5]; rfl
theorem rOs {n : Int} (h : m ρ = some (.d (.int n), ρ1)) : oSome m ρ = some (some n, ρ1) := by unfold oSome; rw [h]
end
/-! ### defs -/
theorem rFn {p n : Nat} {b : MS} {cs os : List C} {r : R} {c : C} {ρ : Rho} (hl : cs.length = p) (h : b (rho0 n cs) = some (.rt r ρ)) (k : retC ρ r = some c) (o : outs cs ρ = some os) : fnP p n b cs = some (c, os) := by
  unfold fnP; rw [if_pos hl]; unfold fnOf; rw [h]; simp only [k, o]
/-! ### loops -/
theorem goLc_pure {vs : List Nat} {g : D → Rho → Option Rho} {t : M Bool} {e : M R} {ρ : Rho} {p : D → Bool} {f : D → D} : ∀ (xs acc : List D), acc.length + xs.length ≤ big →
    (∀ x ∈ xs, ∃ ρ1, g x ρ = some ρ1 ∧ ∃ ρ2, t ρ1 = some (p x, ρ2) ∧ (p x = false → wipeR ρ2 vs = ρ) ∧ (p x = true → ∃ ρ3, sFz e ρ2 = some (f x, ρ3) ∧ wipeR ρ3 vs = ρ)) →
    goLc vs g t e xs acc ρ = some (acc ++ (xs.filter p).map f, ρ)
  | [], acc, _, _ => by simp [goLc]
  | x :: xs, acc, hl, h => by
    obtain ⟨ρ1, h1, ρ2, h2, hf, ht⟩ := h x List.mem_cons_self
    unfold goLc
    simp only [h1, h2]
    cases hp : p x with
    | false =>
      simp only [hf hp]
      rw [goLc_pure xs acc (by simp at hl; omega) fun y hy => h y (List.mem_cons_of_mem _ hy), List.filter_cons_of_neg (by simp [hp])]
    | true =>
      obtain ⟨ρ3, h3, h4⟩ := ht hp
      simp only [h3, h4]
      rw [if_pos (by simp at hl; omega), goLc_pure xs (acc ++ [f x]) (by simp at hl ⊢; omega) fun y hy => h y (List.mem_cons_of_mem _ hy), List.filter_cons_of_pos hp]
      simp
theorem rLc {vs : List Nat} {i : M (List D)} {g : D → Rho → Option Rho} {t : M Bool} {e : M R} {ρ ρ1 ρ2 : Rho} {xs ys : List D} (h : i ρ = some (xs, ρ1)) (k : goLc vs g t e xs [] (wipeR ρ1 vs) = some (ys, ρ2)) : sLc vs i g t e ρ = some (.own ys, ρ2) := by
  unfold sLc; rw [h]; simp only [k]
/-- all items, each as f says -/
theorem goLc_map {vs : List Nat} {g : D → Rho → Option Rho} {e : M R} {ρ : Rho} {f : D → D} (xs : List D) (hl : xs.length ≤ big)
    (h : ∀ x ∈ xs, ∃ ρ1, g x ρ = some ρ1 ∧ ∃ ρ3, sFz e ρ1 = some (f x, ρ3) ∧ wipeR ρ3 vs = ρ) : goLc vs g (fun ρ => some (true, ρ)) e xs [] ρ = some (xs.map f, ρ) := by
  rw [goLc_pure (p := fun _ => true) (f := f) xs [] (by simpa using hl) fun x hx => ?_]
  · rw [List.filter_eq_self.mpr fun _ _ => rfl, List.nil_append]
  · obtain ⟨ρ1, h1, ρ3, h3, h4⟩ := h x hx
    exact ⟨ρ1, h1, ρ1, rfl, (fun z => nomatch z), fun _ => ⟨ρ3, h3, h4⟩⟩
/-- with what is carried -/
theorem goLc_inv {vs : List Nat} {g : D → Rho → Option Rho} {t : M Bool} {e : M R} (I : Nat → List D → Rho → Prop) : ∀ (xs acc : List D) (n : Nat) (ρ : Rho), acc.length + xs.length ≤ big → I n acc ρ →
    (∀ k x, xs[k]? = some x → ∀ acc ρ, I (n + k) acc ρ → ∃ ρ1, g x ρ = some ρ1 ∧ ∃ b ρ2, t ρ1 = some (b, ρ2) ∧ (b = false → I (n + k + 1) acc (wipeR ρ2 vs)) ∧ (b = true → ∃ y ρ3, sFz e ρ2 = some (y, ρ3) ∧ I (n + k + 1) (acc ++ [y]) (wipeR ρ3 vs))) →
    ∃ ys ρ', goLc vs g t e xs acc ρ = some (ys, ρ') ∧ I (n + xs.length) ys ρ' ∧ ys.length ≤ acc.length + xs.length
  | [], acc, n, ρ, hl, hi, h => ⟨acc, ρ, rfl, hi, Nat.le_refl _⟩
  | x :: xs, acc, n, ρ, hl, hi, h => by
    obtain ⟨ρ1, h1, b, ρ2, h2, hf, ht⟩ := h 0 x rfl acc ρ hi
    have h' : ∀ k x, xs[k]? = some x → ∀ acc ρ, I (n + 1 + k) acc ρ → ∃ ρ1, g x ρ = some ρ1 ∧ ∃ b ρ2, t ρ1 = some (b, ρ2) ∧ (b = false → I (n + 1 + k + 1) acc (wipeR ρ2 vs)) ∧ (b = true → ∃ y ρ3, sFz e ρ2 = some (y, ρ3) ∧ I (n + 1 + k + 1) (acc ++ [y]) (wipeR ρ3 vs)) := fun k y hy acc ρ hk => by
      have := h (k + 1) y hy acc ρ (by rw [show n + (k + 1) = n + 1 + k by omega]; exact hk)
      rw [show n + (k + 1) + 1 = n + 1 + k + 1 by omega] at this
      exact this
    unfold goLc
    simp only [h1, h2]
    cases b with
    | false =>
      obtain ⟨ys, ρ', a, b, c⟩ := goLc_inv I xs acc (n + 1) _ (by simp at hl; omega) (hf rfl) h'
      exact ⟨ys, ρ', a, by rw [List.length_cons, show n + (xs.length + 1) = n + 1 + xs.length by omega]; exact b, by rw [List.length_cons]; omega⟩
    | true =>
      obtain ⟨y, ρ3, h3, h4⟩ := ht rfl
      simp only [h3]
      rw [if_pos (by simp at hl; omega)]
      obtain ⟨ys, ρ', a, b, c⟩ := goLc_inv I xs (acc ++ [y]) (n + 1) _ (by simp at hl ⊢; omega) h4 h'
      exact ⟨ys, ρ', a, by rw [List.length_cons, show n + (xs.length + 1) = n + 1 + xs.length by omega]; exact b, by simp at c ⊢; omega⟩
/-- a for whose body goes on -/
theorem goFor_inv {g : D → Rho → Option Rho} {b : MS} (I : Nat → Rho → Prop) : ∀ (xs : List D) (n : Nat) (ρ : Rho), I n ρ →
    (∀ k x, xs[k]? = some x → ∀ ρ, I (n + k) ρ → ∃ ρ1, g x ρ = some ρ1 ∧ ∃ ρ2, b ρ1 = some (.nx ρ2) ∧ I (n + k + 1) ρ2) → ∃ ρ', goFor g b xs ρ = some (.nx ρ') ∧ I (n + xs.length) ρ'
  | [], n, ρ, hi, h => ⟨ρ, rfl, hi⟩
  | x :: xs, n, ρ, hi, h => by
    obtain ⟨ρ1, h1, ρ2, h2, h3⟩ := h 0 x rfl ρ hi
    unfold goFor
    simp only [h1, h2]
    obtain ⟨ρ', a, c⟩ := goFor_inv I xs (n + 1) ρ2 h3 fun k y hy ρ hk => by
      obtain ⟨π, a1, τ, a2, a3⟩ := h (k + 1) y hy ρ (by rw [show n + (k + 1) = n + 1 + k by omega]; exact hk)
      exact ⟨π, a1, τ, a2, by rw [show n + 1 + k + 1 = n + (k + 1) + 1 by omega]; exact a3⟩
    exact ⟨ρ', a, by rw [List.length_cons, show n + (xs.length + 1) = n + 1 + xs.length by omega]; exact c⟩
theorem rFor {i : M (List D)} {g : D → Rho → Option Rho} {b : MS} {ρ ρ1 : Rho} {xs : List D} {o : Option Res} (h : i ρ = some (xs, ρ1)) (k : goFor g b xs ρ1 = o) : zFor i g b ρ = o := by unfold zFor; rw [h]; exact k
end Pu

set_option Elab.async false
set_option linter.all false
set_option maxRecDepth 100000
set_option maxHeartbeats 2000000
namespace Pu
open PySem PySem.Spec PyProof.Rows L2

/-! ### data of small size -/
def Fine : Nat → D → Prop
  | _, .none => True
  | _, .bool _ => True
  | _, .int _ => True
  | _, .str s => s.length ≤ 1000 ∧ s.cps.all (· < 0x110000) = true
  | 0, .list _ => False
  | 0, .tuple _ => False
  | k + 1, .list xs => xs.length ≤ 1000 ∧ ∀ x ∈ xs, Fine k x
  | k + 1, .tuple xs => xs.length ≤ 1000 ∧ ∀ x ∈ xs, Fine k x
  | _, .dict _ => False
theorem Fine.mono : ∀ {k : Nat} {d : D}, Fine k d → Fine (k + 1) d
  | k, .none, h => by simp [Fine]
  | k, .bool _, h => by simp [Fine]
  | k, .int _, h => by simp [Fine]
  | k, .str _, h => by simpa [Fine] using h
  | 0, .list _, h => by simp [Fine] at h
  | 0, .tuple _, h => by simp [Fine] at h
  | k + 1, .list xs, h => by
    simp only [Fine] at h ⊢
    exact ⟨h.1, fun x hx => Fine.mono (h.2 x hx)⟩
  | k + 1, .tuple xs, h => by
    simp only [Fine] at h ⊢
    exact ⟨h.1, fun x hx => Fine.mono (h.2 x hx)⟩
  | k, .dict _, h => by simp [Fine] at h
theorem Fine.up {k j : Nat} {d : D} (h : Fine k d) (e : k ≤ j) : Fine j d := by
  induction j with
  | zero => cases Nat.le_zero.mp e; exact h
  | succ j ih =>
    by_cases c : k = j + 1
    · subst c; exact h
    · exact (ih (by omega)).mono
theorem Fine.tup {k : Nat} {xs : List D} (h : Fine k (.tuple xs)) : xs.length ≤ 1000 ∧ ∀ x ∈ xs, Fine k x := by
  cases k with
  | zero => simp [Fine] at h
  | succ k =>
    simp only [Fine] at h
    exact ⟨h.1, fun x hx => (h.2 x hx).mono⟩
theorem Fine.lst {k : Nat} {xs : List D} (h : Fine k (.list xs)) : xs.length ≤ 1000 ∧ ∀ x ∈ xs, Fine k x := by
  cases k with
  | zero => simp [Fine] at h
  | succ k =>
    simp only [Fine] at h
    exact ⟨h.1, fun x hx => (h.2 x hx).mono⟩
theorem Fine.nodict {k : Nat} {d : D} (h : Fine k d) : ∀ z, d ≠ .dict z := by
  rintro z rfl
  cases k <;> simp [Fine] at h
theorem Fine.str {k : Nat} {s : Str} (h : Fine k (.str s)) : s.length ≤ 1000 ∧ s.cps.all (· < 0x110000) = true := by
  cases k <;> simpa [Fine] using h
theorem canLayAll_of : ∀ {xs : List D}, (∀ x ∈ xs, PyData.canLay0 x = true) → PyData.canLayAll0 xs = true
  | [], _ => by simp [PyData.canLayAll0]
  | x :: xs, h => by
    simp only [PyData.canLayAll0, Bool.and_eq_true]
    exact ⟨h x List.mem_cons_self, canLayAll_of fun y hy => h y (List.mem_cons_of_mem _ hy)⟩
theorem depthAll_of {n : Nat} : ∀ {xs : List D}, (∀ x ∈ xs, PyData.depth x ≤ n) → PyData.depthAll xs ≤ n
  | [], _ => by simp [PyData.depthAll]
  | x :: xs, h => by
    simp only [PyData.depthAll]
    exact Nat.max_le.mpr ⟨h x List.mem_cons_self, depthAll_of fun y hy => h y (List.mem_cons_of_mem _ hy)⟩
theorem Fine.lay : ∀ {k : Nat} {d : D}, Fine k d → PyData.canLay0 d = true ∧ PyData.depth d ≤ k
  | k, .none, h => by simp [PyData.canLay0, PyData.depth]
  | k, .bool _, h => by simp [PyData.canLay0, PyData.depth]
  | k, .int _, h => by simp [PyData.canLay0, PyData.depth]
  | k, .str s, h => by
    have := h.str.2
    simp only [PyData.canLay0, PyData.depth]
    exact ⟨this, Nat.zero_le _⟩
  | 0, .list _, h => by simp [Fine] at h
  | 0, .tuple _, h => by simp [Fine] at h
  | k + 1, .list xs, h => by
    simp only [Fine] at h
    simp only [PyData.canLay0, PyData.depth]
    exact ⟨canLayAll_of fun x hx => (h.2 x hx).lay.1, Nat.succ_le_succ (depthAll_of fun x hx => (h.2 x hx).lay.2)⟩
  | k + 1, .tuple xs, h => by
    simp only [Fine] at h
    simp only [PyData.canLay0, PyData.depth]
    exact ⟨canLayAll_of fun x hx => (h.2 x hx).lay.1, Nat.succ_le_succ (depthAll_of fun x hx => (h.2 x hx).lay.2)⟩
  | k, .dict _, h => by simp [Fine] at h
theorem Fine.shaped {k : Nat} {d : D} (h : Fine k d) (hk : k ≤ 64) : SeqAt.shaped d = true := by
  unfold SeqAt.shaped
  rw [h.lay.1, Bool.true_and]
  exact decide_eq_true (Nat.le_trans h.lay.2 hk)
theorem fine_list {k : Nat} {xs : List D} (hl : xs.length ≤ 1000) (h : ∀ x ∈ xs, Fine k x) : Fine (k + 1) (.list xs) := by
  simp only [Fine]; exact ⟨hl, h⟩
theorem fine_tuple {k : Nat} {xs : List D} (hl : xs.length ≤ 1000) (h : ∀ x ∈ xs, Fine k x) : Fine (k + 1) (.tuple xs) := by
  simp only [Fine]; exact ⟨hl, h⟩
/-! ### values -/
theorem gEq_of {x y : D} (hx : SeqAt.shaped x = true) (hy : SeqAt.shaped y = true) : gEq x y = some (.d (.bool (PyData.eqv x y))) := by unfold gEq; rw [if_pos ⟨hx, hy⟩]
theorem gNe_of {x y : D} (hx : SeqAt.shaped x = true) (hy : SeqAt.shaped y = true) : gNe x y = some (.d (.bool (!PyData.eqv x y))) := by unfold gNe; rw [if_pos ⟨hx, hy⟩]
theorem eqv_nil (l : List D) : PyData.eqv (.list l) (.list []) = l.isEmpty := by cases l <;> simp [PyData.eqv, PyData.eqvAll]
theorem shaped_nil : SeqAt.shaped (.list []) = true := rfl
theorem gEq_int (i j : Int) : gEq (.int i) (.int j) = some (.d (.bool (i == j))) := gEq_of rfl rfl
theorem gNe_int (i j : Int) : gNe (.int i) (.int j) = some (.d (.bool (!(i == j)))) := gNe_of rfl rfl
theorem gEq_nil {l : List D} (h : SeqAt.shaped (.list l) = true) : gEq (.list l) (.list []) = some (.d (.bool l.isEmpty)) := by rw [gEq_of h shaped_nil, eqv_nil]
theorem gNe_nil {l : List D} (h : SeqAt.shaped (.list l) = true) : gNe (.list l) (.list []) = some (.d (.bool (!l.isEmpty))) := by rw [gNe_of h shaped_nil, eqv_nil]
theorem gLenU_str {s : Str} (h : s.length ≤ big) : gLenU [.str s] = some (.d (.int s.length)) := by simp [gLenU, orC, gLen, gLenS, h]
theorem bools_map {α : Type} (p : α → Bool) : ∀ xs : List α, bools (xs.map fun x => .bool (p x)) = some (xs.map p)
  | [] => rfl
  | x :: xs => by simp [bools, bools_map p xs]
theorem gAll_map {α : Type} (p : α → Bool) (xs : List α) : gAll [.list (xs.map fun x => .bool (p x))] = some (.d (.bool (xs.all p))) := by
  show Option.map (fun bs => R.d (PyData.bool (bs.all id))) (bools (xs.map fun x => .bool (p x))) = _
  rw [bools_map, Option.map_some, List.all_map]
  rfl
theorem rFz {m : M R} {ρ ρ1 ρ2 : Rho} {r : R} {x : D} (h : m ρ = some (r, ρ1)) (k : fz ρ1 r = some (x, ρ2)) : sFz m ρ = some (x, ρ2) := by unfold sFz; rw [h]; exact k
theorem rFzD {m : M R} {ρ ρ1 : Rho} {x : D} (h : m ρ = some (.d x, ρ1)) : sFz m ρ = some (x, ρ1) := rFz h rfl
theorem isEmpty_filter {α : Type} (p : α → Bool) : ∀ xs : List α, (xs.filter p).isEmpty = !xs.any p
  | [] => rfl
  | x :: xs => by
    cases h : p x
    · rw [List.filter_cons_of_neg (by simp [h]), isEmpty_filter p xs]; simp [h]
    · rw [List.filter_cons_of_pos h]; simp [h]
theorem isEmpty_fm {α β : Type} (p : α → Bool) (f : α → β) (xs : List α) : ((xs.filter p).map f).isEmpty = !xs.any p := by
  rw [List.isEmpty_map, isEmpty_filter]
theorem rSSet {m : M (List R)} {rs : List R} {ss : List Str} {ρ ρ1 : Rho} (h : m ρ = some (rs, ρ1)) (k : rds ρ1 rs = some [.list (ss.map .str)]) (l : ss.length ≤ 4000) : sSSet m ρ = some (.own ((sset ss).map .str), ρ1) := by
  unfold sSSet; rw [h]; simp only [k, strOf_map]; rw [if_pos l]
/-- a def of one datum that gives a datum -/
theorem rFn1 {n : Nat} {b : MS} {x y : D} {ρ : Rho} (h : b (rho0 n [.d x]) = some (.rt (.d y) ρ)) : fnP 1 n b [.d x] = some (.d y, [.d x]) := rFn rfl h rfl rfl
/-! ### numbers -/
theorem mulL {i j : Int} (h : -(2 ^ 64) < i ∧ i < 2 ^ 64) : gMulU (.int i) (.int j) = some (.d (.int (i * j))) := by
  have : cMul i j = true := by unfold cMul; rw [decide_eq_true h]; rfl
  unfold gMulU orG gMul gI
  simp only [this, if_true]
theorem mulR {i j : Int} (h : -(2 ^ 64) < j ∧ j < 2 ^ 64) : gMulU (.int i) (.int j) = some (.d (.int (i * j))) := by
  have : cMul i j = true := by unfold cMul; rw [decide_eq_true h]; exact Bool.or_true _
  unfold gMulU orG gMul gI
  simp only [this, if_true]
theorem divI {i j : Int} (h : 0 < j) (h' : j < 1073741824) : gFdiv (.int i) (.int j) = some (.d (.int (i / j))) := by
  have : cDiv i j = true := by unfold cDiv; rw [decide_eq_true h, decide_eq_true h']; rfl
  unfold gFdiv gI
  simp only [this, if_true]
theorem modI {i j : Int} (h : 0 < j) : gMod (.int i) (.int j) = some (.d (.int (i % j))) := by
  have : decide (0 < j) = true := decide_eq_true h
  unfold gMod gI
  simp only [this, if_true]
theorem atI_nat {α : Type} {xs : List α} {n : Nat} {x : α} (h : xs[n]? = some x) : L2.atI xs (n : Int) = some x := by
  have hl : n < xs.length := by
    rcases Nat.lt_or_ge n xs.length with k | k
    · exact k
    · rw [List.getElem?_eq_none k] at h; cases h
  unfold L2.atI L2.ixN
  rw [if_pos (by omega), if_pos (by omega), Option.bind_some, Int.toNat_natCast]
  exact h
theorem ixN_nat {n k : Nat} (h : k < n) : L2.ixN n (k : Int) = some k := by
  unfold L2.ixN
  rw [if_pos (by omega), if_pos (by omega), Int.toNat_natCast]
/-! ### statements on lists of one's own -/
theorem jn {c : C} : (some (some c) : Option (Option C)).join = some c := rfl
theorem rPut {i : Nat} {mi m : M R} {ρ ρ1 ρ2 : Rho} {y : D} {c c' : C} {xs xs' : List D} {k : Int} {n : Nat} {π : Rho} (h : sFz m ρ = some (y, ρ1)) (h1 : ρ1[i]? = some (some c)) (h2 : c.xs = some xs) (h3 : mi ρ1 = some (.d (.int k), ρ2))
    (h4 : ρ2[i]? = some (some c')) (h5 : c'.xs = some xs') (h6 : L2.ixN xs'.length k = some n) (h7 : ρ2.set i (some (c'.put (xs'.set n y))) = π) : zPut i mi m ρ = some (.nx π) := by
  have b : (ρ1[i]?).join.bind C.xs = some xs := by rw [h1, jn]; exact h2
  have b2 : (ρ2[i]?).join = some c' := by rw [h4, jn]
  unfold zPut
  simp only [h, b, h3, b2, h5, h6, h7]
theorem rApp {i : Nat} {m : M R} {ρ ρ1 : Rho} {y : D} {c c' : C} {xs xs' : List D} {π : Rho} (h1 : ρ[i]? = some (some c)) (h2 : c.xs = some xs) (h : sFz m ρ = some (y, ρ1))
    (h4 : ρ1[i]? = some (some c')) (h5 : c'.xs = some xs') (h6 : xs'.length < big) (h7 : ρ1.set i (some (c'.put (xs' ++ [y]))) = π) : sApp i m ρ = some (.d .none, π) := by
  have b : (ρ[i]?).join.bind C.xs = some xs := by rw [h1, jn]; exact h2
  have b2 : (ρ1[i]?).join = some c' := by rw [h4, jn]
  unfold sApp
  simp only [b, h, b2, h5, h7]
  rw [if_pos h6]
theorem rPop {i : Nat} {m : M R} {ρ ρ1 : Rho} {y : D} {c c' : C} {xs xs' : List D} {π : Rho} {n : Nat} (h1 : ρ[i]? = some (some c)) (h2 : c.xs = some xs) (h : m ρ = some (.d (.int (n : Int)), ρ1))
    (h4 : ρ1[i]? = some (some c')) (h5 : c'.xs = some xs') (hb : n < 2 ^ 63) (h6 : xs'[n]? = some y) (h7 : ρ1.set i (some (c'.put (xs'.eraseIdx n))) = π) : sPop i m ρ = some (.d y, π) := by
  have hl : n < xs'.length := by
    rcases Nat.lt_or_ge n xs'.length with k | k
    · exact k
    · rw [List.getElem?_eq_none k] at h6; cases h6
  have e : seqIndex? (n : Int) xs'.length = some n := by
    unfold seqIndex?
    have : ¬ ((n : Int) < 0) := by omega
    simp only [if_neg this, Int.toNat_natCast]
    rw [if_pos (by simp; omega)]
  have b : (ρ[i]?).join.bind C.xs = some xs := by rw [h1, jn]; exact h2
  have b2 : (ρ1[i]?).join = some c' := by rw [h4, jn]
  unfold sPop
  simp only [b, h, b2, h5, e, h6, h7]
  rw [if_pos (by omega)]
end Pu

set_option Elab.async false
set_option linter.all false
set_option maxRecDepth 100000
set_option maxHeartbeats 4000000
namespace G
open PySem PySem.Spec PyProof.Rows L2 Pu
def topS (i : Nat) : Stmt := PySem.Challenge.pw_reportalike_k00_steps_plans_counts_or_no.main.body.getD i (.Pass ⟨0, 0, 0, 0⟩)
abbrev s_is_number : Stmt := topS 1
abbrev n_is_number : List Str := ["thing"]
theorem sc_is_number : FnScope n_is_number ["thing"] (defScope s_is_number) := ⟨rfl, rfl, rfl, by decide +kernel, rfl, by decide +kernel, by decide +kernel⟩
abbrev s_is_name : Stmt := topS 2
abbrev n_is_name : List Str := ["thing"]
theorem sc_is_name : FnScope n_is_name ["thing"] (defScope s_is_name) := ⟨rfl, rfl, rfl, by decide +kernel, rfl, by decide +kernel, by decide +kernel⟩
abbrev s_is_tuple_of : Stmt := topS 3
abbrev n_is_tuple_of : List Str := ["thing", "many"]
theorem sc_is_tuple_of : FnScope n_is_tuple_of ["thing", "many"] (defScope s_is_tuple_of) := ⟨rfl, rfl, rfl, by decide +kernel, rfl, by decide +kernel, by decide +kernel⟩
abbrev s_is_ascending : Stmt := topS 4
abbrev n_is_ascending : List Str := ["row", "first", "second"]
theorem sc_is_ascending : FnScope n_is_ascending ["row"] (defScope s_is_ascending) := ⟨rfl, rfl, rfl, by decide +kernel, rfl, by decide +kernel, by decide +kernel⟩
abbrev s_are_names : Stmt := topS 5
abbrev n_are_names : List Str := ["thing", "part"]
theorem sc_are_names : FnScope n_are_names ["thing"] (defScope s_are_names) := ⟨rfl, rfl, rfl, by decide +kernel, rfl, by decide +kernel, by decide +kernel⟩
abbrev s_is_demand : Stmt := topS 7
abbrev n_is_demand : List Str := ["thing"]
theorem sc_is_demand : FnScope n_is_demand ["thing"] (defScope s_is_demand) := ⟨rfl, rfl, rfl, by decide +kernel, rfl, by decide +kernel, by decide +kernel⟩
abbrev s_is_condition : Stmt := topS 8
abbrev n_is_condition : List Str := ["thing", "pair"]
theorem sc_is_condition : FnScope n_is_condition ["thing"] (defScope s_is_condition) := ⟨rfl, rfl, rfl, by decide +kernel, rfl, by decide +kernel, by decide +kernel⟩
abbrev s_is_step : Stmt := topS 9
abbrev n_is_step : List Str := ["thing", "name", "method", "reads", "sheet", "condition"]
theorem sc_is_step : FnScope n_is_step ["thing"] (defScope s_is_step) := ⟨rfl, rfl, rfl, by decide +kernel, rfl, by decide +kernel, by decide +kernel⟩
abbrev s_is_plan : Stmt := topS 10
abbrev n_is_plan : List Str := ["thing", "step"]
theorem sc_is_plan : FnScope n_is_plan ["thing"] (defScope s_is_plan) := ⟨rfl, rfl, rfl, by decide +kernel, rfl, by decide +kernel, by decide +kernel⟩
abbrev s_is_counts : Stmt := topS 12
abbrev n_is_counts : List Str := ["thing", "pair", "sheet", "mark", "_"]
theorem sc_is_counts : FnScope n_is_counts ["thing"] (defScope s_is_counts) := ⟨rfl, rfl, rfl, by decide +kernel, rfl, by decide +kernel, by decide +kernel⟩
abbrev s_law_box : Stmt := topS 14
abbrev n_law_box : List Str := ["_law_script", "_law_k", "_law_great_so"]
theorem sc_law_box : FnScope n_law_box ["_law_script", "_law_k"] (defScope s_law_box) := ⟨rfl, rfl, rfl, by decide +kernel, rfl, by decide +kernel, by decide +kernel⟩
abbrev s_law_take : Stmt := topS 15
abbrev n_law_take : List Str := ["_law_tin", "_law_top_so", "_law_digit_so", "_law_once", "_law_far", "_law_twice"]
theorem sc_law_take : FnScope n_law_take ["_law_tin", "_law_top_so"] (defScope s_law_take) := ⟨rfl, rfl, rfl, by decide +kernel, rfl, by decide +kernel, by decide +kernel⟩
abbrev s_law_cells : Stmt := topS 16
abbrev n_law_cells : List Str := ["_law_script", "_law_most", "_law_cells_here", "_law_k", "_law_great_so", "_law_at_so"]
theorem sc_law_cells : FnScope n_law_cells ["_law_script", "_law_most"] (defScope s_law_cells) := ⟨rfl, rfl, rfl, by decide +kernel, rfl, by decide +kernel, by decide +kernel⟩
abbrev s_law_of : Stmt := topS 17
abbrev n_law_of : List Str := ["_law_tin", "_law_lot"]
theorem sc_law_of : FnScope n_law_of ["_law_tin", "_law_lot"] (defScope s_law_of) := ⟨rfl, rfl, rfl, by decide +kernel, rfl, by decide +kernel, by decide +kernel⟩
abbrev s_law_pick : Stmt := topS 18
abbrev n_law_pick : List Str := ["_law_tin", "_law_pool", "_law_size_so", "_law_rest", "_law_lot", "_law_turn"]
theorem sc_law_pick : FnScope n_law_pick ["_law_tin", "_law_pool", "_law_size_so"] (defScope s_law_pick) := ⟨rfl, rfl, rfl, by decide +kernel, rfl, by decide +kernel, by decide +kernel⟩
abbrev s_law_same : Stmt := topS 19
abbrev n_law_same : List Str := ["_law_got", "_law_due", "_law_mine", "_law_its", "_law_lot_so"]
theorem sc_law_same : FnScope n_law_same ["_law_got", "_law_due"] (defScope s_law_same) := ⟨rfl, rfl, rfl, by decide +kernel, rfl, by decide +kernel, by decide +kernel⟩
abbrev s_law_form : Stmt := topS 20
abbrev n_law_form : List Str := ["_law_tin", "_law_many", "_law_flags_so", "_law_ahead", "_law_found", "_law_pages", "_law_letters", "_law_k", "_law_page", "_law_letter", "_law_reads_so", "_law_lap", "_law_tool", "_law_sort", "_law_flag", "_law_twice", "_law_on_so"]
theorem sc_law_form : FnScope n_law_form ["_law_tin", "_law_many", "_law_flags_so"] (defScope s_law_form) := ⟨rfl, rfl, rfl, by decide +kernel, rfl, by decide +kernel, by decide +kernel⟩
abbrev s_law_on : Stmt := topS 21
abbrev n_law_on : List Str := ["_law_form_here", "_law_flags_so", "_law_left_so", "_law_found", "_law_step_so", "_law_pair", "_law_waits_so", "_law_own", "_law_ready", "_law_page"]
theorem sc_law_on : FnScope n_law_on ["_law_form_here", "_law_flags_so"] (defScope s_law_on) := ⟨rfl, rfl, rfl, by decide +kernel, rfl, by decide +kernel, by decide +kernel⟩
abbrev s_law_stock : Stmt := topS 22
abbrev n_law_stock : List Str := ["_law_tin", "_law_form_here", "_law_flags_so", "_law_marks", "_law_made", "_law_own", "_law_need_so", "_law_page", "_law_more"]
theorem sc_law_stock : FnScope n_law_stock ["_law_tin", "_law_form_here", "_law_flags_so", "_law_marks"] (defScope s_law_stock) := ⟨rfl, rfl, rfl, by decide +kernel, rfl, by decide +kernel, by decide +kernel⟩
abbrev s_law_is_tag : Stmt := topS 23
abbrev n_law_is_tag : List Str := ["_law_matter", "_law_sign"]
theorem sc_law_is_tag : FnScope n_law_is_tag ["_law_matter"] (defScope s_law_is_tag) := ⟨rfl, rfl, rfl, by decide +kernel, rfl, by decide +kernel, by decide +kernel⟩
abbrev s_law_rises : Stmt := topS 24
abbrev n_law_rises : List Str := ["_law_lot"]
theorem sc_law_rises : FnScope n_law_rises ["_law_lot"] (defScope s_law_rises) := ⟨rfl, rfl, rfl, by decide +kernel, rfl, by decide +kernel, by decide +kernel⟩
abbrev s_law_are_pairs : Stmt := topS 25
abbrev n_law_are_pairs : List Str := ["_law_matter", "_law_own"]
theorem sc_law_are_pairs : FnScope n_law_are_pairs ["_law_matter"] (defScope s_law_are_pairs) := ⟨rfl, rfl, rfl, by decide +kernel, rfl, by decide +kernel, by decide +kernel⟩
abbrev s_law_is_on : Stmt := topS 26
abbrev n_law_is_on : List Str := ["_law_matter", "_law_own", "_law_bits", "_law_odd"]
theorem sc_law_is_on : FnScope n_law_is_on ["_law_matter"] (defScope s_law_is_on) := ⟨rfl, rfl, rfl, by decide +kernel, rfl, by decide +kernel, by decide +kernel⟩
abbrev s_law_is_bit : Stmt := topS 27
abbrev n_law_is_bit : List Str := ["_law_matter", "_law_own"]
theorem sc_law_is_bit : FnScope n_law_is_bit ["_law_matter"] (defScope s_law_is_bit) := ⟨rfl, rfl, rfl, by decide +kernel, rfl, by decide +kernel, by decide +kernel⟩
abbrev s_law_is_form : Stmt := topS 28
abbrev n_law_is_form : List Str := ["_law_matter", "_law_own"]
theorem sc_law_is_form : FnScope n_law_is_form ["_law_matter"] (defScope s_law_is_form) := ⟨rfl, rfl, rfl, by decide +kernel, rfl, by decide +kernel, by decide +kernel⟩
abbrev s_law_is_stock : Stmt := topS 29
abbrev n_law_is_stock : List Str := ["_law_matter", "_law_own"]
theorem sc_law_is_stock : FnScope n_law_is_stock ["_law_matter"] (defScope s_law_is_stock) := ⟨rfl, rfl, rfl, by decide +kernel, rfl, by decide +kernel, by decide +kernel⟩
abbrev s_law_spoilt : Stmt := topS 30
abbrev n_law_spoilt : List Str := ["_law_tin", "_law_matter", "_law_depth_so", "_law_odd", "_law_way_so", "_law_k", "_law_rest"]
theorem sc_law_spoilt : FnScope n_law_spoilt ["_law_tin", "_law_matter", "_law_depth_so"] (defScope s_law_spoilt) := ⟨rfl, rfl, rfl, by decide +kernel, rfl, by decide +kernel, by decide +kernel⟩
abbrev s_law_steps_right : Stmt := topS 31
abbrev n_law_steps_right : List Str := ["_law_first", "_law_fine", "_law_bad", "_law_own"]
theorem sc_law_steps_right : FnScope n_law_steps_right [] (defScope s_law_steps_right) := ⟨rfl, rfl, rfl, by decide +kernel, rfl, by decide +kernel, by decide +kernel⟩
abbrev s_law_hand_right : Stmt := topS 32
abbrev n_law_hand_right : List Str := ["_law_fine", "_law_letter", "_law_bad", "_law_own", "_law_first", "_law_ring", "_law_got"]
theorem sc_law_hand_right : FnScope n_law_hand_right [] (defScope s_law_hand_right) := ⟨rfl, rfl, rfl, by decide +kernel, rfl, by decide +kernel, by decide +kernel⟩
abbrev s_law_right : Stmt := topS 33
abbrev n_law_right : List Str := ["_law_tin", "_law_turn", "_law_form_here", "_law_stock_here", "_law_matter", "_law_third", "_law_piece", "_law_on_so", "_law_got", "_law_due"]
theorem sc_law_right : FnScope n_law_right ["_law_tin"] (defScope s_law_right) := ⟨rfl, rfl, rfl, by decide +kernel, rfl, by decide +kernel, by decide +kernel⟩
abbrev s_law : Stmt := topS 34
abbrev n_law : List Str := ["_law_script", "_law_cells_here", "_law_k"]
theorem sc_law : FnScope n_law ["_law_script"] (defScope s_law) := ⟨rfl, rfl, rfl, by decide +kernel, rfl, by decide +kernel, by decide +kernel⟩
/-! ### semantics -/
def b_is_number : MS :=
    (zRet (sAndV (sUn (gIsi "int") (sVar 0)) (sNotV (sUn (gIsi "bool") (sVar 0)))))
def f_is_number : FnM := fnP 1 1 b_is_number
def b_is_name : MS :=
    (zRet (sAndV (sUn (gIsi "str") (sVar 0)) (sAndV (sOp gLeU (sCB gLenU (aCons (sVar 0) aNil)) (sC (.int 8))) (sAndV (sUn (gSt Txt.isascii) (sVar 0)) (sAndV (sUn (gSt Txt.isalpha) (sVar 0)) (sUn (gSt Txt.islower) (sVar 0)))))))
def f_is_name : FnM := fnP 1 1 b_is_name
def b_is_tuple_of : MS :=
    (zRet (sAndV (sUn (gIsi "tuple") (sVar 0)) (sOp gEq (sCB gLenU (aCons (sVar 0) aNil)) (sVar 1))))
def f_is_tuple_of : FnM := fnP 2 2 b_is_tuple_of
def b_is_ascending : MS :=
    (zRet (sCB gAll (aCons (sLc [1, 2] (iZp (aCons (sVar 0) (aCons (sSl gSl (sVar 0) (oSome (sC (.int 1))) oNone) aNil))) (gT 2 (gsCons (gN 1) (gsCons (gN 2) gsNil))) (fun ρ => some (true, ρ)) (sOp gLtU (sVar 1) (sVar 2))) aNil)))
def f_is_ascending : FnM := fnP 1 3 b_is_ascending
def b_law_box : MS :=
    (zSeq (zSet 2 (sIf (sTst (sOp gLtU (sVar 1) (sCB gLenU (aCons (sVar 0) aNil)))) (sOp gIx (sVar 0) (sVar 1)) (sC (.int 0))))
    (zRet (sLst (aCons (sOp gMulU (sCB gAbs (aCons (sVar 2) aNil)) (sCB gInt (aCons (sOp gGe (sCB gAbs (aCons (sVar 2) aNil)) (sOp gPow (sC (.int 10)) (sC (.int 18)))) aNil))) (aCons (sOp gAddU (sOp gAddU (sOp gMod (sCB gInt (aCons (sVar 2) aNil)) (sC (.int 2305843009213693951))) (sOp gMulU (sC (.int 39373)) (sVar 1))) (sC (.int 831))) (aCons (sC (.int 0)) aNil))))))
def f_law_box : FnM := fnP 2 3 b_law_box
def b_law_take : MS :=
    (zSeq (zIf (sTst (sOp gGt (sOp gIx (sVar 0) (sC (.int 0))) (sC (.int 0)))) (zSeq (zSet 2 (sOp gMod (sCB gInt (aCons (sOp gIx (sVar 0) (sC (.int 0))) aNil)) (sVar 1)))
    (zSeq (zPut 0 (sC (.int 0)) (sOp gFdiv (sOp gIx (sVar 0) (sC (.int 0))) (sVar 1)))
    (zRet (sVar 2)))) zNext)
    (zSeq (zPut 0 (sC (.int 2)) (sOp gAddU (sOp gIx (sVar 0) (sC (.int 2))) (sC (.int 1))))
    (zSeq (zSet 3 (sOp gMod (sCB gInt (aCons (sOp gMulU (sOp gAddU (sOp gIx (sVar 0) (sC (.int 1))) (sOp gMulU (sC (.int 48271)) (sOp gIx (sVar 0) (sC (.int 2))))) (sOp gAddU (sC (.int 39373)) (sOp gIx (sVar 0) (sC (.int 2))))) aNil)) (sC (.int 2147483647))))
    (zSeq (zSet 4 (sOp gAddU (sOp gMod (sCB gInt (aCons (sVar 3) aNil)) (sC (.int 40009))) (sC (.int 7))))
    (zSeq (zSet 5 (sOp gMod (sCB gInt (aCons (sOp gMulU (sOp gAddU (sOp gAddU (sVar 3) (sOp gIx (sVar 0) (sC (.int 2)))) (sOp gFdiv (sOp gIx (sVar 0) (sC (.int 1))) (sC (.int 1000003)))) (sVar 4)) aNil)) (sC (.int 2147483629))))
    (zRet (sOp gMod (sCB gInt (aCons (sOp gFdiv (sOp gMod (sCB gInt (aCons (sOp gAddU (sOp gMulU (sVar 5) (sC (.int 48271))) (sVar 3)) aNil)) (sC (.int 2147483587))) (sC (.int 64))) aNil)) (sVar 1))))))))
def f_law_take : FnM := fnP 2 6 b_law_take
def b_law_cells : MS :=
    (zSeq (zSet 2 (sOrV (sCB gListU (aCons (sSl gSl (sVar 0) oNone (oSome (sVar 1))) aNil)) (sLst (aCons (sC (.int 0)) aNil))))
    (zSeq (zFor (iEn (sSl gSl (sVar 0) (oSome (sVar 1)) (oSome (sC (.int 63))))) (gT 2 (gsCons (gN 3) (gsCons (gN 4) gsNil))) (zSeq (zSet 5 (sOp gMod (sCB gInt (aCons (sVar 3) aNil)) (sVar 1)))
    (zPut 2 (sVar 5) (sOp gAddU (sOp gIx (sVar 2) (sVar 5)) (sOp gMulU (sVar 4) (sOp gAddU (sVar 3) (sC (.int 2))))))))
    (zRet (sVar 2))))
def f_law_cells : FnM := fnP 2 6 b_law_cells
def b_law_same (self : FnM) : MS :=
    (zSeq (zIf (sTru (sUn (gIsi2 "list" "tuple") (sVar 1))) (zSeq (zIf (sOr (sTst (sOp gNe (sUn (gIsi "list") (sVar 0)) (sUn (gIsi "list") (sVar 1)))) (sTst (sOp gNe (sUn (gIsi "tuple") (sVar 0)) (sUn (gIsi "tuple") (sVar 1))))) (zRet (sC (.bool false))) zNext)
    (zRet (sAndV (sOp gEq (sCB gLenU (aCons (sVar 0) aNil)) (sCB gLenU (aCons (sVar 1) aNil))) (sCB gAll (aCons (sLc [2, 3] (iZp (aCons (sVar 0) (aCons (sVar 1) aNil))) (gT 2 (gsCons (gN 2) (gsCons (gN 3) gsNil))) (fun ρ => some (true, ρ)) (sCall self [false, false] (aCons (sVar 2) (aCons (sVar 3) aNil)))) aNil))))) zNext)
    (zSeq (zIf (sTru (sUn (gIsi "dict") (sVar 1))) (zSeq (zIf (sOr (sNot (sTru (sUn (gIsi "dict") (sVar 0)))) (sTst (sOp gNe (sCB gSorted (aCons (sVar 0) aNil)) (sCB gSorted (aCons (sVar 1) aNil))))) (zRet (sC (.bool false))) zNext)
    (zRet (sCB gAll (aCons (sLc [4] (iAny (sVar 1)) (gN 4) (fun ρ => some (true, ρ)) (sCall self [false, false] (aCons (sOp gIx (sVar 0) (sVar 4)) (aCons (sOp gIx (sVar 1) (sVar 4)) aNil)))) aNil)))) zNext)
    (zSeq (zIf (sOr (sTst (sOp (gIsN false) (sVar 1) (sC .none))) (sTru (sUn (gIsi2 "bool" "str") (sVar 1)))) (zRet (sAndV (sOp gEq (sVar 0) (sVar 1)) (sAndV (sOp gEq (sUn (gIsi "bool") (sVar 0)) (sUn (gIsi "bool") (sVar 1))) (sOp gEq (sOp (gIsN false) (sVar 0) (sC .none)) (sOp (gIsN false) (sVar 1) (sC .none)))))) zNext)
    (zRet (sAndV (sUn (gIsi "int") (sVar 0)) (sAndV (sNotV (sUn (gIsi "bool") (sVar 0))) (sOp gEq (sVar 0) (sVar 1))))))))
def f_law_same : Nat → FnM
  | 0 => fun _ => none
  | n + 1 => fnP 2 5 (b_law_same (f_law_same n))
def b_law_on : MS :=
    (zSeq (zPar 2 3 (aCons (sLst aNil) (aCons (sLst aNil) aNil)))
    (zSeq (zFor (iAny (sVar 0)) (gN 4) (zIf (sTst (sOp gEq (sLc [5] (iAny (sOp gIx (sVar 4) (sC (.int 4)))) (gN 5) (sTst (sOp gNe (sOp gInU (sOp gIx (sVar 5) (sC (.int 0))) (sVar 1)) (sOp gEq (sOp gIx (sVar 5) (sC (.int 1))) (sC (.int 1))))) (sVar 5)) (sLst aNil))) (zDrop (sApp 2 (sVar 4))) zNext))
    (zSeq (goWh (sTst (sOp gNe (sVar 2) (sLst aNil))) (zSeq (zSet 6 (sLc [7] (iAny (sVar 2)) (gN 7) (fun ρ => some (true, ρ)) (sOp gIx (sVar 7) (sC (.int 3)))))
    (zSeq (zSet 8 (sLc [7] (iAny (sVar 2)) (gN 7) (sTst (sOp gEq (sLc [9] (iAny (sOp gIx (sVar 7) (sC (.int 2)))) (gN 9) (sTst (sOp gInU (sVar 9) (sVar 6))) (sVar 9)) (sLst aNil))) (sVar 7)))
    (zSeq (zSet 3 (sOp gAddU (sVar 3) (sVar 8)))
    (zSet 2 (sIf (sTst (sOp gNe (sVar 8) (sLst aNil))) (sLc [7] (iAny (sVar 2)) (gN 7) (sTst (sOp gNotInU (sVar 7) (sVar 8))) (sVar 7)) (sLst aNil)))))) 100)
    (zRet (sVar 3)))))
def f_law_on : FnM := fnP 2 10 b_law_on
def b_law_is_tag : MS :=
    (zSeq (zIf (sOr (sNot (sTru (sUn (gIsi "str") (sVar 0)))) (sOr (sTst (sOp gLtU (sCB gLenU (aCons (sVar 0) aNil)) (sC (.int 1)))) (sTst (sOp gGt (sCB gLenU (aCons (sVar 0) aNil)) (sC (.int 8)))))) (zRet (sC (.bool false))) zNext)
    (zRet (sOp gEq (sLc [1] (iAny (sVar 0)) (gN 1) (sTst (sOp gNotInU (sVar 1) (sC (.str (Str.ofString "abcdefghijklmnopqrstuvwxyz"))))) (sVar 1)) (sLst aNil))))
def f_law_is_tag : FnM := fnP 1 2 b_law_is_tag
def b_law_rises : MS :=
    (zRet (sOp gEq (sVar 0) (sSSet (aCons (sVar 0) aNil))))
def f_law_rises : FnM := fnP 1 1 b_law_rises
def b_law_are_pairs : MS :=
    (zRet (sAndV (sUn (gIsi "tuple") (sVar 0)) (sOp gEq (sLc [1] (iAny (sVar 0)) (gN 1) (sOr (sNot (sTru (sUn (gIsi "tuple") (sVar 1)))) (sTst (sOp gNe (sCB gLenU (aCons (sVar 1) aNil)) (sC (.int 2))))) (sVar 1)) (sLst aNil))))
def f_law_are_pairs : FnM := fnP 1 2 b_law_are_pairs
def b_are_names : MS :=
    (zRet (sAndV (sUn (gIsi "tuple") (sVar 0)) (sCB gAll (aCons (sLc [1] (iAny (sVar 0)) (gN 1) (fun ρ => some (true, ρ)) (sCall f_is_name [true] (aCons (sVar 1) aNil))) aNil))))
def f_are_names : FnM := fnP 1 2 b_are_names
def b_is_demand : MS :=
    (zRet (sAndV (sCall f_is_tuple_of [true, true] (aCons (sVar 0) (aCons (sC (.int 2)) aNil))) (sAndV (sCall f_is_name [true] (aCons (sOp gIx (sVar 0) (sC (.int 0))) aNil)) (sAndV (sCall f_is_number [true] (aCons (sOp gIx (sVar 0) (sC (.int 1))) aNil)) (sOp gInU (sOp gIx (sVar 0) (sC (.int 1))) (sTup (aCons (sC (.int 0)) (aCons (sC (.int 1)) aNil))))))))
def f_is_demand : FnM := fnP 1 1 b_is_demand
def b_is_counts : MS :=
    (zSeq (zIf (sOr (sNot (sTru (sUn (gIsi "tuple") (sVar 0)))) (sNot (sTru (sCB gAll (aCons (sLc [1] (iAny (sVar 0)) (gN 1) (fun ρ => some (true, ρ)) (sCall f_is_tuple_of [true, true] (aCons (sVar 1) (aCons (sC (.int 2)) aNil)))) aNil))))) (zRet (sC (.bool false))) zNext)
    (zSeq (zIf (sNot (sTru (sCB gAll (aCons (sLc [2, 3] (iAny (sVar 0)) (gT 2 (gsCons (gN 2) (gsCons (gN 3) gsNil))) (fun ρ => some (true, ρ)) (sAndV (sCall f_is_name [true] (aCons (sVar 2) aNil)) (sCall f_is_name [true] (aCons (sVar 3) aNil)))) aNil)))) (zRet (sC (.bool false))) zNext)
    (zRet (sCall f_is_ascending [false] (aCons (sLc [2, 4] (iAny (sVar 0)) (gT 2 (gsCons (gN 2) (gsCons (gN 4) gsNil))) (fun ρ => some (true, ρ)) (sVar 2)) aNil)))))
def f_is_counts : FnM := fnP 1 5 b_is_counts
def b_law_of : MS :=
    (zRet (sOp gIx (sVar 1) (sCall f_law_take [true, true] (aCons (sVar 0) (aCons (sCB gLenU (aCons (sVar 1) aNil)) aNil)))))
def f_law_of : FnM := fnP 2 2 b_law_of
def b_law_pick : MS :=
    (zSeq (zPar 3 4 (aCons (sCB gListU (aCons (sVar 1) aNil)) (aCons (sLst aNil) aNil)))
    (zSeq (zFor (iR1 (sCB gMin2 (aCons (sVar 2) (aCons (sCB gLenU (aCons (sVar 3) aNil)) aNil)))) (gN 5) (zDrop (sApp 4 (sPop 3 (sCall f_law_take [true, true] (aCons (sVar 0) (aCons (sCB gLenU (aCons (sVar 3) aNil)) aNil)))))))
    (zRet (sVar 4))))
def f_law_pick : FnM := fnP 3 6 b_law_pick
def b_law_is_on : MS :=
    (zSeq (zIf (sOr (sNot (sTru (sCall f_law_are_pairs [false] (aCons (sVar 0) aNil)))) (sTst (sOp gNe (sLc [1] (iAny (sVar 0)) (gN 1) (sNot (sTru (sCall f_law_is_tag [false] (aCons (sOp gIx (sVar 1) (sC (.int 0))) aNil)))) (sVar 1)) (sLst aNil)))) (zRet (sC (.bool false))) zNext)
    (zSeq (zSet 2 (sLc [1] (iAny (sVar 0)) (gN 1) (sOr (sNot (sTru (sUn (gIsi "int") (sOp gIx (sVar 1) (sC (.int 1)))))) (sTru (sUn (gIsi "bool") (sOp gIx (sVar 1) (sC (.int 1)))))) (sOp gIx (sVar 1) (sC (.int 1)))))
    (zSeq (zSet 3 (sLc [1] (iAny (sVar 0)) (gN 1) (sTst (sOp gNotInU (sOp gIx (sVar 1) (sC (.int 1))) (sTup (aCons (sC (.int 0)) (aCons (sC (.int 1)) aNil))))) (sOp gIx (sVar 1) (sC (.int 1)))))
    (zRet (sAndV (sOp gEq (sVar 2) (sLst aNil)) (sAndV (sOp gEq (sVar 3) (sLst aNil)) (sCall f_law_rises [false] (aCons (sLc [1] (iAny (sVar 0)) (gN 1) (fun ρ => some (true, ρ)) (sOp gIx (sVar 1) (sC (.int 0)))) aNil))))))))
def f_law_is_on : FnM := fnP 1 4 b_law_is_on
def b_law_is_stock : MS :=
    (zSeq (zIf (sNot (sTru (sCall f_law_are_pairs [false] (aCons (sVar 0) aNil)))) (zRet (sC (.bool false))) zNext)
    (zSeq (zIf (sTst (sOp gNe (sLc [1] (iAny (sVar 0)) (gN 1) (sOr (sNot (sTru (sCall f_law_is_tag [false] (aCons (sOp gIx (sVar 1) (sC (.int 0))) aNil)))) (sNot (sTru (sCall f_law_is_tag [false] (aCons (sOp gIx (sVar 1) (sC (.int 1))) aNil))))) (sVar 1)) (sLst aNil))) (zRet (sC (.bool false))) zNext)
    (zRet (sCall f_law_rises [false] (aCons (sLc [1] (iAny (sVar 0)) (gN 1) (fun ρ => some (true, ρ)) (sOp gIx (sVar 1) (sC (.int 0)))) aNil)))))
def f_law_is_stock : FnM := fnP 1 2 b_law_is_stock
def b_is_condition : MS :=
    (zSeq (zIf (sOr (sNot (sTru (sUn (gIsi "tuple") (sVar 0)))) (sNot (sTru (sCB gAll (aCons (sLc [1] (iAny (sVar 0)) (gN 1) (fun ρ => some (true, ρ)) (sCall f_is_demand [true] (aCons (sVar 1) aNil))) aNil))))) (zRet (sC (.bool false))) zNext)
    (zRet (sCall f_is_ascending [false] (aCons (sLc [1] (iAny (sVar 0)) (gN 1) (fun ρ => some (true, ρ)) (sOp gIx (sVar 1) (sC (.int 0)))) aNil))))
def f_is_condition : FnM := fnP 1 2 b_is_condition
def b_law_form : MS :=
    (zSeq (zPar 3 4 (aCons (sLst (aCons (sC (.str (Str.ofString "sa"))) (aCons (sC (.str (Str.ofString "sb"))) (aCons (sC (.str (Str.ofString "sc"))) aNil)))) (aCons (sLst aNil) aNil)))
    (zSeq (zPar 5 6 (aCons (sCall f_law_pick [true, true, false] (aCons (sVar 0) (aCons (sCB gListU (aCons (sC (.str (Str.ofString "abcdefgh"))) aNil)) (aCons (sVar 1) aNil)))) (aCons (sCall f_law_pick [true, true, false] (aCons (sVar 0) (aCons (sCB gListU (aCons (sC (.str (Str.ofString "abcdefgh"))) aNil)) (aCons (sVar 1) aNil)))) aNil)))
    (zSeq (zFor (iR1 (sOp gAddU (sC (.int 1)) (sCall f_law_take [true, true] (aCons (sVar 0) (aCons (sVar 1) aNil))))) (gN 7) (zSeq (zPar 8 9 (aCons (sOp gAddU (sC (.str (Str.ofString "p"))) (sOp gIx (sVar 5) (sVar 7))) (aCons (sOp gIx (sVar 6) (sVar 7)) aNil)))
    (zSeq (zSet 10 (sCB gTupU (aCons (sLc [11] (iR1 (sCall f_law_take [true, true] (aCons (sVar 0) (aCons (sC (.int 4)) aNil)))) (gN 11) (fun ρ => some (true, ρ)) (sCall f_law_of [true, true] (aCons (sVar 0) (aCons (sVar 3) aNil)))) aNil)))
    (zSeq (zPar 12 13 (aCons (sCall f_law_of [true, true] (aCons (sVar 0) (aCons (sLst (aCons (sC (.str (Str.ofString "ma"))) (aCons (sC (.str (Str.ofString "mb"))) (aCons (sC (.str (Str.ofString "mc"))) aNil)))) aNil))) (aCons (sIf (sTst (sOp gNe (sVar 2) (sTup aNil))) (sCall f_law_take [true, true] (aCons (sVar 0) (aCons (sC (.int 4)) aNil))) (sC (.int 3))) aNil)))
    (zIf (sAnd (sTst (sOp gEq (sVar 13) (sC (.int 0)))) (sTst (sOp gLtU (sCB gLenU (aCons (sVar 4) aNil)) (sOp gSubI (sVar 1) (sC (.int 1)))))) (zSeq (zSet 14 (sCall f_law_of [true, true] (aCons (sVar 0) (aCons (sVar 2) aNil))))
    (zSeq (zSet 15 (sCB gTupU (aCons (sLc [11] (iR1 (sCall f_law_take [true, true] (aCons (sVar 0) (aCons (sC (.int 3)) aNil)))) (gN 11) (fun ρ => some (true, ρ)) (sCall f_law_of [true, true] (aCons (sVar 0) (aCons (sVar 3) aNil)))) aNil)))
    (zSeq (zDrop (sApp 4 (sTup (aCons (sOp gAddU (sC (.str (Str.ofString "t"))) (sVar 9)) (aCons (sVar 12) (aCons (sVar 10) (aCons (sVar 8) (aCons (sTup (aCons (sTup (aCons (sVar 14) (aCons (sC (.int 0)) aNil))) aNil)) aNil))))))))
    (zSeq (zDrop (sApp 4 (sTup (aCons (sOp gAddU (sC (.str (Str.ofString "u"))) (sVar 9)) (aCons (sCall f_law_of [true, true] (aCons (sVar 0) (aCons (sLst (aCons (sC (.str (Str.ofString "ma"))) (aCons (sC (.str (Str.ofString "mb"))) aNil))) aNil))) (aCons (sVar 15) (aCons (sVar 8) (aCons (sTup (aCons (sTup (aCons (sVar 14) (aCons (sC (.int 1)) aNil))) aNil)) aNil))))))))
    (zDrop (sApp 3 (sVar 8))))))) (zIf (sTst (sOp gLtU (sCB gLenU (aCons (sVar 4) aNil)) (sVar 1))) (zSeq (zSet 16 (sIf (sTst (sOp gEq (sVar 13) (sC (.int 1)))) (sTup (aCons (sTup (aCons (sCall f_law_of [true, true] (aCons (sVar 0) (aCons (sVar 2) aNil))) (aCons (sCall f_law_take [true, true] (aCons (sVar 0) (aCons (sC (.int 2)) aNil))) aNil))) aNil)) (sTup aNil)))
    (zSeq (zDrop (sApp 4 (sTup (aCons (sOp gAddU (sC (.str (Str.ofString "t"))) (sVar 9)) (aCons (sVar 12) (aCons (sVar 10) (aCons (sVar 8) (aCons (sVar 16) aNil))))))))
    (zDrop (sApp 3 (sVar 8))))) zNext))))))
    (zRet (sCB gTupU (aCons (sCB gSorted (aCons (sVar 4) aNil)) aNil))))))
def f_law_form : FnM := fnP 3 17 b_law_form
def b_law_stock : MS :=
    (zSeq (zSet 4 (sLc [5] (iAny (sCall f_law_on [false, true] (aCons (sVar 1) (aCons (sVar 2) aNil)))) (gN 5) (fun ρ => some (true, ρ)) (sOp gIx (sVar 5) (sC (.int 3)))))
    (zSeq (zSet 6 (sLst aNil))
    (zSeq (zFor (iAny (sCall f_law_on [false, true] (aCons (sVar 1) (aCons (sVar 2) aNil)))) (gN 5) (zSet 6 (sOp gAddU (sVar 6) (sLc [7] (iAny (sOp gIx (sVar 5) (sC (.int 2)))) (gN 7) (sTst (sOp gNotInU (sVar 7) (sVar 4))) (sVar 7)))))
    (zSeq (zSet 8 (sLc [7] (iAny (sVar 4)) (gN 7) (sTst (sOp gEq (sCall f_law_take [true, true] (aCons (sVar 0) (aCons (sC (.int 5)) aNil))) (sC (.int 0)))) (sVar 7)))
    (zRet (sCB gTupU (aCons (sLc [7] (iAny (sSSet (aCons (sOp gAddU (sVar 6) (sVar 8)) aNil))) (gN 7) (fun ρ => some (true, ρ)) (sTup (aCons (sVar 7) (aCons (sCall f_law_of [true, true] (aCons (sVar 0) (aCons (sVar 3) aNil))) aNil)))) aNil)))))))
def f_law_stock : FnM := fnP 4 9 b_law_stock
def b_law_is_bit : MS :=
    (zSeq (zIf (sOr (sNot (sTru (sUn (gIsi "tuple") (sVar 0)))) (sOr (sTst (sOp gNe (sCB gLenU (aCons (sVar 0) aNil)) (sC (.int 5)))) (sNot (sTru (sUn (gIsi "tuple") (sOp gIx (sVar 0) (sC (.int 2)))))))) (zRet (sC (.bool false))) zNext)
    (zSeq (zIf (sTst (sOp gNe (sLc [1] (iAny (sOp gAddU (sTup (aCons (sOp gIx (sVar 0) (sC (.int 0))) (aCons (sOp gIx (sVar 0) (sC (.int 1))) (aCons (sOp gIx (sVar 0) (sC (.int 3))) aNil)))) (sOp gIx (sVar 0) (sC (.int 2))))) (gN 1) (sNot (sTru (sCall f_law_is_tag [false] (aCons (sVar 1) aNil)))) (sVar 1)) (sLst aNil))) (zRet (sC (.bool false))) zNext)
    (zRet (sCall f_law_is_on [false] (aCons (sOp gIx (sVar 0) (sC (.int 4))) aNil)))))
def f_law_is_bit : FnM := fnP 1 2 b_law_is_bit
def b_law_spoilt (self : FnM) : MS :=
    (zSeq (zSet 3 (sLst (aCons (sC (.str (Str.ofString "pa"))) (aCons (sC (.str (Str.ofString "sa"))) (aCons (sC (.str (Str.ofString ""))) (aCons (sC (.str (Str.ofString "A"))) (aCons (sC .none) (aCons (sC (.int 0)) (aCons (sC (.int 1)) (aCons (sC (.int 2)) (aCons (sC (.bool true)) (aCons (sTup aNil) (aCons (sTup (aCons (sC (.str (Str.ofString "sa"))) aNil)) (aCons (sTup (aCons (sC (.str (Str.ofString "sa"))) (aCons (sC (.int 1)) aNil))) (aCons (sTup (aCons (sC (.str (Str.ofString "sa"))) (aCons (sC (.str (Str.ofString "va"))) aNil))) (aCons (sLst aNil) aNil))))))))))))))))
    (zSeq (zDrop (sApp 3 (sTup (aCons (sC (.str (Str.ofString "tz"))) (aCons (sC (.str (Str.ofString "ma"))) (aCons (sTup aNil) (aCons (sC (.str (Str.ofString "pz"))) (aCons (sTup aNil) aNil))))))))
    (zSeq (zIf (sOr (sTst (sOp gEq (sVar 2) (sC (.int 0)))) (sOr (sNot (sTru (sUn (gIsi2 "list" "tuple") (sVar 1)))) (sTst (sOp gEq (sCB gLenU (aCons (sVar 1) aNil)) (sC (.int 0)))))) (zRet (sCall f_law_of [true, true] (aCons (sVar 0) (aCons (sVar 3) aNil)))) zNext)
    (zSeq (zPar 4 5 (aCons (sCall f_law_take [true, true] (aCons (sVar 0) (aCons (sC (.int 7)) aNil))) (aCons (sCall f_law_take [true, true] (aCons (sVar 0) (aCons (sCB gLenU (aCons (sVar 1) aNil)) aNil))) aNil)))
    (zSeq (zSet 6 (sCB gListU (aCons (sVar 1) aNil)))
    (zSeq (zIf (sTst (sOp gEq (sVar 4) (sC (.int 0)))) (zRet (sCB gListU (aCons (sVar 1) aNil))) zNext)
    (zSeq (zIf (sTst (sOp gEq (sVar 4) (sC (.int 1)))) (zRet (sCB gTupU (aCons (sOp gAddU (sSl gSl (sVar 6) oNone (oSome (sVar 5))) (sSl gSl (sVar 6) (oSome (sOp gAddU (sVar 5) (sC (.int 1)))) oNone)) aNil))) zNext)
    (zSeq (zIf (sTst (sOp gEq (sVar 4) (sC (.int 2)))) (zRet (sCB gTupU (aCons (sOp gAddU (sSl gSl (sVar 6) oNone (oSome (sOp gAddU (sVar 5) (sC (.int 1))))) (sSl gSl (sVar 6) (oSome (sVar 5)) oNone)) aNil))) zNext)
    (zSeq (zIf (sTst (sOp gEq (sVar 4) (sC (.int 3)))) (zRet (sCB gTupU (aCons (sOp gAddU (sOp gAddU (sSl gSl (sVar 6) oNone (oSome (sVar 5))) (sLst (aCons (sCall f_law_of [true, true] (aCons (sVar 0) (aCons (sVar 3) aNil))) aNil))) (sSl gSl (sVar 6) (oSome (sVar 5)) oNone)) aNil))) zNext)
    (zSeq (zIf (sTst (sOp gEq (sVar 4) (sC (.int 4)))) (zRet (sCB gTupU (aCons (sRev (sVar 6)) aNil))) zNext)
    (zSeq (zPut 6 (sVar 5) (sCall self [true, true, true] (aCons (sVar 0) (aCons (sOp gIx (sVar 6) (sVar 5)) (aCons (sOp gSubI (sVar 2) (sC (.int 1))) aNil)))))
    (zRet (sCB gTupU (aCons (sVar 6) aNil))))))))))))))
def f_law_spoilt : Nat → FnM
  | 0 => fun _ => none
  | n + 1 => fnP 3 7 (b_law_spoilt (f_law_spoilt n))
def b_is_step : MS :=
    (zSeq (zIf (sNot (sTru (sCall f_is_tuple_of [true, true] (aCons (sVar 0) (aCons (sC (.int 5)) aNil))))) (zRet (sC (.bool false))) zNext)
    (zSeq (zAsg (sVar 0) (gT 5 (gsCons (gN 1) (gsCons (gN 2) (gsCons (gN 3) (gsCons (gN 4) (gsCons (gN 5) gsNil)))))))
    (zRet (sAndV (sCall f_are_names [false] (aCons (sTup (aCons (sVar 1) (aCons (sVar 2) (aCons (sVar 4) aNil)))) aNil)) (sAndV (sCall f_are_names [false] (aCons (sVar 3) aNil)) (sCall f_is_condition [false] (aCons (sVar 5) aNil)))))))
def f_is_step : FnM := fnP 1 6 b_is_step
def b_law_is_form : MS :=
    (zSeq (zIf (sOr (sNot (sTru (sUn (gIsi "tuple") (sVar 0)))) (sTst (sOp gNe (sLc [1] (iAny (sVar 0)) (gN 1) (sNot (sTru (sCall f_law_is_bit [true] (aCons (sVar 1) aNil)))) (sVar 1)) (sLst aNil)))) (zRet (sC (.bool false))) zNext)
    (zRet (sCall f_law_rises [false] (aCons (sLc [1] (iAny (sVar 0)) (gN 1) (fun ρ => some (true, ρ)) (sOp gIx (sVar 1) (sC (.int 0)))) aNil))))
def f_law_is_form : FnM := fnP 1 2 b_law_is_form
def b_is_plan : MS :=
    (zSeq (zIf (sOr (sNot (sTru (sUn (gIsi "tuple") (sVar 0)))) (sNot (sTru (sCB gAll (aCons (sLc [1] (iAny (sVar 0)) (gN 1) (fun ρ => some (true, ρ)) (sCall f_is_step [false] (aCons (sVar 1) aNil))) aNil))))) (zRet (sC (.bool false))) zNext)
    (zRet (sCall f_is_ascending [false] (aCons (sLc [1] (iAny (sVar 0)) (gN 1) (fun ρ => some (true, ρ)) (sOp gIx (sVar 1) (sC (.int 0)))) aNil))))
def f_is_plan : FnM := fnP 1 2 b_is_plan
def b_law_steps_right : MS :=
    (zSeq (zSet 0 (sTup (aCons (sC (.str (Str.ofString "t"))) (aCons (sC (.str (Str.ofString "m"))) (aCons (sTup (aCons (sC (.str (Str.ofString "a"))) (aCons (sC (.str (Str.ofString "a"))) (aCons (sC (.str (Str.ofString "b"))) aNil)))) (aCons (sC (.str (Str.ofString "c"))) (aCons (sTup (aCons (sTup (aCons (sC (.str (Str.ofString "f"))) (aCons (sC (.int 1)) aNil))) aNil)) aNil)))))))
    (zSeq (zSet 1 (sLst (aCons (sVar 0) (aCons (sTup (aCons (sC (.str (Str.ofString "t"))) (aCons (sC (.str (Str.ofString "t"))) (aCons (sTup aNil) (aCons (sC (.str (Str.ofString "t"))) (aCons (sTup aNil) aNil)))))) (aCons (sTup (aCons (sC (.str (Str.ofString "t"))) (aCons (sC (.str (Str.ofString "m"))) (aCons (sCB gTupU (aCons (sC (.str (Str.ofString "abcdefghij"))) aNil)) (aCons (sC (.str (Str.ofString "abcdefgh"))) (aCons (sTup aNil) aNil)))))) aNil)))))
    (zSeq (zSet 2 (sLst (aCons (sC .none) (aCons (sTup aNil) (aCons (sCB gListU (aCons (sVar 0) aNil)) (aCons (sSl gSl (sVar 0) oNone (oSome (sC (.int 4)))) (aCons (sOp gAddU (sVar 0) (sTup (aCons (sTup aNil) aNil))) (aCons (sTup (aCons (sC (.str (Str.ofString ""))) (aCons (sC (.str (Str.ofString "m"))) (aCons (sTup aNil) (aCons (sC (.str (Str.ofString "c"))) (aCons (sTup aNil) aNil)))))) aNil))))))))
    (zSeq (zDrop (sApp 2 (sTup (aCons (sC (.str (Str.ofString "t"))) (aCons (sC (.str (Str.ofString "M"))) (aCons (sTup aNil) (aCons (sC (.str (Str.ofString "c"))) (aCons (sTup aNil) aNil))))))))
    (zSeq (zSet 2 (sOp gAddU (sVar 2) (sLst (aCons (sTup (aCons (sC (.str (Str.ofString "t"))) (aCons (sC (.str (Str.ofString "m"))) (aCons (sLst aNil) (aCons (sC (.str (Str.ofString "c"))) (aCons (sTup aNil) aNil)))))) (aCons (sTup (aCons (sC (.str (Str.ofString "t"))) (aCons (sC (.str (Str.ofString "m"))) (aCons (sC (.str (Str.ofString "ab"))) (aCons (sC (.str (Str.ofString "c"))) (aCons (sTup aNil) aNil)))))) aNil)))))
    (zSeq (zSet 2 (sOp gAddU (sVar 2) (sLst (aCons (sTup (aCons (sC (.str (Str.ofString "t"))) (aCons (sC (.str (Str.ofString "m"))) (aCons (sTup (aCons (sC (.str (Str.ofString "a"))) (aCons (sC (.int 1)) aNil))) (aCons (sC (.str (Str.ofString "c"))) (aCons (sTup aNil) aNil)))))) (aCons (sTup (aCons (sC (.str (Str.ofString "t"))) (aCons (sC (.str (Str.ofString "m"))) (aCons (sTup aNil) (aCons (sC (.str (Str.ofString "c\n"))) (aCons (sTup aNil) aNil)))))) (aCons (sTup (aCons (sC (.str (Str.ofString "t"))) (aCons (sC (.str (Str.ofString "m"))) (aCons (sTup aNil) (aCons (sTup (aCons (sC (.str (Str.ofString "c"))) aNil)) (aCons (sTup aNil) aNil)))))) aNil))))))
    (zSeq (zSet 2 (sOp gAddU (sVar 2) (sLst (aCons (sTup (aCons (sC (.str (Str.ofString "t"))) (aCons (sC (.str (Str.ofString "m"))) (aCons (sTup aNil) (aCons (sC (.str (Str.ofString "c"))) (aCons (sLst aNil) aNil)))))) (aCons (sTup (aCons (sC (.str (Str.ofString "t"))) (aCons (sC (.str (Str.ofString "m"))) (aCons (sTup aNil) (aCons (sC (.str (Str.ofString "c"))) (aCons (sTup (aCons (sTup (aCons (sC (.str (Str.ofString "f"))) (aCons (sC (.bool true)) aNil))) aNil)) aNil)))))) aNil)))))
    (zSeq (zSet 2 (sOp gAddU (sVar 2) (sLst (aCons (sTup (aCons (sC (.str (Str.ofString "t"))) (aCons (sC (.str (Str.ofString "m"))) (aCons (sTup aNil) (aCons (sC (.str (Str.ofString "c"))) (aCons (sC .none) aNil)))))) (aCons (sTup (aCons (sC (.str (Str.ofString "abcdefghi"))) (aCons (sC (.str (Str.ofString "m"))) (aCons (sTup aNil) (aCons (sC (.str (Str.ofString "c"))) (aCons (sTup aNil) aNil)))))) aNil)))))
    (zSeq (zDrop (sApp 2 (sTup (aCons (sC (.str (Str.ofString "t"))) (aCons (sC (.str (Str.ofString "abcdefghi"))) (aCons (sTup aNil) (aCons (sC (.str (Str.ofString "c"))) (aCons (sTup aNil) aNil))))))))
    (zSeq (zSet 2 (sOp gAddU (sVar 2) (sLst (aCons (sTup (aCons (sC (.str (Str.ofString "t"))) (aCons (sC (.str (Str.ofString "m"))) (aCons (sTup aNil) (aCons (sC (.str (Str.ofString "abcdefghi"))) (aCons (sTup aNil) aNil)))))) (aCons (sTup (aCons (sC (.str (Str.ofString "t"))) (aCons (sC (.str (Str.ofString "m"))) (aCons (sTup (aCons (sC (.str (Str.ofString "a1"))) aNil)) (aCons (sC (.str (Str.ofString "c"))) (aCons (sTup aNil) aNil)))))) aNil)))))
    (zSeq (zIf (sNot (sTru (sCall (f_law_same 64) [false, false] (aCons (sLc [3] (iAny (sOp gAddU (sVar 1) (sVar 2))) (gN 3) (fun ρ => some (true, ρ)) (sCall f_is_step [false] (aCons (sVar 3) aNil))) (aCons (sOp gAddU (sOp gMulU (sLst (aCons (sC (.bool true)) aNil)) (sCB gLenU (aCons (sVar 1) aNil))) (sOp gMulU (sLst (aCons (sC (.bool false)) aNil)) (sCB gLenU (aCons (sVar 2) aNil)))) aNil))))) (zRet (sC (.bool false))) zNext)
    (zRet (sC (.bool true))))))))))))))
def f_law_steps_right : FnM := fnP 0 4 b_law_steps_right
def b_law_hand_right : MS :=
    (zSeq (zSet 0 (sLst (aCons (sTup aNil) (aCons (sTup (aCons (sTup (aCons (sC (.str (Str.ofString "a"))) (aCons (sC (.int 1)) aNil))) aNil)) (aCons (sTup (aCons (sTup (aCons (sC (.str (Str.ofString "a"))) (aCons (sC (.int 0)) aNil))) (aCons (sTup (aCons (sC (.str (Str.ofString "b"))) (aCons (sC (.int 1)) aNil))) aNil))) aNil)))))
    (zSeq (zDrop (sApp 0 (sCB gTupU (aCons (sLc [1] (iAny (sC (.str (Str.ofString "abcdefghijklmnopqrst")))) (gN 1) (fun ρ => some (true, ρ)) (sTup (aCons (sVar 1) (aCons (sC (.int 0)) aNil)))) aNil))))
    (zSeq (zSet 2 (sLst (aCons (sC .none) (aCons (sC (.int 0)) (aCons (sC (.str (Str.ofString "a"))) (aCons (sLst aNil) (aCons (sLst (aCons (sTup (aCons (sC (.str (Str.ofString "a"))) (aCons (sC (.int 1)) aNil))) aNil)) (aCons (sTup (aCons (sC (.str (Str.ofString "a"))) (aCons (sC (.int 1)) aNil))) (aCons (sTup (aCons (sTup (aCons (sC (.str (Str.ofString "a"))) (aCons (sC (.int 2)) aNil))) aNil)) (aCons (sTup (aCons (sTup (aCons (sC (.str (Str.ofString "a"))) (aCons (sUn gNeg (sC (.int 1))) aNil))) aNil)) (aCons (sTup (aCons (sTup (aCons (sC (.str (Str.ofString "a"))) (aCons (sC (.bool true)) aNil))) aNil)) aNil)))))))))))
    (zSeq (zDrop (sApp 2 (sTup (aCons (sTup (aCons (sC (.str (Str.ofString "a"))) (aCons (sC (.str (Str.ofString "1"))) aNil))) aNil))))
    (zSeq (zSet 2 (sOp gAddU (sVar 2) (sLst (aCons (sTup (aCons (sTup (aCons (sC (.str (Str.ofString "a"))) aNil)) aNil)) (aCons (sTup (aCons (sTup (aCons (sC (.str (Str.ofString "a"))) (aCons (sC (.int 1)) (aCons (sC (.int 0)) aNil)))) aNil)) (aCons (sTup (aCons (sTup (aCons (sC (.str (Str.ofString "A"))) (aCons (sC (.int 1)) aNil))) aNil)) aNil))))))
    (zSeq (zSet 2 (sOp gAddU (sVar 2) (sLst (aCons (sTup (aCons (sTup (aCons (sC (.str (Str.ofString "a\n"))) (aCons (sC (.int 1)) aNil))) aNil)) (aCons (sTup (aCons (sTup (aCons (sC (.str (Str.ofString "b"))) (aCons (sC (.int 1)) aNil))) (aCons (sTup (aCons (sC (.str (Str.ofString "a"))) (aCons (sC (.int 0)) aNil))) aNil))) (aCons (sTup (aCons (sTup (aCons (sC (.str (Str.ofString "a"))) (aCons (sC (.int 0)) aNil))) (aCons (sTup (aCons (sC (.str (Str.ofString "a"))) (aCons (sC (.int 1)) aNil))) aNil))) (aCons (sTup (aCons (sLst (aCons (sC (.str (Str.ofString "a"))) (aCons (sC (.int 1)) aNil))) aNil)) (aCons (sTup (aCons (sTup (aCons (sC (.str (Str.ofString ""))) (aCons (sC (.int 0)) aNil))) aNil)) aNil))))))))
    (zSeq (zDrop (sApp 2 (sTup (aCons (sTup (aCons (sC (.int 1)) (aCons (sC (.int 1)) aNil))) aNil))))
    (zSeq (zSet 2 (sOp gAddU (sVar 2) (sLst (aCons (sTup (aCons (sC .none) aNil)) (aCons (sTup (aCons (sTup (aCons (sC (.str (Str.ofString "abcdefghi"))) (aCons (sC (.int 1)) aNil))) aNil)) (aCons (sTup (aCons (sTup (aCons (sC (.str (Str.ofString "a1"))) (aCons (sC (.int 1)) aNil))) aNil)) aNil))))))
    (zSeq (zIf (sNot (sTru (sCall (f_law_same 64) [false, false] (aCons (sLc [3] (iAny (sOp gAddU (sVar 0) (sVar 2))) (gN 3) (fun ρ => some (true, ρ)) (sCall f_is_condition [false] (aCons (sVar 3) aNil))) (aCons (sOp gAddU (sOp gMulU (sLst (aCons (sC (.bool true)) aNil)) (sCB gLenU (aCons (sVar 0) aNil))) (sOp gMulU (sLst (aCons (sC (.bool false)) aNil)) (sCB gLenU (aCons (sVar 2) aNil)))) aNil))))) (zRet (sC (.bool false))) zNext)
    (zSeq (zIf (sNot (sTru (sCall f_law_steps_right [] aNil))) (zRet (sC (.bool false))) zNext)
    (zSeq (zSet 4 (sTup (aCons (sC (.str (Str.ofString "t"))) (aCons (sC (.str (Str.ofString "m"))) (aCons (sTup (aCons (sC (.str (Str.ofString "a"))) (aCons (sC (.str (Str.ofString "a"))) (aCons (sC (.str (Str.ofString "b"))) aNil)))) (aCons (sC (.str (Str.ofString "c"))) (aCons (sTup (aCons (sTup (aCons (sC (.str (Str.ofString "f"))) (aCons (sC (.int 1)) aNil))) aNil)) aNil)))))))
    (zSeq (zSet 5 (sTup (aCons (sTup (aCons (sC (.str (Str.ofString "a"))) (aCons (sC (.str (Str.ofString "m"))) (aCons (sTup (aCons (sC (.str (Str.ofString "y"))) aNil)) (aCons (sC (.str (Str.ofString "x"))) (aCons (sTup aNil) aNil)))))) (aCons (sTup (aCons (sC (.str (Str.ofString "b"))) (aCons (sC (.str (Str.ofString "m"))) (aCons (sTup (aCons (sC (.str (Str.ofString "x"))) aNil)) (aCons (sC (.str (Str.ofString "y"))) (aCons (sTup aNil) aNil)))))) aNil))))
    (zSeq (zSet 0 (sLst (aCons (sTup aNil) (aCons (sTup (aCons (sVar 4) aNil)) (aCons (sVar 5) aNil)))))
    (zSeq (zDrop (sApp 0 (sCB gTupU (aCons (sLc [1] (iAny (sC (.str (Str.ofString "abcdefghijklmnopqrst")))) (gN 1) (fun ρ => some (true, ρ)) (sTup (aCons (sOp gAddU (sC (.str (Str.ofString "s"))) (sVar 1)) (aCons (sC (.str (Str.ofString "m"))) (aCons (sTup aNil) (aCons (sC (.str (Str.ofString "c"))) (aCons (sTup aNil) aNil))))))) aNil))))
    (zSeq (zSet 2 (sLst (aCons (sC .none) (aCons (sVar 4) (aCons (sLst (aCons (sVar 4) aNil)) (aCons (sTup (aCons (sCB gListU (aCons (sVar 4) aNil)) aNil)) (aCons (sRev (sVar 5)) (aCons (sTup (aCons (sVar 4) (aCons (sVar 4) aNil))) (aCons (sTup (aCons (sVar 4) (aCons (sC .none) aNil))) (aCons (sTup (aCons (sTup aNil) aNil)) aNil))))))))))
    (zSeq (zDrop (sApp 2 (sTup (aCons (sVar 4) (aCons (sTup (aCons (sC (.str (Str.ofString "t"))) (aCons (sC (.str (Str.ofString "n"))) (aCons (sTup aNil) (aCons (sC (.str (Str.ofString "d"))) (aCons (sTup aNil) aNil)))))) aNil)))))
    (zSeq (zSet 6 (sOp gAddU (sLc [3] (iAny (sOp gAddU (sVar 0) (sVar 2))) (gN 3) (fun ρ => some (true, ρ)) (sCall f_is_plan [false] (aCons (sVar 3) aNil))) (sLst (aCons (sCall f_is_plan [false] (aCons (sVar 5) aNil)) (aCons (sCall f_is_step [false] (aCons (sVar 4) aNil)) (aCons (sCall f_is_condition [false] (aCons (sTup aNil) aNil)) aNil))))))
    (zSeq (zIf (sNot (sTru (sCall (f_law_same 64) [false, false] (aCons (sVar 6) (aCons (sOp gAddU (sOp gAddU (sOp gMulU (sLst (aCons (sC (.bool true)) aNil)) (sCB gLenU (aCons (sVar 0) aNil))) (sOp gMulU (sLst (aCons (sC (.bool false)) aNil)) (sCB gLenU (aCons (sVar 2) aNil)))) (sOp gMulU (sLst (aCons (sC (.bool true)) aNil)) (sC (.int 3)))) aNil))))) (zRet (sC (.bool false))) zNext)
    (zSeq (zSet 0 (sLst (aCons (sTup aNil) (aCons (sTup (aCons (sTup (aCons (sC (.str (Str.ofString "a"))) (aCons (sC (.str (Str.ofString "m"))) aNil))) aNil)) (aCons (sTup (aCons (sTup (aCons (sC (.str (Str.ofString "a"))) (aCons (sC (.str (Str.ofString "m"))) aNil))) (aCons (sTup (aCons (sC (.str (Str.ofString "b"))) (aCons (sC (.str (Str.ofString "m"))) aNil))) aNil))) aNil)))))
    (zSeq (zSet 2 (sLst (aCons (sC .none) (aCons (sLst aNil) (aCons (sTup (aCons (sC (.str (Str.ofString "a"))) (aCons (sC (.str (Str.ofString "m"))) aNil))) (aCons (sLst (aCons (sTup (aCons (sC (.str (Str.ofString "a"))) (aCons (sC (.str (Str.ofString "m"))) aNil))) aNil)) (aCons (sTup (aCons (sLst (aCons (sC (.str (Str.ofString "a"))) (aCons (sC (.str (Str.ofString "m"))) aNil))) aNil)) (aCons (sTup (aCons (sTup (aCons (sC (.str (Str.ofString "a"))) (aCons (sC (.int 1)) aNil))) aNil)) (aCons (sTup (aCons (sTup (aCons (sC (.str (Str.ofString "a"))) (aCons (sC (.str (Str.ofString ""))) aNil))) aNil)) aNil)))))))))
    (zSeq (zDrop (sApp 2 (sTup (aCons (sTup (aCons (sC (.str (Str.ofString "a"))) (aCons (sC (.str (Str.ofString "m\n"))) aNil))) aNil))))
    (zSeq (zSet 2 (sOp gAddU (sVar 2) (sLst (aCons (sTup (aCons (sTup (aCons (sC (.str (Str.ofString "b"))) (aCons (sC (.str (Str.ofString "m"))) aNil))) (aCons (sTup (aCons (sC (.str (Str.ofString "a"))) (aCons (sC (.str (Str.ofString "m"))) aNil))) aNil))) (aCons (sTup (aCons (sTup (aCons (sC (.str (Str.ofString "a"))) (aCons (sC (.str (Str.ofString "m"))) aNil))) (aCons (sTup (aCons (sC (.str (Str.ofString "a"))) (aCons (sC (.str (Str.ofString "n"))) aNil))) aNil))) (aCons (sTup (aCons (sTup (aCons (sC (.str (Str.ofString "a"))) aNil)) aNil)) (aCons (sTup (aCons (sTup (aCons (sC (.str (Str.ofString "a"))) (aCons (sC (.str (Str.ofString "m"))) (aCons (sC (.str (Str.ofString "n"))) aNil)))) aNil)) aNil)))))))
    (zSeq (zSet 2 (sOp gAddU (sVar 2) (sLst (aCons (sTup (aCons (sTup (aCons (sC (.str (Str.ofString "A"))) (aCons (sC (.str (Str.ofString "m"))) aNil))) aNil)) (aCons (sTup (aCons (sTup (aCons (sC (.str (Str.ofString "a1"))) (aCons (sC (.str (Str.ofString "m"))) aNil))) aNil)) (aCons (sTup (aCons (sTup (aCons (sC (.str (Str.ofString "a"))) (aCons (sC (.str (Str.ofString "m1"))) aNil))) aNil)) (aCons (sTup (aCons (sTup (aCons (sC (.str (Str.ofString "abcdefghi"))) (aCons (sC (.str (Str.ofString "m"))) aNil))) aNil)) aNil)))))))
    (zSeq (zDrop (sApp 2 (sTup (aCons (sTup (aCons (sC (.str (Str.ofString "a"))) (aCons (sC (.str (Str.ofString "abcdefghi"))) aNil))) aNil))))
    (zSeq (zSet 6 (sOp gAddU (sLc [3] (iAny (sOp gAddU (sVar 0) (sVar 2))) (gN 3) (fun ρ => some (true, ρ)) (sCall f_is_counts [false] (aCons (sVar 3) aNil))) (sLst (aCons (sCall f_is_counts [false] (aCons (sOp gIx (sVar 0) (sC (.int 1))) aNil)) aNil))))
    (zRet (sCall (f_law_same 64) [false, false] (aCons (sVar 6) (aCons (sOp gAddU (sOp gAddU (sOp gMulU (sLst (aCons (sC (.bool true)) aNil)) (sCB gLenU (aCons (sVar 0) aNil))) (sOp gMulU (sLst (aCons (sC (.bool false)) aNil)) (sCB gLenU (aCons (sVar 2) aNil)))) (sLst (aCons (sC (.bool true)) aNil))) aNil)))))))))))))))))))))))))))))
def f_law_hand_right : FnM := fnP 0 7 b_law_hand_right
def b_law_right : MS :=
    (zSeq (zFor (iR1 (sC (.int 6))) (gN 1) (zSeq (zSet 2 (sCall f_law_form [true, false, true] (aCons (sVar 0) (aCons (sC (.int 6)) (aCons (sTup (aCons (sC (.str (Str.ofString "fa"))) (aCons (sC (.str (Str.ofString "fb"))) aNil))) aNil)))))
    (zSeq (zSet 3 (sCall f_law_stock [true, false, true, true] (aCons (sVar 0) (aCons (sVar 2) (aCons (sTup aNil) (aCons (sLst (aCons (sC (.str (Str.ofString "va"))) (aCons (sC (.str (Str.ofString "vb"))) aNil))) aNil))))))
    (zSeq (zSet 4 (sIf (sTst (sOp gGt (sCall f_law_take [true, true] (aCons (sVar 0) (aCons (sC (.int 3)) aNil))) (sC (.int 0)))) (sCall (f_law_spoilt 64) [true, true, true] (aCons (sVar 0) (aCons (sVar 2) (aCons (sC (.int 4)) aNil)))) (sVar 2)))
    (zSeq (zSet 5 (sIf (sTst (sOp gGt (sCall f_law_take [true, true] (aCons (sVar 0) (aCons (sC (.int 3)) aNil))) (sC (.int 0)))) (sCall (f_law_spoilt 64) [true, true, true] (aCons (sVar 0) (aCons (sVar 3) (aCons (sC (.int 3)) aNil)))) (sVar 3)))
    (zSeq (zSet 6 (sCall (f_law_spoilt 64) [true, true, true] (aCons (sVar 0) (aCons (sCall f_law_of [true, true] (aCons (sVar 0) (aCons (sVar 2) aNil))) (aCons (sC (.int 3)) aNil)))))
    (zSeq (zSet 7 (sCall (f_law_spoilt 64) [true, true, true] (aCons (sVar 0) (aCons (sTup (aCons (sTup (aCons (sC (.str (Str.ofString "fa"))) (aCons (sC (.int 1)) aNil))) (aCons (sTup (aCons (sC (.str (Str.ofString "fb"))) (aCons (sC (.int 0)) aNil))) aNil))) (aCons (sC (.int 2)) aNil)))))
    (zSeq (zSet 8 (sLst (aCons (sCall f_is_plan [false] (aCons (sVar 4) aNil)) (aCons (sCall f_is_plan [false] (aCons (sVar 2) aNil)) (aCons (sCall f_is_counts [false] (aCons (sVar 5) aNil)) (aCons (sCall f_is_counts [false] (aCons (sVar 3) aNil)) (aCons (sCall f_is_step [false] (aCons (sVar 6) aNil)) aNil)))))))
    (zSeq (zDrop (sApp 8 (sCall f_is_condition [false] (aCons (sVar 7) aNil))))
    (zSeq (zSet 9 (sLst (aCons (sCall f_law_is_form [false] (aCons (sVar 4) aNil)) (aCons (sC (.bool true)) (aCons (sCall f_law_is_stock [false] (aCons (sVar 5) aNil)) (aCons (sC (.bool true)) (aCons (sCall f_law_is_bit [true] (aCons (sVar 6) aNil)) aNil)))))))
    (zSeq (zDrop (sApp 9 (sCall f_law_is_on [false] (aCons (sVar 7) aNil))))
    (zIf (sNot (sTru (sCall (f_law_same 64) [false, false] (aCons (sVar 8) (aCons (sVar 9) aNil))))) (zRet (sC (.bool false))) zNext))))))))))))
    (zRet (sC (.bool true))))
def f_law_right : FnM := fnP 1 10 b_law_right
def b_law : MS :=
    (zSeq (zIf (sNot (sTru (sCall f_law_hand_right [] aNil))) (zRet (sC (.bool false))) zNext)
    (zSeq (zSet 1 (sCall f_law_cells [true, false] (aCons (sVar 0) (aCons (sC (.int 3)) aNil))))
    (zRet (sCB gAll (aCons (sLc [2] (iR1 (sCB gLenU (aCons (sVar 1) aNil))) (gN 2) (fun ρ => some (true, ρ)) (sCall f_law_right [true] (aCons (sCall f_law_box [true, false] (aCons (sVar 1) (aCons (sVar 2) aNil))) aNil))) aNil)))))
def f_law : FnM := fnP 1 3 b_law
/-! ### what the top has left -/
structure Tx where
  a_is_number : Addr
  d_is_number : FuncData
  a_is_name : Addr
  d_is_name : FuncData
  a_is_tuple_of : Addr
  d_is_tuple_of : FuncData
  a_is_ascending : Addr
  d_is_ascending : FuncData
  a_are_names : Addr
  d_are_names : FuncData
  a_is_demand : Addr
  d_is_demand : FuncData
  a_is_condition : Addr
  d_is_condition : FuncData
  a_is_step : Addr
  d_is_step : FuncData
  a_is_plan : Addr
  d_is_plan : FuncData
  a_is_counts : Addr
  d_is_counts : FuncData
  a_law_box : Addr
  d_law_box : FuncData
  a_law_take : Addr
  d_law_take : FuncData
  a_law_cells : Addr
  d_law_cells : FuncData
  a_law_of : Addr
  d_law_of : FuncData
  a_law_pick : Addr
  d_law_pick : FuncData
  a_law_same : Addr
  d_law_same : FuncData
  a_law_form : Addr
  d_law_form : FuncData
  a_law_on : Addr
  d_law_on : FuncData
  a_law_stock : Addr
  d_law_stock : FuncData
  a_law_is_tag : Addr
  d_law_is_tag : FuncData
  a_law_rises : Addr
  d_law_rises : FuncData
  a_law_are_pairs : Addr
  d_law_are_pairs : FuncData
  a_law_is_on : Addr
  d_law_is_on : FuncData
  a_law_is_bit : Addr
  d_law_is_bit : FuncData
  a_law_is_form : Addr
  d_law_is_form : FuncData
  a_law_is_stock : Addr
  d_law_is_stock : FuncData
  a_law_spoilt : Addr
  d_law_spoilt : FuncData
  a_law_steps_right : Addr
  d_law_steps_right : FuncData
  a_law_hand_right : Addr
  d_law_hand_right : FuncData
  a_law_right : Addr
  d_law_right : FuncData
  a_law : Addr
  d_law : FuncData
structure Tp (K : PySem.W.Frag) (mg : Str → Option Value) (x : Tx) : Prop where
  b_isinstance : mg "isinstance" = none
  b_int : mg "int" = none
  b_bool : mg "bool" = none
  b_str : mg "str" = none
  b_len : mg "len" = none
  b_tuple : mg "tuple" = none
  b_all : mg "all" = none
  b_zip : mg "zip" = none
  b_abs : mg "abs" = none
  b_enumerate : mg "enumerate" = none
  b_list : mg "list" = none
  b_range : mg "range" = none
  b_min : mg "min" = none
  b_dict : mg "dict" = none
  b_sorted : mg "sorted" = none
  b_set : mg "set" = none
  F_is_number : L2.Fun K "is_number" "is_number" s_is_number x.a_is_number x.d_is_number
  g_is_number : mg "is_number" = some (.ref x.a_is_number)
  B_is_number : Binds K x.d_is_number ["thing"] []
  k_is_number : PySem.W.keepIn K (.ref x.a_is_number) = true
  F_is_name : L2.Fun K "is_name" "is_name" s_is_name x.a_is_name x.d_is_name
  g_is_name : mg "is_name" = some (.ref x.a_is_name)
  B_is_name : Binds K x.d_is_name ["thing"] []
  k_is_name : PySem.W.keepIn K (.ref x.a_is_name) = true
  F_is_tuple_of : L2.Fun K "is_tuple_of" "is_tuple_of" s_is_tuple_of x.a_is_tuple_of x.d_is_tuple_of
  g_is_tuple_of : mg "is_tuple_of" = some (.ref x.a_is_tuple_of)
  B_is_tuple_of : Binds K x.d_is_tuple_of ["thing", "many"] []
  k_is_tuple_of : PySem.W.keepIn K (.ref x.a_is_tuple_of) = true
  F_is_ascending : L2.Fun K "is_ascending" "is_ascending" s_is_ascending x.a_is_ascending x.d_is_ascending
  g_is_ascending : mg "is_ascending" = some (.ref x.a_is_ascending)
  B_is_ascending : Binds K x.d_is_ascending ["row"] []
  k_is_ascending : PySem.W.keepIn K (.ref x.a_is_ascending) = true
  F_are_names : L2.Fun K "are_names" "are_names" s_are_names x.a_are_names x.d_are_names
  g_are_names : mg "are_names" = some (.ref x.a_are_names)
  B_are_names : Binds K x.d_are_names ["thing"] []
  k_are_names : PySem.W.keepIn K (.ref x.a_are_names) = true
  F_is_demand : L2.Fun K "is_demand" "is_demand" s_is_demand x.a_is_demand x.d_is_demand
  g_is_demand : mg "is_demand" = some (.ref x.a_is_demand)
  B_is_demand : Binds K x.d_is_demand ["thing"] []
  k_is_demand : PySem.W.keepIn K (.ref x.a_is_demand) = true
  F_is_condition : L2.Fun K "is_condition" "is_condition" s_is_condition x.a_is_condition x.d_is_condition
  g_is_condition : mg "is_condition" = some (.ref x.a_is_condition)
  B_is_condition : Binds K x.d_is_condition ["thing"] []
  k_is_condition : PySem.W.keepIn K (.ref x.a_is_condition) = true
  F_is_step : L2.Fun K "is_step" "is_step" s_is_step x.a_is_step x.d_is_step
  g_is_step : mg "is_step" = some (.ref x.a_is_step)
  B_is_step : Binds K x.d_is_step ["thing"] []
  k_is_step : PySem.W.keepIn K (.ref x.a_is_step) = true
  F_is_plan : L2.Fun K "is_plan" "is_plan" s_is_plan x.a_is_plan x.d_is_plan
  g_is_plan : mg "is_plan" = some (.ref x.a_is_plan)
  B_is_plan : Binds K x.d_is_plan ["thing"] []
  k_is_plan : PySem.W.keepIn K (.ref x.a_is_plan) = true
  F_is_counts : L2.Fun K "is_counts" "is_counts" s_is_counts x.a_is_counts x.d_is_counts
  g_is_counts : mg "is_counts" = some (.ref x.a_is_counts)
  B_is_counts : Binds K x.d_is_counts ["thing"] []
  k_is_counts : PySem.W.keepIn K (.ref x.a_is_counts) = true
  F_law_box : L2.Fun K "_law_box" "_law_box" s_law_box x.a_law_box x.d_law_box
  g_law_box : mg "_law_box" = some (.ref x.a_law_box)
  B_law_box : Binds K x.d_law_box ["_law_script", "_law_k"] []
  k_law_box : PySem.W.keepIn K (.ref x.a_law_box) = true
  F_law_take : L2.Fun K "_law_take" "_law_take" s_law_take x.a_law_take x.d_law_take
  g_law_take : mg "_law_take" = some (.ref x.a_law_take)
  B_law_take : Binds K x.d_law_take ["_law_tin", "_law_top_so"] []
  k_law_take : PySem.W.keepIn K (.ref x.a_law_take) = true
  F_law_cells : L2.Fun K "_law_cells" "_law_cells" s_law_cells x.a_law_cells x.d_law_cells
  g_law_cells : mg "_law_cells" = some (.ref x.a_law_cells)
  B_law_cells : Binds K x.d_law_cells ["_law_script", "_law_most"] []
  k_law_cells : PySem.W.keepIn K (.ref x.a_law_cells) = true
  F_law_of : L2.Fun K "_law_of" "_law_of" s_law_of x.a_law_of x.d_law_of
  g_law_of : mg "_law_of" = some (.ref x.a_law_of)
  B_law_of : Binds K x.d_law_of ["_law_tin", "_law_lot"] []
  k_law_of : PySem.W.keepIn K (.ref x.a_law_of) = true
  F_law_pick : L2.Fun K "_law_pick" "_law_pick" s_law_pick x.a_law_pick x.d_law_pick
  g_law_pick : mg "_law_pick" = some (.ref x.a_law_pick)
  B_law_pick : Binds K x.d_law_pick ["_law_tin", "_law_pool", "_law_size_so"] []
  k_law_pick : PySem.W.keepIn K (.ref x.a_law_pick) = true
  F_law_same : L2.Fun K "_law_same" "_law_same" s_law_same x.a_law_same x.d_law_same
  g_law_same : mg "_law_same" = some (.ref x.a_law_same)
  B_law_same : Binds K x.d_law_same ["_law_got", "_law_due"] []
  k_law_same : PySem.W.keepIn K (.ref x.a_law_same) = true
  F_law_form : L2.Fun K "_law_form" "_law_form" s_law_form x.a_law_form x.d_law_form
  g_law_form : mg "_law_form" = some (.ref x.a_law_form)
  B_law_form : Binds K x.d_law_form ["_law_tin", "_law_many", "_law_flags_so"] []
  k_law_form : PySem.W.keepIn K (.ref x.a_law_form) = true
  F_law_on : L2.Fun K "_law_on" "_law_on" s_law_on x.a_law_on x.d_law_on
  g_law_on : mg "_law_on" = some (.ref x.a_law_on)
  B_law_on : Binds K x.d_law_on ["_law_form_here", "_law_flags_so"] []
  k_law_on : PySem.W.keepIn K (.ref x.a_law_on) = true
  F_law_stock : L2.Fun K "_law_stock" "_law_stock" s_law_stock x.a_law_stock x.d_law_stock
  g_law_stock : mg "_law_stock" = some (.ref x.a_law_stock)
  B_law_stock : Binds K x.d_law_stock ["_law_tin", "_law_form_here", "_law_flags_so", "_law_marks"] []
  k_law_stock : PySem.W.keepIn K (.ref x.a_law_stock) = true
  F_law_is_tag : L2.Fun K "_law_is_tag" "_law_is_tag" s_law_is_tag x.a_law_is_tag x.d_law_is_tag
  g_law_is_tag : mg "_law_is_tag" = some (.ref x.a_law_is_tag)
  B_law_is_tag : Binds K x.d_law_is_tag ["_law_matter"] []
  k_law_is_tag : PySem.W.keepIn K (.ref x.a_law_is_tag) = true
  F_law_rises : L2.Fun K "_law_rises" "_law_rises" s_law_rises x.a_law_rises x.d_law_rises
  g_law_rises : mg "_law_rises" = some (.ref x.a_law_rises)
  B_law_rises : Binds K x.d_law_rises ["_law_lot"] []
  k_law_rises : PySem.W.keepIn K (.ref x.a_law_rises) = true
  F_law_are_pairs : L2.Fun K "_law_are_pairs" "_law_are_pairs" s_law_are_pairs x.a_law_are_pairs x.d_law_are_pairs
  g_law_are_pairs : mg "_law_are_pairs" = some (.ref x.a_law_are_pairs)
  B_law_are_pairs : Binds K x.d_law_are_pairs ["_law_matter"] []
  k_law_are_pairs : PySem.W.keepIn K (.ref x.a_law_are_pairs) = true
  F_law_is_on : L2.Fun K "_law_is_on" "_law_is_on" s_law_is_on x.a_law_is_on x.d_law_is_on
  g_law_is_on : mg "_law_is_on" = some (.ref x.a_law_is_on)
  B_law_is_on : Binds K x.d_law_is_on ["_law_matter"] []
  k_law_is_on : PySem.W.keepIn K (.ref x.a_law_is_on) = true
  F_law_is_bit : L2.Fun K "_law_is_bit" "_law_is_bit" s_law_is_bit x.a_law_is_bit x.d_law_is_bit
  g_law_is_bit : mg "_law_is_bit" = some (.ref x.a_law_is_bit)
  B_law_is_bit : Binds K x.d_law_is_bit ["_law_matter"] []
  k_law_is_bit : PySem.W.keepIn K (.ref x.a_law_is_bit) = true
  F_law_is_form : L2.Fun K "_law_is_form" "_law_is_form" s_law_is_form x.a_law_is_form x.d_law_is_form
  g_law_is_form : mg "_law_is_form" = some (.ref x.a_law_is_form)
  B_law_is_form : Binds K x.d_law_is_form ["_law_matter"] []
  k_law_is_form : PySem.W.keepIn K (.ref x.a_law_is_form) = true
  F_law_is_stock : L2.Fun K "_law_is_stock" "_law_is_stock" s_law_is_stock x.a_law_is_stock x.d_law_is_stock
  g_law_is_stock : mg "_law_is_stock" = some (.ref x.a_law_is_stock)
  B_law_is_stock : Binds K x.d_law_is_stock ["_law_matter"] []
  k_law_is_stock : PySem.W.keepIn K (.ref x.a_law_is_stock) = true
  F_law_spoilt : L2.Fun K "_law_spoilt" "_law_spoilt" s_law_spoilt x.a_law_spoilt x.d_law_spoilt
  g_law_spoilt : mg "_law_spoilt" = some (.ref x.a_law_spoilt)
  B_law_spoilt : Binds K x.d_law_spoilt ["_law_tin", "_law_matter", "_law_depth_so"] []
  k_law_spoilt : PySem.W.keepIn K (.ref x.a_law_spoilt) = true
  F_law_steps_right : L2.Fun K "_law_steps_right" "_law_steps_right" s_law_steps_right x.a_law_steps_right x.d_law_steps_right
  g_law_steps_right : mg "_law_steps_right" = some (.ref x.a_law_steps_right)
  B_law_steps_right : Binds K x.d_law_steps_right [] []
  k_law_steps_right : PySem.W.keepIn K (.ref x.a_law_steps_right) = true
  F_law_hand_right : L2.Fun K "_law_hand_right" "_law_hand_right" s_law_hand_right x.a_law_hand_right x.d_law_hand_right
  g_law_hand_right : mg "_law_hand_right" = some (.ref x.a_law_hand_right)
  B_law_hand_right : Binds K x.d_law_hand_right [] []
  k_law_hand_right : PySem.W.keepIn K (.ref x.a_law_hand_right) = true
  F_law_right : L2.Fun K "_law_right" "_law_right" s_law_right x.a_law_right x.d_law_right
  g_law_right : mg "_law_right" = some (.ref x.a_law_right)
  B_law_right : Binds K x.d_law_right ["_law_tin"] []
  k_law_right : PySem.W.keepIn K (.ref x.a_law_right) = true
  F_law : L2.Fun K "law" "law" s_law x.a_law x.d_law
  g_law : mg "law" = some (.ref x.a_law)
  B_law : Binds K x.d_law ["_law_script"] []
  k_law : PySem.W.keepIn K (.ref x.a_law) = true
  K_is_condition_1 : KBinds K x.d_is_condition ["thing"] ["thing"] catG catV
  K_is_counts_1 : KBinds K x.d_is_counts ["thing"] ["thing"] catG catV
  K_is_plan_1 : KBinds K x.d_is_plan ["thing"] ["thing"] catG catV
  K_is_step_1 : KBinds K x.d_is_step ["thing"] ["thing"] catG catV
section
variable {P : Program} {w : World} {K : PySem.W.Frag} {mg : Str → Option Value} {base : Heap} {x : Tx}
theorem boot_isinstance : bootBuiltins "isinstance" = some (.builtin "isinstance") := by decide +kernel
theorem boot_all : bootBuiltins "all" = some (.builtin "all") := by decide +kernel
theorem boot_abs : bootBuiltins "abs" = some (.builtin "abs") := by decide +kernel
theorem boot_min : bootBuiltins "min" = some (.builtin "min") := by decide +kernel
theorem boot_sorted : bootBuiltins "sorted" = some (.builtin "sorted") := by decide +kernel
theorem ok_is_number (T : Tp K mg x) {k : Nat} : FnOk P w K mg base CX0 (k + 1) x.a_is_number x.d_is_number ["thing"] (spF f_is_number) := by
  refine T.F_is_number.ok sc_is_number (fun vs H Q E h => fnP_len h) (fun cdv A outer s H vs Q E hr h => ?_)
  have hr : Room (k + 0) _ := hr
  refine ⟨_, (pss_one (ps_ret (xAnd K (pe_callB (xIsi K) rfl T.b_isinstance boot_isinstance (pa_cons (pv 0) (pa_cons (pe_bltn (v := .ty "int") rfl T.b_int boot_int rfl) pa_nil))) (pe_one (xNot K (pe_callB (xIsi K) rfl T.b_isinstance boot_isinstance (pa_cons (pv 0) (pa_cons (pe_bltn (v := .ty "bool") rfl T.b_bool boot_bool rfl) pa_nil)))))))), ?_⟩
  exact fnP_ok (N := n_is_number) (p := 1) (b := b_is_number) (es_ret (ev_andT (ev_isi plain_int ev_var) (ev_notT (ev_isi plain_bool ev_var)))) (by decide) h
theorem ok_is_name (T : Tp K mg x) {k : Nat} : FnOk P w K mg base CX0 (k + 1) x.a_is_name x.d_is_name ["thing"] (spF f_is_name) := by
  refine T.F_is_name.ok sc_is_name (fun vs H Q E h => fnP_len h) (fun cdv A outer s H vs Q E hr h => ?_)
  have hr : Room (k + 0) _ := hr
  refine ⟨_, (pss_one (ps_ret (xAnd K (pe_callB (xIsi K) rfl T.b_isinstance boot_isinstance (pa_cons (pv 0) (pa_cons (pe_bltn (v := .ty "str") rfl T.b_str boot_str rfl) pa_nil))) (xAnd K (pe_cmpR op_leU (pe_callB (xLen K) rfl T.b_len boot_len (pa_cons (pv 0) pa_nil)) pe_int (nomark _)) (xAnd K (xAscii (pv 0)) (xAnd K (xAlpha (pv 0)) (pe_one (xLower (pv 0))))))))), ?_⟩
  exact fnP_ok (N := n_is_name) (p := 1) (b := b_is_name) (es_ret (ev_andT (ev_isi plain_str ev_var) (ev_andT (ev_op (ev_cb (ea_cons ev_var ea_nil) cs_lenU) ev_int os_leU) (ev_andT (ev_st ev_var) (ev_andT (ev_st ev_var) (ev_st ev_var)))))) (by decide) h
theorem ok_is_tuple_of (T : Tp K mg x) {k : Nat} : FnOk P w K mg base CX0 (k + 1) x.a_is_tuple_of x.d_is_tuple_of ["thing", "many"] (spF f_is_tuple_of) := by
  refine T.F_is_tuple_of.ok sc_is_tuple_of (fun vs H Q E h => fnP_len h) (fun cdv A outer s H vs Q E hr h => ?_)
  have hr : Room (k + 0) _ := hr
  refine ⟨_, (pss_one (ps_ret (xAnd K (pe_callB (xIsi K) rfl T.b_isinstance boot_isinstance (pa_cons (pv 0) (pa_cons (pe_bltn (v := .ty "tuple") rfl T.b_tuple boot_tuple rfl) pa_nil))) (pe_one (pe_cmpR (xEq K (r64 hr)) (pe_callB (xLen K) rfl T.b_len boot_len (pa_cons (pv 0) pa_nil)) (pv 1) (nomark _)))))), ?_⟩
  exact fnP_ok (N := n_is_tuple_of) (p := 2) (b := b_is_tuple_of) (es_ret (ev_andT (ev_isi plain_tuple ev_var) (ev_op (ev_cb (ea_cons ev_var ea_nil) cs_lenU) ev_var os_eq))) (by decide) h
theorem ok_is_ascending (T : Tp K mg x) {k : Nat} : FnOk P w K mg base CX0 (k + 1) x.a_is_ascending x.d_is_ascending ["row"] (spF f_is_ascending) := by
  refine T.F_is_ascending.ok sc_is_ascending (fun vs H Q E h => fnP_len h) (fun cdv A outer s H vs Q E hr h => ?_)
  have hr : Room (k + 0) _ := hr
  refine ⟨_, (pss_one (ps_ret (pe_callB (xAll K rfl) rfl T.b_all boot_all (pa_cons (pe_lc (own := [((Str.ofString "first"), 1), ((Str.ofString "second"), 2)]) rfl sc_is_ascending.nd (xZip K rfl T.b_zip (pa_cons (pv 0) (pa_cons (pe_slice (xSl K) (pv 0) (po_some pe_int) po_none) pa_nil))) (blkOk_by (N := n_is_ascending) (sc := (defScope s_is_ascending)) (by decide +kernel)) (fun _ _ _ _ _ => (xgTup K 2 rfl (pgs_cons (pg_name (i := 1) sc_is_ascending.nd rfl (by first | exact Or.inl rfl | exact Or.inr rfl)) (pgs_cons (pg_name (i := 2) sc_is_ascending.nd rfl (by first | exact Or.inl rfl | exact Or.inr rfl)) pgs_nil)))) (fun _ _ _ _ _ => pts_nil) (fun _ _ _ _ _ => (pe_cmpR op_ltU (pv 1) (pv 2) (nomark _)))) pa_nil)))), ?_⟩
  exact fnP_ok (N := n_is_ascending) (p := 1) (b := b_is_ascending) (es_ret (ev_cb (ea_cons (ev_lc (ei_zp (ea_cons ev_var (ea_cons (ev_sl ss_U ev_var (eo_some ev_int) eo_none) ea_nil))) (eg_tup (egs_cons eg_name (egs_cons eg_name egs_nil))) (by decide) et_yes (ev_op ev_var ev_var os_ltU)) ea_nil) cs_all)) (by decide) h
theorem ok_law_box (T : Tp K mg x) {k : Nat} : FnOk P w K mg base CX0 (k + 1) x.a_law_box x.d_law_box ["_law_script", "_law_k"] (spF f_law_box) := by
  refine T.F_law_box.ok sc_law_box (fun vs H Q E h => fnP_len h) (fun cdv A outer s H vs Q E hr h => ?_)
  have hr : Room (k + 0) _ := hr
  refine ⟨_, (pss_cons (ps_set (i := 2) sc_law_box.nd rfl (by first | exact Or.inl rfl | exact Or.inr rfl) (pe_ifExp (pt_cmpR op_ltU (pv 1) (pe_callB (xLen K) rfl T.b_len boot_len (pa_cons (pv 0) pa_nil)) (nomark _)) (pe_ix (xIx K) (pv 0) (pv 1) (fun _ _ => rfl)) pe_int))
    (pss_one (ps_ret (pe_lst (pa_cons (pe_op op_mulU (pe_callB call_abs rfl T.b_abs boot_abs (pa_cons (pv 2) pa_nil)) (pe_callTy call_int1 rfl T.b_int boot_int (pa_cons (pe_cmpR op_ge (pe_callB call_abs rfl T.b_abs boot_abs (pa_cons (pv 2) pa_nil)) (pe_op op_pow pe_int pe_int) (nomark _)) pa_nil))) (pa_cons (pe_op (xAdd K) (pe_op (xAdd K) (pe_op op_mod (pe_callTy call_int1 rfl T.b_int boot_int (pa_cons (pv 2) pa_nil)) pe_int) (pe_op op_mulU pe_int (pv 1))) pe_int) (pa_cons pe_int pa_nil))))))), ?_⟩
  exact fnP_ok (N := n_law_box) (p := 2) (b := b_law_box) (es_seq (es_set (i := 2) (ev_if (et_test (ev_op ev_var (ev_cb (ea_cons ev_var ea_nil) cs_lenU) os_ltU)) (ev_op ev_var ev_var os_ix) ev_int))
    (es_ret (ev_lst (ea_cons (ev_op (ev_cb (ea_cons ev_var ea_nil) cs_abs) (ev_cb (ea_cons (ev_op (ev_cb (ea_cons ev_var ea_nil) cs_abs) (ev_op ev_int ev_int os_pow) os_ge) ea_nil) cs_int) os_mulU) (ea_cons (ev_op (ev_op (ev_op (ev_cb (ea_cons ev_var ea_nil) cs_int) ev_int os_mod) (ev_op ev_int ev_var os_mulU) os_addU) ev_int os_addU) (ea_cons ev_int ea_nil)))))) (by decide) h
theorem ok_law_take (T : Tp K mg x) {k : Nat} : FnOk P w K mg base CX0 (k + 1) x.a_law_take x.d_law_take ["_law_tin", "_law_top_so"] (spF f_law_take) := by
  refine T.F_law_take.ok sc_law_take (fun vs H Q E h => fnP_len h) (fun cdv A outer s H vs Q E hr h => ?_)
  have hr : Room (k + 0) _ := hr
  refine ⟨_, (pss_cons (ps_if (pt_cmpR op_gt (pe_ix (xIx K) (pv 0) pe_int (fun _ _ => rfl)) pe_int (nomark _)) (pss_cons (ps_set (i := 2) sc_law_take.nd rfl (by first | exact Or.inl rfl | exact Or.inr rfl) (pe_op op_mod (pe_callTy call_int1 rfl T.b_int boot_int (pa_cons (pe_ix (xIx K) (pv 0) pe_int (fun _ _ => rfl)) pa_nil)) (pv 1)))
    (pss_cons (ps_asg (pe_op op_fdiv (pe_ix (xIx K) (pv 0) pe_int (fun _ _ => rfl)) (pv 1)) (pg_sub (pv 0) pe_int set_list (fun _ => rfl)))
    (pss_one (ps_ret (pv 2))))) pss_nil)
    (pss_cons (ps_asg (pe_op (xAdd K) (pe_ix (xIx K) (pv 0) pe_int (fun _ _ => rfl)) pe_int) (pg_sub (pv 0) pe_int set_list (fun _ => rfl)))
    (pss_cons (ps_set (i := 3) sc_law_take.nd rfl (by first | exact Or.inl rfl | exact Or.inr rfl) (pe_op op_mod (pe_callTy call_int1 rfl T.b_int boot_int (pa_cons (pe_op op_mulU (pe_op (xAdd K) (pe_ix (xIx K) (pv 0) pe_int (fun _ _ => rfl)) (pe_op op_mulU pe_int (pe_ix (xIx K) (pv 0) pe_int (fun _ _ => rfl)))) (pe_op (xAdd K) pe_int (pe_ix (xIx K) (pv 0) pe_int (fun _ _ => rfl)))) pa_nil)) pe_int))
    (pss_cons (ps_set (i := 4) sc_law_take.nd rfl (by first | exact Or.inl rfl | exact Or.inr rfl) (pe_op (xAdd K) (pe_op op_mod (pe_callTy call_int1 rfl T.b_int boot_int (pa_cons (pv 3) pa_nil)) pe_int) pe_int))
    (pss_cons (ps_set (i := 5) sc_law_take.nd rfl (by first | exact Or.inl rfl | exact Or.inr rfl) (pe_op op_mod (pe_callTy call_int1 rfl T.b_int boot_int (pa_cons (pe_op op_mulU (pe_op (xAdd K) (pe_op (xAdd K) (pv 3) (pe_ix (xIx K) (pv 0) pe_int (fun _ _ => rfl))) (pe_op op_fdiv (pe_ix (xIx K) (pv 0) pe_int (fun _ _ => rfl)) pe_int)) (pv 4)) pa_nil)) pe_int))
    (pss_one (ps_ret (pe_op op_mod (pe_callTy call_int1 rfl T.b_int boot_int (pa_cons (pe_op op_fdiv (pe_op op_mod (pe_callTy call_int1 rfl T.b_int boot_int (pa_cons (pe_op (xAdd K) (pe_op op_mulU (pv 5) pe_int) (pv 3)) pa_nil)) pe_int) pe_int) pa_nil)) (pv 1))))))))), ?_⟩
  exact fnP_ok (N := n_law_take) (p := 2) (b := b_law_take) (es_seq (es_if (et_test (ev_op (ev_op ev_var ev_int os_ix) ev_int os_gt)) (es_seq (es_set (i := 2) (ev_op (ev_cb (ea_cons (ev_op ev_var ev_int os_ix) ea_nil) cs_int) ev_var os_mod))
    (es_seq (es_put (i := 0) (ev_op (ev_op ev_var ev_int os_ix) ev_var os_fdiv) ev_int)
    (es_ret ev_var))) es_next)
    (es_seq (es_put (i := 0) (ev_op (ev_op ev_var ev_int os_ix) ev_int os_addU) ev_int)
    (es_seq (es_set (i := 3) (ev_op (ev_cb (ea_cons (ev_op (ev_op (ev_op ev_var ev_int os_ix) (ev_op ev_int (ev_op ev_var ev_int os_ix) os_mulU) os_addU) (ev_op ev_int (ev_op ev_var ev_int os_ix) os_addU) os_mulU) ea_nil) cs_int) ev_int os_mod))
    (es_seq (es_set (i := 4) (ev_op (ev_op (ev_cb (ea_cons ev_var ea_nil) cs_int) ev_int os_mod) ev_int os_addU))
    (es_seq (es_set (i := 5) (ev_op (ev_cb (ea_cons (ev_op (ev_op (ev_op ev_var (ev_op ev_var ev_int os_ix) os_addU) (ev_op (ev_op ev_var ev_int os_ix) ev_int os_fdiv) os_addU) ev_var os_mulU) ea_nil) cs_int) ev_int os_mod))
    (es_ret (ev_op (ev_cb (ea_cons (ev_op (ev_op (ev_cb (ea_cons (ev_op (ev_op ev_var ev_int os_mulU) ev_var os_addU) ea_nil) cs_int) ev_int os_mod) ev_int os_fdiv) ea_nil) cs_int) ev_var os_mod))))))) (by decide) h
theorem ok_law_cells (T : Tp K mg x) {k : Nat} : FnOk P w K mg base CX0 (k + 1) x.a_law_cells x.d_law_cells ["_law_script", "_law_most"] (spF f_law_cells) := by
  refine T.F_law_cells.ok sc_law_cells (fun vs H Q E h => fnP_len h) (fun cdv A outer s H vs Q E hr h => ?_)
  have hr : Room (k + 0) _ := hr
  refine ⟨_, (pss_cons (ps_set (i := 2) sc_law_cells.nd rfl (by first | exact Or.inl rfl | exact Or.inr rfl) (xOr K (pe_callTy (xList K rfl) rfl T.b_list boot_list (pa_cons (pe_slice (xSl K) (pv 0) po_none (po_some (pv 1))) pa_nil)) (pe_one (pe_lst (pa_cons pe_int pa_nil)))))
    (pss_cons (ps_for PassesOwn.never rfl (xEnum K rfl T.b_enumerate (pa_cons (pe_slice (xSl K) (pv 0) (po_some (pv 1)) (po_some pe_int)) pa_nil)) (xgTup K 2 rfl (pgs_cons (pg_name (i := 3) sc_law_cells.nd rfl (by first | exact Or.inl rfl | exact Or.inr rfl)) (pgs_cons (pg_name (i := 4) sc_law_cells.nd rfl (by first | exact Or.inl rfl | exact Or.inr rfl)) pgs_nil))) (pss_cons (ps_set (i := 5) sc_law_cells.nd rfl (by first | exact Or.inl rfl | exact Or.inr rfl) (pe_op op_mod (pe_callTy call_int1 rfl T.b_int boot_int (pa_cons (pv 3) pa_nil)) (pv 1)))
    (pss_one (ps_asg (pe_op (xAdd K) (pe_ix (xIx K) (pv 2) (pv 5) (fun _ _ => rfl)) (pe_op op_mulU (pv 4) (pe_op (xAdd K) (pv 3) pe_int))) (pg_sub (pv 2) (pv 5) set_list (fun _ => rfl))))))
    (pss_one (ps_ret (pv 2))))), ?_⟩
  exact fnP_ok (N := n_law_cells) (p := 2) (b := b_law_cells) (es_seq (es_set (i := 2) (ev_orT (ev_cb (ea_cons (ev_sl ss_U ev_var eo_none (eo_some ev_var)) ea_nil) cs_listU) (ev_lst (ea_cons ev_int ea_nil))))
    (es_seq (es_for (ei_en (ev_sl ss_U ev_var (eo_some ev_var) (eo_some ev_int))) (eg_tup (egs_cons eg_name (egs_cons eg_name egs_nil))) (es_seq (es_set (i := 5) (ev_op (ev_cb (ea_cons ev_var ea_nil) cs_int) ev_var os_mod))
    (es_put (i := 2) (ev_op (ev_op ev_var ev_var os_ix) (ev_op ev_var (ev_op ev_var ev_int os_addU) os_mulU) os_addU) ev_var)))
    (es_ret ev_var))) (by decide) h
theorem ok_law_same (T : Tp K mg x) : ∀ (n : Nat) {k : Nat}, FnOk P w K mg base CX0 (k + n + 1) x.a_law_same x.d_law_same ["_law_got", "_law_due"] (spF (f_law_same n))
  | 0, k => T.F_law_same.ok sc_law_same (fun vs H Q E h => (spF_none h).elim) (fun cdv A outer s H vs Q E hr h => (spF_none h).elim)
  | n + 1, k => by
    have ok := fun {k : Nat} => ok_law_same T n (k := k)
    refine T.F_law_same.ok sc_law_same (fun vs H Q E h => fnP_len h) (fun cdv A outer s H vs Q E hr h => ?_)
    have hr : Room (k + n + 1) _ := hr
    refine ⟨_, (pss_cons (ps_if (xTru K (pe_callB (xIsiT K) rfl T.b_isinstance boot_isinstance (pa_cons (pv 1) (pa_cons (pe_tup (pa_cons (pe_bltn (v := .ty "list") rfl T.b_list boot_list rfl) (pa_cons (pe_bltn (v := .ty "tuple") rfl T.b_tuple boot_tuple rfl) pa_nil))) pa_nil))) (fun _ => rfl)) (pss_cons (ps_if (PW.pt (pw_or (pt_cmpR (xNe K (r64 hr)) (pe_callB (xIsi K) rfl T.b_isinstance boot_isinstance (pa_cons (pv 0) (pa_cons (pe_bltn (v := .ty "list") rfl T.b_list boot_list rfl) pa_nil))) (pe_callB (xIsi K) rfl T.b_isinstance boot_isinstance (pa_cons (pv 1) (pa_cons (pe_bltn (v := .ty "list") rfl T.b_list boot_list rfl) pa_nil))) (nomark _)) (pw_or1 (pt_cmpR (xNe K (r64 hr)) (pe_callB (xIsi K) rfl T.b_isinstance boot_isinstance (pa_cons (pv 0) (pa_cons (pe_bltn (v := .ty "tuple") rfl T.b_tuple boot_tuple rfl) pa_nil))) (pe_callB (xIsi K) rfl T.b_isinstance boot_isinstance (pa_cons (pv 1) (pa_cons (pe_bltn (v := .ty "tuple") rfl T.b_tuple boot_tuple rfl) pa_nil))) (nomark _))))) (pss_one (ps_ret pe_bl)) pss_nil)
    (pss_one (ps_ret (xAnd K (pe_cmpR (xEq K (r64 hr)) (pe_callB (xLen K) rfl T.b_len boot_len (pa_cons (pv 0) pa_nil)) (pe_callB (xLen K) rfl T.b_len boot_len (pa_cons (pv 1) pa_nil)) (nomark _)) (pe_one (pe_callB (xAll K rfl) rfl T.b_all boot_all (pa_cons (pe_lc (own := [((Str.ofString "_law_mine"), 2), ((Str.ofString "_law_its"), 3)]) rfl sc_law_same.nd (xZip K rfl T.b_zip (pa_cons (pv 0) (pa_cons (pv 1) pa_nil))) (blkOk_by (N := n_law_same) (sc := (defScope s_law_same)) (by decide +kernel)) (fun _ _ _ _ _ => (xgTup K 2 rfl (pgs_cons (pg_name (i := 2) sc_law_same.nd rfl (by first | exact Or.inl rfl | exact Or.inr rfl)) (pgs_cons (pg_name (i := 3) sc_law_same.nd rfl (by first | exact Or.inl rfl | exact Or.inr rfl)) pgs_nil)))) (fun _ _ _ _ _ => pts_nil) (fun _ _ _ _ _ => (xCall (ok (k := k)) T.g_law_same T.k_law_same T.B_law_same (pa_cons (pv 2) (pa_cons (pv 3) pa_nil)) (hr.mono (by omega))))) pa_nil))))))) pss_nil)
    (pss_cons (ps_if (xTru K (pe_callB (xIsi K) rfl T.b_isinstance boot_isinstance (pa_cons (pv 1) (pa_cons (pe_bltn (v := .ty "dict") rfl T.b_dict boot_dict rfl) pa_nil))) (fun _ => rfl)) (pss_cons (ps_if (PW.pt (pw_or (pt_not (xTru K (pe_callB (xIsi K) rfl T.b_isinstance boot_isinstance (pa_cons (pv 0) (pa_cons (pe_bltn (v := .ty "dict") rfl T.b_dict boot_dict rfl) pa_nil))) (fun _ => rfl))) (pw_or1 (pt_cmpR (xNe K (r64 hr)) (pe_callB (xSorted K (r64 hr)) rfl T.b_sorted boot_sorted (pa_cons (pv 0) pa_nil)) (pe_callB (xSorted K (r64 hr)) rfl T.b_sorted boot_sorted (pa_cons (pv 1) pa_nil)) (nomark _))))) (pss_one (ps_ret pe_bl)) pss_nil)
    (pss_one (ps_ret (pe_callB (xAll K rfl) rfl T.b_all boot_all (pa_cons (pe_lc (own := [((Str.ofString "_law_lot_so"), 4)]) rfl sc_law_same.nd (xiAny K (pv 1)) (blkOk_by (N := n_law_same) (sc := (defScope s_law_same)) (by decide +kernel)) (fun _ _ _ _ _ => (pg_name (i := 4) sc_law_same.nd rfl (by first | exact Or.inl rfl | exact Or.inr rfl))) (fun _ _ _ _ _ => pts_nil) (fun _ _ _ _ _ => (xCall (ok (k := k)) T.g_law_same T.k_law_same T.B_law_same (pa_cons (pe_ix (xIx K) (pv 0) (pv 4) (fun _ _ => rfl)) (pa_cons (pe_ix (xIx K) (pv 1) (pv 4) (fun _ _ => rfl)) pa_nil)) (hr.mono (by omega))))) pa_nil))))) pss_nil)
    (pss_cons (ps_if (PW.pt (pw_or (pt_cmpR op_isN (pv 1) pe_non (nomark _)) (pw_or1 (xTru K (pe_callB (xIsiT K) rfl T.b_isinstance boot_isinstance (pa_cons (pv 1) (pa_cons (pe_tup (pa_cons (pe_bltn (v := .ty "bool") rfl T.b_bool boot_bool rfl) (pa_cons (pe_bltn (v := .ty "str") rfl T.b_str boot_str rfl) pa_nil))) pa_nil))) (fun _ => rfl))))) (pss_one (ps_ret (xAnd K (pe_cmpR (xEq K (r64 hr)) (pv 0) (pv 1) (nomark _)) (xAnd K (pe_cmpR (xEq K (r64 hr)) (pe_callB (xIsi K) rfl T.b_isinstance boot_isinstance (pa_cons (pv 0) (pa_cons (pe_bltn (v := .ty "bool") rfl T.b_bool boot_bool rfl) pa_nil))) (pe_callB (xIsi K) rfl T.b_isinstance boot_isinstance (pa_cons (pv 1) (pa_cons (pe_bltn (v := .ty "bool") rfl T.b_bool boot_bool rfl) pa_nil))) (nomark _)) (pe_one (pe_cmpR (xEq K (r64 hr)) (pe_cmpR op_isN (pv 0) pe_non (nomark _)) (pe_cmpR op_isN (pv 1) pe_non (nomark _)) (nomark _))))))) pss_nil)
    (pss_one (ps_ret (xAnd K (pe_callB (xIsi K) rfl T.b_isinstance boot_isinstance (pa_cons (pv 0) (pa_cons (pe_bltn (v := .ty "int") rfl T.b_int boot_int rfl) pa_nil))) (xAnd K (xNot K (pe_callB (xIsi K) rfl T.b_isinstance boot_isinstance (pa_cons (pv 0) (pa_cons (pe_bltn (v := .ty "bool") rfl T.b_bool boot_bool rfl) pa_nil)))) (pe_one (pe_cmpR (xEq K (r64 hr)) (pv 0) (pv 1) (nomark _)))))))))), ?_⟩
    exact fnP_ok (N := n_law_same) (p := 2) (b := b_law_same (f_law_same n)) (es_seq (es_if (et_tru (ev_isi2 plain_list plain_tuple ev_var)) (es_seq (es_if (et_or (et_test (ev_op (ev_isi plain_list ev_var) (ev_isi plain_list ev_var) os_ne)) (et_test (ev_op (ev_isi plain_tuple ev_var) (ev_isi plain_tuple ev_var) os_ne))) (es_ret ev_bl) es_next)
    (es_ret (ev_andT (ev_op (ev_cb (ea_cons ev_var ea_nil) cs_lenU) (ev_cb (ea_cons ev_var ea_nil) cs_lenU) os_eq) (ev_cb (ea_cons (ev_lc (ei_zp (ea_cons ev_var (ea_cons ev_var ea_nil))) (eg_tup (egs_cons eg_name (egs_cons eg_name egs_nil))) (by decide) et_yes (ev_call (fn := f_law_same n) (ms := [false, false]) (ea_cons ev_var (ea_cons ev_var ea_nil)))) ea_nil) cs_all)))) es_next)
    (es_seq (es_if (et_tru (ev_isi plain_dict ev_var)) (es_seq (es_if (et_or (et_not (et_tru (ev_isi plain_dict ev_var))) (et_test (ev_op (ev_cb (ea_cons ev_var ea_nil) cs_sorted) (ev_cb (ea_cons ev_var ea_nil) cs_sorted) os_ne))) (es_ret ev_bl) es_next)
    (es_ret (ev_cb (ea_cons (ev_lc (ei_any ev_var) eg_name (by decide) et_yes (ev_call (fn := f_law_same n) (ms := [false, false]) (ea_cons (ev_op ev_var ev_var os_ix) (ea_cons (ev_op ev_var ev_var os_ix) ea_nil)))) ea_nil) cs_all))) es_next)
    (es_seq (es_if (et_or (et_test (ev_op ev_var ev_non os_isN)) (et_tru (ev_isi2 plain_bool plain_str ev_var))) (es_ret (ev_andT (ev_op ev_var ev_var os_eq) (ev_andT (ev_op (ev_isi plain_bool ev_var) (ev_isi plain_bool ev_var) os_eq) (ev_op (ev_op ev_var ev_non os_isN) (ev_op ev_var ev_non os_isN) os_eq)))) es_next)
    (es_ret (ev_andT (ev_isi plain_int ev_var) (ev_andT (ev_notT (ev_isi plain_bool ev_var)) (ev_op ev_var ev_var os_eq))))))) (by decide) h
theorem ok_law_on (T : Tp K mg x) {k : Nat} : FnOk P w K mg base CX0 (k + 1) x.a_law_on x.d_law_on ["_law_form_here", "_law_flags_so"] (spF f_law_on) := by
  refine T.F_law_on.ok sc_law_on (fun vs H Q E h => fnP_len h) (fun cdv A outer s H vs Q E hr h => ?_)
  have hr : Room (k + 0) _ := hr
  refine ⟨_, (pss_cons (ps_par (i := 2) (j := 3) rfl sc_law_on.nd rfl rfl (by decide) rfl rfl (pa_cons (pe_lst pa_nil) (pa_cons (pe_lst pa_nil) pa_nil)) rfl)
    (pss_cons (ps_for PassesOwn.never rfl (xiAny K (pv 0)) (pg_name (i := 4) sc_law_on.nd rfl (by first | exact Or.inl rfl | exact Or.inr rfl)) (pss_one (ps_if (pt_cmpR (xEq K (r64 hr)) (pe_lc (own := [((Str.ofString "_law_pair"), 5)]) rfl sc_law_on.nd (xiAny K (pe_ix (xIx K) (pv 4) pe_int (fun _ _ => rfl))) (blkOk_by (N := n_law_on) (sc := (defScope s_law_on)) (by decide +kernel)) (fun _ _ _ _ _ => (pg_name (i := 5) sc_law_on.nd rfl (by first | exact Or.inl rfl | exact Or.inr rfl))) (fun _ _ _ _ _ => (pts_one (pt_cmpR (xNe K (r64 hr)) (pe_cmpR (xIn K (r65 hr)) (pe_ix (xIx K) (pv 5) pe_int (fun _ _ => rfl)) (pv 1) (by with_unfolding_all rfl)) (pe_cmpR (xEq K (r64 hr)) (pe_ix (xIx K) (pv 5) pe_int (fun _ _ => rfl)) pe_int (nomark _)) (nomark _)))) (fun _ _ _ _ _ => (pv 5))) (pe_lst pa_nil) (nomark _)) (pss_one (ps_expr (xApp K (pv 2) (pa_cons (pv 4) pa_nil)))) pss_nil)))
    (pss_cons (ps_while PassesOwn.never (pt_cmpR (xNe K (r64 hr)) (pv 2) (pe_lst pa_nil) (nomark _)) (pss_cons (ps_set (i := 6) sc_law_on.nd rfl (by first | exact Or.inl rfl | exact Or.inr rfl) (pe_lc (own := [((Str.ofString "_law_own"), 7)]) rfl sc_law_on.nd (xiAny K (pv 2)) (blkOk_by (N := n_law_on) (sc := (defScope s_law_on)) (by decide +kernel)) (fun _ _ _ _ _ => (pg_name (i := 7) sc_law_on.nd rfl (by first | exact Or.inl rfl | exact Or.inr rfl))) (fun _ _ _ _ _ => pts_nil) (fun _ _ _ _ _ => (pe_ix (xIx K) (pv 7) pe_int (fun _ _ => rfl)))))
    (pss_cons (ps_set (i := 8) sc_law_on.nd rfl (by first | exact Or.inl rfl | exact Or.inr rfl) (pe_lc (own := [((Str.ofString "_law_own"), 7)]) rfl sc_law_on.nd (xiAny K (pv 2)) (blkOk_by (N := n_law_on) (sc := (defScope s_law_on)) (by decide +kernel)) (fun _ _ _ _ _ => (pg_name (i := 7) sc_law_on.nd rfl (by first | exact Or.inl rfl | exact Or.inr rfl))) (fun _ _ _ _ _ => (pts_one (pt_cmpR (xEq K (r64 hr)) (pe_lc (own := [((Str.ofString "_law_page"), 9)]) rfl sc_law_on.nd (xiAny K (pe_ix (xIx K) (pv 7) pe_int (fun _ _ => rfl))) (blkOk_by (N := n_law_on) (sc := (relS ({ kind := PySem.ScopeKind.function, names := [ (PySem.Str.ofString ".0", PySem.NameKind.local), (PySem.Str.ofString "_law_own", PySem.NameKind.local), (PySem.Str.ofString "_law_waits_so", PySem.NameKind.free)], isGenerator := false, isCoroutine := false, more := [] : PySem.Scope } : Scope) (defScope s_law_on))) (by decide +kernel)) (fun _ _ _ _ _ => (pg_name (i := 9) sc_law_on.nd rfl (by first | exact Or.inl rfl | exact Or.inr rfl))) (fun _ _ _ _ _ => (pts_one (pt_cmpR (xIn K (r65 hr)) (pv 9) (pv 6) (by with_unfolding_all rfl)))) (fun _ _ _ _ _ => (pv 9))) (pe_lst pa_nil) (nomark _)))) (fun _ _ _ _ _ => (pv 7))))
    (pss_cons (ps_set (i := 3) sc_law_on.nd rfl (by first | exact Or.inl rfl | exact Or.inr rfl) (pe_op (xAdd K) (pv 3) (pv 8)))
    (pss_one (ps_set (i := 2) sc_law_on.nd rfl (by first | exact Or.inl rfl | exact Or.inr rfl) (pe_ifExp (pt_cmpR (xNe K (r64 hr)) (pv 8) (pe_lst pa_nil) (nomark _)) (pe_lc (own := [((Str.ofString "_law_own"), 7)]) rfl sc_law_on.nd (xiAny K (pv 2)) (blkOk_by (N := n_law_on) (sc := (defScope s_law_on)) (by decide +kernel)) (fun _ _ _ _ _ => (pg_name (i := 7) sc_law_on.nd rfl (by first | exact Or.inl rfl | exact Or.inr rfl))) (fun _ _ _ _ _ => (pts_one (pt_cmpR (xNotIn K (r65 hr)) (pv 7) (pv 8) (by with_unfolding_all rfl)))) (fun _ _ _ _ _ => (pv 7))) (pe_lst pa_nil))))))))
    (pss_one (ps_ret (pv 3)))))), ?_⟩
  exact fnP_ok (N := n_law_on) (p := 2) (b := b_law_on) (es_seq (es_par (i := 2) (j := 3) (by decide) (ea_cons (ev_lst ea_nil) (ea_cons (ev_lst ea_nil) ea_nil)))
    (es_seq (es_for (ei_any ev_var) eg_name (es_if (et_test (ev_op (ev_lc (ei_any (ev_op ev_var ev_int os_ix)) eg_name (by decide) (et_test (ev_op (ev_op (ev_op ev_var ev_int os_ix) ev_var os_inU) (ev_op (ev_op ev_var ev_int os_ix) ev_int os_eq) os_ne)) ev_var) (ev_lst ea_nil) os_eq)) (es_drop (ev_app ev_var)) es_next))
    (es_seq (es_while (n := 100) (et_test (ev_op ev_var (ev_lst ea_nil) os_ne)) (es_seq (es_set (i := 6) (ev_lc (ei_any ev_var) eg_name (by decide) et_yes (ev_op ev_var ev_int os_ix)))
    (es_seq (es_set (i := 8) (ev_lc (ei_any ev_var) eg_name (by decide) (et_test (ev_op (ev_lc (ei_any (ev_op ev_var ev_int os_ix)) eg_name (by decide) (et_test (ev_op ev_var ev_var os_inU)) ev_var) (ev_lst ea_nil) os_eq)) ev_var))
    (es_seq (es_set (i := 3) (ev_op ev_var ev_var os_addU))
    (es_set (i := 2) (ev_if (et_test (ev_op ev_var (ev_lst ea_nil) os_ne)) (ev_lc (ei_any ev_var) eg_name (by decide) (et_test (ev_op ev_var ev_var os_notInU)) ev_var) (ev_lst ea_nil)))))))
    (es_ret ev_var)))) (by decide) h
theorem ok_law_is_tag (T : Tp K mg x) {k : Nat} : FnOk P w K mg base CX0 (k + 1) x.a_law_is_tag x.d_law_is_tag ["_law_matter"] (spF f_law_is_tag) := by
  refine T.F_law_is_tag.ok sc_law_is_tag (fun vs H Q E h => fnP_len h) (fun cdv A outer s H vs Q E hr h => ?_)
  have hr : Room (k + 0) _ := hr
  refine ⟨_, (pss_cons (ps_if (PW.pt (pw_or (pt_not (xTru K (pe_callB (xIsi K) rfl T.b_isinstance boot_isinstance (pa_cons (pv 0) (pa_cons (pe_bltn (v := .ty "str") rfl T.b_str boot_str rfl) pa_nil))) (fun _ => rfl))) (pw_or (pt_cmpR op_ltU (pe_callB (xLen K) rfl T.b_len boot_len (pa_cons (pv 0) pa_nil)) pe_int (nomark _)) (pw_or1 (pt_cmpR op_gt (pe_callB (xLen K) rfl T.b_len boot_len (pa_cons (pv 0) pa_nil)) pe_int (nomark _)))))) (pss_one (ps_ret pe_bl)) pss_nil)
    (pss_one (ps_ret (pe_cmpR (xEq K (r64 hr)) (pe_lc (own := [((Str.ofString "_law_sign"), 1)]) rfl sc_law_is_tag.nd (xiAny K (pv 0)) (blkOk_by (N := n_law_is_tag) (sc := (defScope s_law_is_tag)) (by decide +kernel)) (fun _ _ _ _ _ => (pg_name (i := 1) sc_law_is_tag.nd rfl (by first | exact Or.inl rfl | exact Or.inr rfl))) (fun _ _ _ _ _ => (pts_one (pt_cmpR (xNotIn K (r65 hr)) (pv 1) pe_str (by with_unfolding_all rfl)))) (fun _ _ _ _ _ => (pv 1))) (pe_lst pa_nil) (nomark _))))), ?_⟩
  exact fnP_ok (N := n_law_is_tag) (p := 1) (b := b_law_is_tag) (es_seq (es_if (et_or (et_not (et_tru (ev_isi plain_str ev_var))) (et_or (et_test (ev_op (ev_cb (ea_cons ev_var ea_nil) cs_lenU) ev_int os_ltU)) (et_test (ev_op (ev_cb (ea_cons ev_var ea_nil) cs_lenU) ev_int os_gt)))) (es_ret ev_bl) es_next)
    (es_ret (ev_op (ev_lc (ei_any ev_var) eg_name (by decide) (et_test (ev_op ev_var ev_str os_notInU)) ev_var) (ev_lst ea_nil) os_eq))) (by decide) h
theorem ok_law_rises (T : Tp K mg x) {k : Nat} : FnOk P w K mg base CX0 (k + 1) x.a_law_rises x.d_law_rises ["_law_lot"] (spF f_law_rises) := by
  refine T.F_law_rises.ok sc_law_rises (fun vs H Q E h => fnP_len h) (fun cdv A outer s H vs Q E hr h => ?_)
  have hr : Room (k + 0) _ := hr
  refine ⟨_, (pss_one (ps_ret (pe_cmpR (xEq K (r64 hr)) (pv 0) (pe_callB (xSortSS P w rfl (r64 hr)) rfl T.b_sorted boot_sorted (pa_cons (pe_callTy (xSet K P w rfl) rfl T.b_set boot_set (pa_cons (pv 0) pa_nil)) pa_nil)) (nomark _)))), ?_⟩
  exact fnP_ok (N := n_law_rises) (p := 1) (b := b_law_rises) (es_ret (ev_op ev_var (ev_sset (ea_cons ev_var ea_nil)) os_eq)) (by decide) h
theorem ok_law_are_pairs (T : Tp K mg x) {k : Nat} : FnOk P w K mg base CX0 (k + 1) x.a_law_are_pairs x.d_law_are_pairs ["_law_matter"] (spF f_law_are_pairs) := by
  refine T.F_law_are_pairs.ok sc_law_are_pairs (fun vs H Q E h => fnP_len h) (fun cdv A outer s H vs Q E hr h => ?_)
  have hr : Room (k + 0) _ := hr
  refine ⟨_, (pss_one (ps_ret (xAnd K (pe_callB (xIsi K) rfl T.b_isinstance boot_isinstance (pa_cons (pv 0) (pa_cons (pe_bltn (v := .ty "tuple") rfl T.b_tuple boot_tuple rfl) pa_nil))) (pe_one (pe_cmpR (xEq K (r64 hr)) (pe_lc (own := [((Str.ofString "_law_own"), 1)]) rfl sc_law_are_pairs.nd (xiAny K (pv 0)) (blkOk_by (N := n_law_are_pairs) (sc := (defScope s_law_are_pairs)) (by decide +kernel)) (fun _ _ _ _ _ => (pg_name (i := 1) sc_law_are_pairs.nd rfl (by first | exact Or.inl rfl | exact Or.inr rfl))) (fun _ _ _ _ _ => (pts_one (PW.pt (pw_or (pt_not (xTru K (pe_callB (xIsi K) rfl T.b_isinstance boot_isinstance (pa_cons (pv 1) (pa_cons (pe_bltn (v := .ty "tuple") rfl T.b_tuple boot_tuple rfl) pa_nil))) (fun _ => rfl))) (pw_or1 (pt_cmpR (xNe K (r64 hr)) (pe_callB (xLen K) rfl T.b_len boot_len (pa_cons (pv 1) pa_nil)) pe_int (nomark _))))))) (fun _ _ _ _ _ => (pv 1))) (pe_lst pa_nil) (nomark _)))))), ?_⟩
  exact fnP_ok (N := n_law_are_pairs) (p := 1) (b := b_law_are_pairs) (es_ret (ev_andT (ev_isi plain_tuple ev_var) (ev_op (ev_lc (ei_any ev_var) eg_name (by decide) (et_or (et_not (et_tru (ev_isi plain_tuple ev_var))) (et_test (ev_op (ev_cb (ea_cons ev_var ea_nil) cs_lenU) ev_int os_ne))) ev_var) (ev_lst ea_nil) os_eq))) (by decide) h
theorem ok_are_names (T : Tp K mg x) {k : Nat} : FnOk P w K mg base CX0 (k + 2) x.a_are_names x.d_are_names ["thing"] (spF f_are_names) := by
  refine T.F_are_names.ok sc_are_names (fun vs H Q E h => fnP_len h) (fun cdv A outer s H vs Q E hr h => ?_)
  have hr : Room (k + 1) _ := hr
  refine ⟨_, (pss_one (ps_ret (xAnd K (pe_callB (xIsi K) rfl T.b_isinstance boot_isinstance (pa_cons (pv 0) (pa_cons (pe_bltn (v := .ty "tuple") rfl T.b_tuple boot_tuple rfl) pa_nil))) (pe_one (pe_callB (xAll K rfl) rfl T.b_all boot_all (pa_cons (pe_lc (own := [((Str.ofString "part"), 1)]) rfl sc_are_names.nd (xiAny K (pv 0)) (blkOk_by (N := n_are_names) (sc := (defScope s_are_names)) (by decide +kernel)) (fun _ _ _ _ _ => (pg_name (i := 1) sc_are_names.nd rfl (by first | exact Or.inl rfl | exact Or.inr rfl))) (fun _ _ _ _ _ => pts_nil) (fun _ _ _ _ _ => (xCall (ok_is_name T (k := k)) T.g_is_name T.k_is_name T.B_is_name (pa_cons (pv 1) pa_nil) (hr.mono (by omega))))) pa_nil)))))), ?_⟩
  exact fnP_ok (N := n_are_names) (p := 1) (b := b_are_names) (es_ret (ev_andT (ev_isi plain_tuple ev_var) (ev_cb (ea_cons (ev_lc (ei_any ev_var) eg_name (by decide) et_yes (ev_call (fn := f_is_name) (ms := [true]) (ea_cons ev_var ea_nil))) ea_nil) cs_all))) (by decide) h
theorem ok_is_demand (T : Tp K mg x) {k : Nat} : FnOk P w K mg base CX0 (k + 2) x.a_is_demand x.d_is_demand ["thing"] (spF f_is_demand) := by
  refine T.F_is_demand.ok sc_is_demand (fun vs H Q E h => fnP_len h) (fun cdv A outer s H vs Q E hr h => ?_)
  have hr : Room (k + 1) _ := hr
  refine ⟨_, (pss_one (ps_ret (xAnd K (xCall (ok_is_tuple_of T (k := k)) T.g_is_tuple_of T.k_is_tuple_of T.B_is_tuple_of (pa_cons (pv 0) (pa_cons pe_int pa_nil)) (hr.mono (by omega))) (xAnd K (xCall (ok_is_name T (k := k)) T.g_is_name T.k_is_name T.B_is_name (pa_cons (pe_ix (xIx K) (pv 0) pe_int (fun _ _ => rfl)) pa_nil) (hr.mono (by omega))) (xAnd K (xCall (ok_is_number T (k := k)) T.g_is_number T.k_is_number T.B_is_number (pa_cons (pe_ix (xIx K) (pv 0) pe_int (fun _ _ => rfl)) pa_nil) (hr.mono (by omega))) (pe_one (pe_cmpR (xIn K (r65 hr)) (pe_ix (xIx K) (pv 0) pe_int (fun _ _ => rfl)) (pe_tup (pa_cons pe_int (pa_cons pe_int pa_nil))) (by with_unfolding_all rfl)))))))), ?_⟩
  exact fnP_ok (N := n_is_demand) (p := 1) (b := b_is_demand) (es_ret (ev_andT (ev_call (fn := f_is_tuple_of) (ms := [true, true]) (ea_cons ev_var (ea_cons ev_int ea_nil))) (ev_andT (ev_call (fn := f_is_name) (ms := [true]) (ea_cons (ev_op ev_var ev_int os_ix) ea_nil)) (ev_andT (ev_call (fn := f_is_number) (ms := [true]) (ea_cons (ev_op ev_var ev_int os_ix) ea_nil)) (ev_op (ev_op ev_var ev_int os_ix) (ev_tup (ea_cons ev_int (ea_cons ev_int ea_nil))) os_inU))))) (by decide) h
theorem ok_is_counts (T : Tp K mg x) {k : Nat} : FnOk P w K mg base CX0 (k + 2) x.a_is_counts x.d_is_counts ["thing"] (spF f_is_counts) := by
  refine T.F_is_counts.ok sc_is_counts (fun vs H Q E h => fnP_len h) (fun cdv A outer s H vs Q E hr h => ?_)
  have hr : Room (k + 1) _ := hr
  refine ⟨_, (pss_cons (ps_if (PW.pt (pw_or (pt_not (xTru K (pe_callB (xIsi K) rfl T.b_isinstance boot_isinstance (pa_cons (pv 0) (pa_cons (pe_bltn (v := .ty "tuple") rfl T.b_tuple boot_tuple rfl) pa_nil))) (fun _ => rfl))) (pw_or1 (pt_not (xTru K (pe_callB (xAll K rfl) rfl T.b_all boot_all (pa_cons (pe_lc (own := [((Str.ofString "pair"), 1)]) rfl sc_is_counts.nd (xiAny K (pv 0)) (blkOk_by (N := n_is_counts) (sc := (defScope s_is_counts)) (by decide +kernel)) (fun _ _ _ _ _ => (pg_name (i := 1) sc_is_counts.nd rfl (by first | exact Or.inl rfl | exact Or.inr rfl))) (fun _ _ _ _ _ => pts_nil) (fun _ _ _ _ _ => (xCall (ok_is_tuple_of T (k := k)) T.g_is_tuple_of T.k_is_tuple_of T.B_is_tuple_of (pa_cons (pv 1) (pa_cons pe_int pa_nil)) (hr.mono (by omega))))) pa_nil)) (fun _ => rfl)))))) (pss_one (ps_ret pe_bl)) pss_nil)
    (pss_cons (ps_if (pt_not (xTru K (pe_callB (xAll K rfl) rfl T.b_all boot_all (pa_cons (pe_lc (own := [((Str.ofString "sheet"), 2), ((Str.ofString "mark"), 3)]) rfl sc_is_counts.nd (xiAny K (pv 0)) (blkOk_by (N := n_is_counts) (sc := (defScope s_is_counts)) (by decide +kernel)) (fun _ _ _ _ _ => (xgTup K 2 rfl (pgs_cons (pg_name (i := 2) sc_is_counts.nd rfl (by first | exact Or.inl rfl | exact Or.inr rfl)) (pgs_cons (pg_name (i := 3) sc_is_counts.nd rfl (by first | exact Or.inl rfl | exact Or.inr rfl)) pgs_nil)))) (fun _ _ _ _ _ => pts_nil) (fun _ _ _ _ _ => (xAnd K (xCall (ok_is_name T (k := k)) T.g_is_name T.k_is_name T.B_is_name (pa_cons (pv 2) pa_nil) (hr.mono (by omega))) (pe_one (xCall (ok_is_name T (k := k)) T.g_is_name T.k_is_name T.B_is_name (pa_cons (pv 3) pa_nil) (hr.mono (by omega))))))) pa_nil)) (fun _ => rfl))) (pss_one (ps_ret pe_bl)) pss_nil)
    (pss_one (ps_ret (xCall (ok_is_ascending T (k := k)) T.g_is_ascending T.k_is_ascending T.B_is_ascending (pa_cons (pe_lc (own := [((Str.ofString "sheet"), 2), ((Str.ofString "_"), 4)]) rfl sc_is_counts.nd (xiAny K (pv 0)) (blkOk_by (N := n_is_counts) (sc := (defScope s_is_counts)) (by decide +kernel)) (fun _ _ _ _ _ => (xgTup K 2 rfl (pgs_cons (pg_name (i := 2) sc_is_counts.nd rfl (by first | exact Or.inl rfl | exact Or.inr rfl)) (pgs_cons (pg_name (i := 4) sc_is_counts.nd rfl (by first | exact Or.inl rfl | exact Or.inr rfl)) pgs_nil)))) (fun _ _ _ _ _ => pts_nil) (fun _ _ _ _ _ => (pv 2))) pa_nil) (hr.mono (by omega))))))), ?_⟩
  exact fnP_ok (N := n_is_counts) (p := 1) (b := b_is_counts) (es_seq (es_if (et_or (et_not (et_tru (ev_isi plain_tuple ev_var))) (et_not (et_tru (ev_cb (ea_cons (ev_lc (ei_any ev_var) eg_name (by decide) et_yes (ev_call (fn := f_is_tuple_of) (ms := [true, true]) (ea_cons ev_var (ea_cons ev_int ea_nil)))) ea_nil) cs_all)))) (es_ret ev_bl) es_next)
    (es_seq (es_if (et_not (et_tru (ev_cb (ea_cons (ev_lc (ei_any ev_var) (eg_tup (egs_cons eg_name (egs_cons eg_name egs_nil))) (by decide) et_yes (ev_andT (ev_call (fn := f_is_name) (ms := [true]) (ea_cons ev_var ea_nil)) (ev_call (fn := f_is_name) (ms := [true]) (ea_cons ev_var ea_nil)))) ea_nil) cs_all))) (es_ret ev_bl) es_next)
    (es_ret (ev_call (fn := f_is_ascending) (ms := [false]) (ea_cons (ev_lc (ei_any ev_var) (eg_tup (egs_cons eg_name (egs_cons eg_name egs_nil))) (by decide) et_yes ev_var) ea_nil))))) (by decide) h
theorem ok_law_of (T : Tp K mg x) {k : Nat} : FnOk P w K mg base CX0 (k + 2) x.a_law_of x.d_law_of ["_law_tin", "_law_lot"] (spF f_law_of) := by
  refine T.F_law_of.ok sc_law_of (fun vs H Q E h => fnP_len h) (fun cdv A outer s H vs Q E hr h => ?_)
  have hr : Room (k + 1) _ := hr
  refine ⟨_, (pss_one (ps_ret (pe_ix (xIx K) (pv 1) (xCall (ok_law_take T (k := k)) T.g_law_take T.k_law_take T.B_law_take (pa_cons (pv 0) (pa_cons (pe_callB (xLen K) rfl T.b_len boot_len (pa_cons (pv 1) pa_nil)) pa_nil)) (hr.mono (by omega))) (fun _ _ => rfl)))), ?_⟩
  exact fnP_ok (N := n_law_of) (p := 2) (b := b_law_of) (es_ret (ev_op ev_var (ev_call (fn := f_law_take) (ms := [true, true]) (ea_cons ev_var (ea_cons (ev_cb (ea_cons ev_var ea_nil) cs_lenU) ea_nil))) os_ix)) (by decide) h
theorem ok_law_pick (T : Tp K mg x) {k : Nat} : FnOk P w K mg base CX0 (k + 2) x.a_law_pick x.d_law_pick ["_law_tin", "_law_pool", "_law_size_so"] (spF f_law_pick) := by
  refine T.F_law_pick.ok sc_law_pick (fun vs H Q E h => fnP_len h) (fun cdv A outer s H vs Q E hr h => ?_)
  have hr : Room (k + 1) _ := hr
  refine ⟨_, (pss_cons (ps_par (i := 3) (j := 4) rfl sc_law_pick.nd rfl rfl (by decide) rfl rfl (pa_cons (pe_callTy (xList K rfl) rfl T.b_list boot_list (pa_cons (pv 1) pa_nil)) (pa_cons (pe_lst pa_nil) pa_nil)) rfl)
    (pss_cons (ps_for PassesOwn.never rfl (pi_range1 rfl T.b_range (pa_cons (pe_callB (call_min2 rfl) rfl T.b_min boot_min (pa_cons (pv 2) (pa_cons (pe_callB (xLen K) rfl T.b_len boot_len (pa_cons (pv 3) pa_nil)) pa_nil))) pa_nil)) (pg_name (i := 5) sc_law_pick.nd rfl (by first | exact Or.inl rfl | exact Or.inr rfl)) (pss_one (ps_expr (xApp K (pv 4) (pa_cons (xPop K (pv 3) (pa_cons (xCall (ok_law_take T (k := k)) T.g_law_take T.k_law_take T.B_law_take (pa_cons (pv 0) (pa_cons (pe_callB (xLen K) rfl T.b_len boot_len (pa_cons (pv 3) pa_nil)) pa_nil)) (hr.mono (by omega))) pa_nil)) pa_nil)))))
    (pss_one (ps_ret (pv 4))))), ?_⟩
  exact fnP_ok (N := n_law_pick) (p := 3) (b := b_law_pick) (es_seq (es_par (i := 3) (j := 4) (by decide) (ea_cons (ev_cb (ea_cons ev_var ea_nil) cs_listU) (ea_cons (ev_lst ea_nil) ea_nil)))
    (es_seq (es_for (ei_r1 (ev_cb (ea_cons ev_var (ea_cons (ev_cb (ea_cons ev_var ea_nil) cs_lenU) ea_nil)) cs_min2)) eg_name (es_drop (ev_app (ev_pop (ev_call (fn := f_law_take) (ms := [true, true]) (ea_cons ev_var (ea_cons (ev_cb (ea_cons ev_var ea_nil) cs_lenU) ea_nil)))))))
    (es_ret ev_var))) (by decide) h
theorem ok_law_is_on (T : Tp K mg x) {k : Nat} : FnOk P w K mg base CX0 (k + 2) x.a_law_is_on x.d_law_is_on ["_law_matter"] (spF f_law_is_on) := by
  refine T.F_law_is_on.ok sc_law_is_on (fun vs H Q E h => fnP_len h) (fun cdv A outer s H vs Q E hr h => ?_)
  have hr : Room (k + 1) _ := hr
  refine ⟨_, (pss_cons (ps_if (PW.pt (pw_or (pt_not (xTru K (xCall (ok_law_are_pairs T (k := k)) T.g_law_are_pairs T.k_law_are_pairs T.B_law_are_pairs (pa_cons (pv 0) pa_nil) (hr.mono (by omega))) (fun _ => rfl))) (pw_or1 (pt_cmpR (xNe K (r64 hr)) (pe_lc (own := [((Str.ofString "_law_own"), 1)]) rfl sc_law_is_on.nd (xiAny K (pv 0)) (blkOk_by (N := n_law_is_on) (sc := (defScope s_law_is_on)) (by decide +kernel)) (fun _ _ _ _ _ => (pg_name (i := 1) sc_law_is_on.nd rfl (by first | exact Or.inl rfl | exact Or.inr rfl))) (fun _ _ _ _ _ => (pts_one (pt_not (xTru K (xCall (ok_law_is_tag T (k := k)) T.g_law_is_tag T.k_law_is_tag T.B_law_is_tag (pa_cons (pe_ix (xIx K) (pv 1) pe_int (fun _ _ => rfl)) pa_nil) (hr.mono (by omega))) (fun _ => rfl))))) (fun _ _ _ _ _ => (pv 1))) (pe_lst pa_nil) (nomark _))))) (pss_one (ps_ret pe_bl)) pss_nil)
    (pss_cons (ps_setLc (i := 2) (own := [((Str.ofString "_law_own"), 1)]) rfl sc_law_is_on.nd rfl rfl (sw_true rfl rfl rfl (by decide +kernel)) (xiAny K (pv 0)) (blkOk_by (N := n_law_is_on) (sc := (defScope s_law_is_on)) (by decide +kernel)) (fun _ _ _ _ _ => (pg_name (i := 1) sc_law_is_on.nd rfl (by first | exact Or.inl rfl | exact Or.inr rfl))) (fun _ _ _ _ _ => (pts_one (PW.pt (pw_or (pt_not (xTru K (pe_callB (xIsi K) rfl T.b_isinstance boot_isinstance (pa_cons (pe_ix (xIx K) (pv 1) pe_int (fun _ _ => rfl)) (pa_cons (pe_bltn (v := .ty "int") rfl T.b_int boot_int rfl) pa_nil))) (fun _ => rfl))) (pw_or1 (xTru K (pe_callB (xIsi K) rfl T.b_isinstance boot_isinstance (pa_cons (pe_ix (xIx K) (pv 1) pe_int (fun _ _ => rfl)) (pa_cons (pe_bltn (v := .ty "bool") rfl T.b_bool boot_bool rfl) pa_nil))) (fun _ => rfl))))))) (fun _ _ _ _ _ => (pe_ix (xIx K) (pv 1) pe_int (fun _ _ => rfl))))
    (pss_cons (ps_setLc (i := 3) (own := [((Str.ofString "_law_own"), 1)]) rfl sc_law_is_on.nd rfl rfl (sw_true rfl rfl rfl (by decide +kernel)) (xiAny K (pv 0)) (blkOk_by (N := n_law_is_on) (sc := (defScope s_law_is_on)) (by decide +kernel)) (fun _ _ _ _ _ => (pg_name (i := 1) sc_law_is_on.nd rfl (by first | exact Or.inl rfl | exact Or.inr rfl))) (fun _ _ _ _ _ => (pts_one (pt_cmpR (xNotIn K (r65 hr)) (pe_ix (xIx K) (pv 1) pe_int (fun _ _ => rfl)) (pe_tup (pa_cons pe_int (pa_cons pe_int pa_nil))) (by with_unfolding_all rfl)))) (fun _ _ _ _ _ => (pe_ix (xIx K) (pv 1) pe_int (fun _ _ => rfl))))
    (pss_one (ps_ret (xAnd K (pe_cmpR (xEq K (r64 hr)) (pv 2) (pe_lst pa_nil) (nomark _)) (xAnd K (pe_cmpR (xEq K (r64 hr)) (pv 3) (pe_lst pa_nil) (nomark _)) (pe_one (xCall (ok_law_rises T (k := k)) T.g_law_rises T.k_law_rises T.B_law_rises (pa_cons (pe_lc (own := [((Str.ofString "_law_own"), 1)]) rfl sc_law_is_on.nd (xiAny K (pv 0)) (blkOk_by (N := n_law_is_on) (sc := (defScope s_law_is_on)) (by decide +kernel)) (fun _ _ _ _ _ => (pg_name (i := 1) sc_law_is_on.nd rfl (by first | exact Or.inl rfl | exact Or.inr rfl))) (fun _ _ _ _ _ => pts_nil) (fun _ _ _ _ _ => (pe_ix (xIx K) (pv 1) pe_int (fun _ _ => rfl)))) pa_nil) (hr.mono (by omega))))))))))), ?_⟩
  exact fnP_ok (N := n_law_is_on) (p := 1) (b := b_law_is_on) (es_seq (es_if (et_or (et_not (et_tru (ev_call (fn := f_law_are_pairs) (ms := [false]) (ea_cons ev_var ea_nil)))) (et_test (ev_op (ev_lc (ei_any ev_var) eg_name (by decide) (et_not (et_tru (ev_call (fn := f_law_is_tag) (ms := [false]) (ea_cons (ev_op ev_var ev_int os_ix) ea_nil)))) ev_var) (ev_lst ea_nil) os_ne))) (es_ret ev_bl) es_next)
    (es_seq (es_set (i := 2) (ev_lc (ei_any ev_var) eg_name (by decide) (et_or (et_not (et_tru (ev_isi plain_int (ev_op ev_var ev_int os_ix)))) (et_tru (ev_isi plain_bool (ev_op ev_var ev_int os_ix)))) (ev_op ev_var ev_int os_ix)))
    (es_seq (es_set (i := 3) (ev_lc (ei_any ev_var) eg_name (by decide) (et_test (ev_op (ev_op ev_var ev_int os_ix) (ev_tup (ea_cons ev_int (ea_cons ev_int ea_nil))) os_notInU)) (ev_op ev_var ev_int os_ix)))
    (es_ret (ev_andT (ev_op ev_var (ev_lst ea_nil) os_eq) (ev_andT (ev_op ev_var (ev_lst ea_nil) os_eq) (ev_call (fn := f_law_rises) (ms := [false]) (ea_cons (ev_lc (ei_any ev_var) eg_name (by decide) et_yes (ev_op ev_var ev_int os_ix)) ea_nil)))))))) (by decide) h
theorem ok_law_is_stock (T : Tp K mg x) {k : Nat} : FnOk P w K mg base CX0 (k + 2) x.a_law_is_stock x.d_law_is_stock ["_law_matter"] (spF f_law_is_stock) := by
  refine T.F_law_is_stock.ok sc_law_is_stock (fun vs H Q E h => fnP_len h) (fun cdv A outer s H vs Q E hr h => ?_)
  have hr : Room (k + 1) _ := hr
  refine ⟨_, (pss_cons (ps_if (pt_not (xTru K (xCall (ok_law_are_pairs T (k := k)) T.g_law_are_pairs T.k_law_are_pairs T.B_law_are_pairs (pa_cons (pv 0) pa_nil) (hr.mono (by omega))) (fun _ => rfl))) (pss_one (ps_ret pe_bl)) pss_nil)
    (pss_cons (ps_if (pt_cmpR (xNe K (r64 hr)) (pe_lc (own := [((Str.ofString "_law_own"), 1)]) rfl sc_law_is_stock.nd (xiAny K (pv 0)) (blkOk_by (N := n_law_is_stock) (sc := (defScope s_law_is_stock)) (by decide +kernel)) (fun _ _ _ _ _ => (pg_name (i := 1) sc_law_is_stock.nd rfl (by first | exact Or.inl rfl | exact Or.inr rfl))) (fun _ _ _ _ _ => (pts_one (PW.pt (pw_or (pt_not (xTru K (xCall (ok_law_is_tag T (k := k)) T.g_law_is_tag T.k_law_is_tag T.B_law_is_tag (pa_cons (pe_ix (xIx K) (pv 1) pe_int (fun _ _ => rfl)) pa_nil) (hr.mono (by omega))) (fun _ => rfl))) (pw_or1 (pt_not (xTru K (xCall (ok_law_is_tag T (k := k)) T.g_law_is_tag T.k_law_is_tag T.B_law_is_tag (pa_cons (pe_ix (xIx K) (pv 1) pe_int (fun _ _ => rfl)) pa_nil) (hr.mono (by omega))) (fun _ => rfl)))))))) (fun _ _ _ _ _ => (pv 1))) (pe_lst pa_nil) (nomark _)) (pss_one (ps_ret pe_bl)) pss_nil)
    (pss_one (ps_ret (xCall (ok_law_rises T (k := k)) T.g_law_rises T.k_law_rises T.B_law_rises (pa_cons (pe_lc (own := [((Str.ofString "_law_own"), 1)]) rfl sc_law_is_stock.nd (xiAny K (pv 0)) (blkOk_by (N := n_law_is_stock) (sc := (defScope s_law_is_stock)) (by decide +kernel)) (fun _ _ _ _ _ => (pg_name (i := 1) sc_law_is_stock.nd rfl (by first | exact Or.inl rfl | exact Or.inr rfl))) (fun _ _ _ _ _ => pts_nil) (fun _ _ _ _ _ => (pe_ix (xIx K) (pv 1) pe_int (fun _ _ => rfl)))) pa_nil) (hr.mono (by omega))))))), ?_⟩
  exact fnP_ok (N := n_law_is_stock) (p := 1) (b := b_law_is_stock) (es_seq (es_if (et_not (et_tru (ev_call (fn := f_law_are_pairs) (ms := [false]) (ea_cons ev_var ea_nil)))) (es_ret ev_bl) es_next)
    (es_seq (es_if (et_test (ev_op (ev_lc (ei_any ev_var) eg_name (by decide) (et_or (et_not (et_tru (ev_call (fn := f_law_is_tag) (ms := [false]) (ea_cons (ev_op ev_var ev_int os_ix) ea_nil)))) (et_not (et_tru (ev_call (fn := f_law_is_tag) (ms := [false]) (ea_cons (ev_op ev_var ev_int os_ix) ea_nil))))) ev_var) (ev_lst ea_nil) os_ne)) (es_ret ev_bl) es_next)
    (es_ret (ev_call (fn := f_law_rises) (ms := [false]) (ea_cons (ev_lc (ei_any ev_var) eg_name (by decide) et_yes (ev_op ev_var ev_int os_ix)) ea_nil))))) (by decide) h
theorem ok_is_condition (T : Tp K mg x) {k : Nat} : FnOk P w K mg base CX0 (k + 3) x.a_is_condition x.d_is_condition ["thing"] (spF f_is_condition) := by
  refine T.F_is_condition.ok sc_is_condition (fun vs H Q E h => fnP_len h) (fun cdv A outer s H vs Q E hr h => ?_)
  have hr : Room (k + 2) _ := hr
  refine ⟨_, (pss_cons (ps_if (PW.pt (pw_or (pt_not (xTru K (pe_callB (xIsi K) rfl T.b_isinstance boot_isinstance (pa_cons (pv 0) (pa_cons (pe_bltn (v := .ty "tuple") rfl T.b_tuple boot_tuple rfl) pa_nil))) (fun _ => rfl))) (pw_or1 (pt_not (xTru K (pe_callB (xAll K rfl) rfl T.b_all boot_all (pa_cons (pe_lc (own := [((Str.ofString "pair"), 1)]) rfl sc_is_condition.nd (xiAny K (pv 0)) (blkOk_by (N := n_is_condition) (sc := (defScope s_is_condition)) (by decide +kernel)) (fun _ _ _ _ _ => (pg_name (i := 1) sc_is_condition.nd rfl (by first | exact Or.inl rfl | exact Or.inr rfl))) (fun _ _ _ _ _ => pts_nil) (fun _ _ _ _ _ => (xCall (ok_is_demand T (k := k)) T.g_is_demand T.k_is_demand T.B_is_demand (pa_cons (pv 1) pa_nil) (hr.mono (by omega))))) pa_nil)) (fun _ => rfl)))))) (pss_one (ps_ret pe_bl)) pss_nil)
    (pss_one (ps_ret (xCall (ok_is_ascending T (k := k)) T.g_is_ascending T.k_is_ascending T.B_is_ascending (pa_cons (pe_lc (own := [((Str.ofString "pair"), 1)]) rfl sc_is_condition.nd (xiAny K (pv 0)) (blkOk_by (N := n_is_condition) (sc := (defScope s_is_condition)) (by decide +kernel)) (fun _ _ _ _ _ => (pg_name (i := 1) sc_is_condition.nd rfl (by first | exact Or.inl rfl | exact Or.inr rfl))) (fun _ _ _ _ _ => pts_nil) (fun _ _ _ _ _ => (pe_ix (xIx K) (pv 1) pe_int (fun _ _ => rfl)))) pa_nil) (hr.mono (by omega)))))), ?_⟩
  exact fnP_ok (N := n_is_condition) (p := 1) (b := b_is_condition) (es_seq (es_if (et_or (et_not (et_tru (ev_isi plain_tuple ev_var))) (et_not (et_tru (ev_cb (ea_cons (ev_lc (ei_any ev_var) eg_name (by decide) et_yes (ev_call (fn := f_is_demand) (ms := [true]) (ea_cons ev_var ea_nil))) ea_nil) cs_all)))) (es_ret ev_bl) es_next)
    (es_ret (ev_call (fn := f_is_ascending) (ms := [false]) (ea_cons (ev_lc (ei_any ev_var) eg_name (by decide) et_yes (ev_op ev_var ev_int os_ix)) ea_nil)))) (by decide) h
theorem ok_law_form (T : Tp K mg x) {k : Nat} : FnOk P w K mg base CX0 (k + 3) x.a_law_form x.d_law_form ["_law_tin", "_law_many", "_law_flags_so"] (spF f_law_form) := by
  refine T.F_law_form.ok sc_law_form (fun vs H Q E h => fnP_len h) (fun cdv A outer s H vs Q E hr h => ?_)
  have hr : Room (k + 2) _ := hr
  refine ⟨_, (pss_cons (ps_asg (pe_tup (pa_cons (pe_lst (pa_cons pe_str (pa_cons pe_str (pa_cons pe_str pa_nil)))) (pa_cons (pe_lst pa_nil) pa_nil))) (xgTup K 2 rfl (pgs_cons (pg_name (i := 3) sc_law_form.nd rfl (by first | exact Or.inl rfl | exact Or.inr rfl)) (pgs_cons (pg_name (i := 4) sc_law_form.nd rfl (by first | exact Or.inl rfl | exact Or.inr rfl)) pgs_nil))))
    (pss_cons (ps_par (i := 5) (j := 6) rfl sc_law_form.nd rfl rfl (by decide) rfl rfl (pa_cons (xCall (ok_law_pick T (k := k)) T.g_law_pick T.k_law_pick T.B_law_pick (pa_cons (pv 0) (pa_cons (pe_callTy (xList K rfl) rfl T.b_list boot_list (pa_cons pe_str pa_nil)) (pa_cons (pv 1) pa_nil))) (hr.mono (by omega))) (pa_cons (xCall (ok_law_pick T (k := k)) T.g_law_pick T.k_law_pick T.B_law_pick (pa_cons (pv 0) (pa_cons (pe_callTy (xList K rfl) rfl T.b_list boot_list (pa_cons pe_str pa_nil)) (pa_cons (pv 1) pa_nil))) (hr.mono (by omega))) pa_nil)) rfl)
    (pss_cons (ps_for PassesOwn.never rfl (pi_range1 rfl T.b_range (pa_cons (pe_op (xAdd K) pe_int (xCall (ok_law_take T (k := k)) T.g_law_take T.k_law_take T.B_law_take (pa_cons (pv 0) (pa_cons (pv 1) pa_nil)) (hr.mono (by omega)))) pa_nil)) (pg_name (i := 7) sc_law_form.nd rfl (by first | exact Or.inl rfl | exact Or.inr rfl)) (pss_cons (ps_par (i := 8) (j := 9) rfl sc_law_form.nd rfl rfl (by decide) rfl rfl (pa_cons (pe_op (xAdd K) pe_str (pe_ix (xIx K) (pv 5) (pv 7) (fun _ _ => rfl))) (pa_cons (pe_ix (xIx K) (pv 6) (pv 7) (fun _ _ => rfl)) pa_nil)) rfl)
    (pss_cons (ps_set (i := 10) sc_law_form.nd rfl (by first | exact Or.inl rfl | exact Or.inr rfl) (pe_callTy (xTup K rfl) rfl T.b_tuple boot_tuple (pa_cons (pe_lc (own := [((Str.ofString "_law_lap"), 11)]) rfl sc_law_form.nd (pi_range1 rfl T.b_range (pa_cons (xCall (ok_law_take T (k := k)) T.g_law_take T.k_law_take T.B_law_take (pa_cons (pv 0) (pa_cons pe_int pa_nil)) (hr.mono (by omega))) pa_nil)) (blkOk_by (N := n_law_form) (sc := (defScope s_law_form)) (by decide +kernel)) (fun _ _ _ _ _ => (pg_name (i := 11) sc_law_form.nd rfl (by first | exact Or.inl rfl | exact Or.inr rfl))) (fun _ _ _ _ _ => pts_nil) (fun _ _ _ _ _ => (xCall (ok_law_of T (k := k)) T.g_law_of T.k_law_of T.B_law_of (pa_cons (pv 0) (pa_cons (pv 3) pa_nil)) (hr.mono (by omega))))) pa_nil)))
    (pss_cons (ps_par (i := 12) (j := 13) rfl sc_law_form.nd rfl rfl (by decide) rfl rfl (pa_cons (xCall (ok_law_of T (k := k)) T.g_law_of T.k_law_of T.B_law_of (pa_cons (pv 0) (pa_cons (pe_lst (pa_cons pe_str (pa_cons pe_str (pa_cons pe_str pa_nil)))) pa_nil)) (hr.mono (by omega))) (pa_cons (pe_ifExp (pt_cmpR (xNe K (r64 hr)) (pv 2) (pe_tup pa_nil) (nomark _)) (xCall (ok_law_take T (k := k)) T.g_law_take T.k_law_take T.B_law_take (pa_cons (pv 0) (pa_cons pe_int pa_nil)) (hr.mono (by omega))) pe_int) pa_nil)) rfl)
    (pss_one (ps_if (PW.pt (pw_and (pt_cmpR (xEq K (r64 hr)) (pv 13) pe_int (nomark _)) (pw_and1 (pt_cmpR op_ltU (pe_callB (xLen K) rfl T.b_len boot_len (pa_cons (pv 4) pa_nil)) (pe_op op_sub (pv 1) pe_int) (nomark _))))) (pss_cons (ps_set (i := 14) sc_law_form.nd rfl (by first | exact Or.inl rfl | exact Or.inr rfl) (xCall (ok_law_of T (k := k)) T.g_law_of T.k_law_of T.B_law_of (pa_cons (pv 0) (pa_cons (pv 2) pa_nil)) (hr.mono (by omega))))
    (pss_cons (ps_set (i := 15) sc_law_form.nd rfl (by first | exact Or.inl rfl | exact Or.inr rfl) (pe_callTy (xTup K rfl) rfl T.b_tuple boot_tuple (pa_cons (pe_lc (own := [((Str.ofString "_law_lap"), 11)]) rfl sc_law_form.nd (pi_range1 rfl T.b_range (pa_cons (xCall (ok_law_take T (k := k)) T.g_law_take T.k_law_take T.B_law_take (pa_cons (pv 0) (pa_cons pe_int pa_nil)) (hr.mono (by omega))) pa_nil)) (blkOk_by (N := n_law_form) (sc := (defScope s_law_form)) (by decide +kernel)) (fun _ _ _ _ _ => (pg_name (i := 11) sc_law_form.nd rfl (by first | exact Or.inl rfl | exact Or.inr rfl))) (fun _ _ _ _ _ => pts_nil) (fun _ _ _ _ _ => (xCall (ok_law_of T (k := k)) T.g_law_of T.k_law_of T.B_law_of (pa_cons (pv 0) (pa_cons (pv 3) pa_nil)) (hr.mono (by omega))))) pa_nil)))
    (pss_cons (ps_expr (xApp K (pv 4) (pa_cons (pe_tup (pa_cons (pe_op (xAdd K) pe_str (pv 9)) (pa_cons (pv 12) (pa_cons (pv 10) (pa_cons (pv 8) (pa_cons (pe_tup (pa_cons (pe_tup (pa_cons (pv 14) (pa_cons pe_int pa_nil))) pa_nil)) pa_nil)))))) pa_nil)))
    (pss_cons (ps_expr (xApp K (pv 4) (pa_cons (pe_tup (pa_cons (pe_op (xAdd K) pe_str (pv 9)) (pa_cons (xCall (ok_law_of T (k := k)) T.g_law_of T.k_law_of T.B_law_of (pa_cons (pv 0) (pa_cons (pe_lst (pa_cons pe_str (pa_cons pe_str pa_nil))) pa_nil)) (hr.mono (by omega))) (pa_cons (pv 15) (pa_cons (pv 8) (pa_cons (pe_tup (pa_cons (pe_tup (pa_cons (pv 14) (pa_cons pe_int pa_nil))) pa_nil)) pa_nil)))))) pa_nil)))
    (pss_one (ps_expr (xApp K (pv 3) (pa_cons (pv 8) pa_nil)))))))) (pss_one (ps_if (pt_cmpR op_ltU (pe_callB (xLen K) rfl T.b_len boot_len (pa_cons (pv 4) pa_nil)) (pv 1) (nomark _)) (pss_cons (ps_set (i := 16) sc_law_form.nd rfl (by first | exact Or.inl rfl | exact Or.inr rfl) (pe_ifExp (pt_cmpR (xEq K (r64 hr)) (pv 13) pe_int (nomark _)) (pe_tup (pa_cons (pe_tup (pa_cons (xCall (ok_law_of T (k := k)) T.g_law_of T.k_law_of T.B_law_of (pa_cons (pv 0) (pa_cons (pv 2) pa_nil)) (hr.mono (by omega))) (pa_cons (xCall (ok_law_take T (k := k)) T.g_law_take T.k_law_take T.B_law_take (pa_cons (pv 0) (pa_cons pe_int pa_nil)) (hr.mono (by omega))) pa_nil))) pa_nil)) (pe_tup pa_nil)))
    (pss_cons (ps_expr (xApp K (pv 4) (pa_cons (pe_tup (pa_cons (pe_op (xAdd K) pe_str (pv 9)) (pa_cons (pv 12) (pa_cons (pv 10) (pa_cons (pv 8) (pa_cons (pv 16) pa_nil)))))) pa_nil)))
    (pss_one (ps_expr (xApp K (pv 3) (pa_cons (pv 8) pa_nil)))))) pss_nil))))))))
    (pss_one (ps_ret (pe_callTy (xTup K rfl) rfl T.b_tuple boot_tuple (pa_cons (pe_callB (xSorted K (r64 hr)) rfl T.b_sorted boot_sorted (pa_cons (pv 4) pa_nil)) pa_nil))))))), ?_⟩
  exact fnP_ok (N := n_law_form) (p := 3) (b := b_law_form) (es_seq (es_parT (i := 3) (j := 4) (ea_cons (ev_lst (ea_cons ev_str (ea_cons ev_str (ea_cons ev_str ea_nil)))) (ea_cons (ev_lst ea_nil) ea_nil)))
    (es_seq (es_par (i := 5) (j := 6) (by decide) (ea_cons (ev_call (fn := f_law_pick) (ms := [true, true, false]) (ea_cons ev_var (ea_cons (ev_cb (ea_cons ev_str ea_nil) cs_listU) (ea_cons ev_var ea_nil)))) (ea_cons (ev_call (fn := f_law_pick) (ms := [true, true, false]) (ea_cons ev_var (ea_cons (ev_cb (ea_cons ev_str ea_nil) cs_listU) (ea_cons ev_var ea_nil)))) ea_nil)))
    (es_seq (es_for (ei_r1 (ev_op ev_int (ev_call (fn := f_law_take) (ms := [true, true]) (ea_cons ev_var (ea_cons ev_var ea_nil))) os_addU)) eg_name (es_seq (es_par (i := 8) (j := 9) (by decide) (ea_cons (ev_op ev_str (ev_op ev_var ev_var os_ix) os_addU) (ea_cons (ev_op ev_var ev_var os_ix) ea_nil)))
    (es_seq (es_set (i := 10) (ev_cb (ea_cons (ev_lc (ei_r1 (ev_call (fn := f_law_take) (ms := [true, true]) (ea_cons ev_var (ea_cons ev_int ea_nil)))) eg_name (by decide) et_yes (ev_call (fn := f_law_of) (ms := [true, true]) (ea_cons ev_var (ea_cons ev_var ea_nil)))) ea_nil) cs_tupU))
    (es_seq (es_par (i := 12) (j := 13) (by decide) (ea_cons (ev_call (fn := f_law_of) (ms := [true, true]) (ea_cons ev_var (ea_cons (ev_lst (ea_cons ev_str (ea_cons ev_str (ea_cons ev_str ea_nil)))) ea_nil))) (ea_cons (ev_if (et_test (ev_op ev_var (ev_tup ea_nil) os_ne)) (ev_call (fn := f_law_take) (ms := [true, true]) (ea_cons ev_var (ea_cons ev_int ea_nil))) ev_int) ea_nil)))
    (es_if (et_and (et_test (ev_op ev_var ev_int os_eq)) (et_test (ev_op (ev_cb (ea_cons ev_var ea_nil) cs_lenU) (ev_op ev_var ev_int os_sub) os_ltU))) (es_seq (es_set (i := 14) (ev_call (fn := f_law_of) (ms := [true, true]) (ea_cons ev_var (ea_cons ev_var ea_nil))))
    (es_seq (es_set (i := 15) (ev_cb (ea_cons (ev_lc (ei_r1 (ev_call (fn := f_law_take) (ms := [true, true]) (ea_cons ev_var (ea_cons ev_int ea_nil)))) eg_name (by decide) et_yes (ev_call (fn := f_law_of) (ms := [true, true]) (ea_cons ev_var (ea_cons ev_var ea_nil)))) ea_nil) cs_tupU))
    (es_seq (es_drop (ev_app (ev_tup (ea_cons (ev_op ev_str ev_var os_addU) (ea_cons ev_var (ea_cons ev_var (ea_cons ev_var (ea_cons (ev_tup (ea_cons (ev_tup (ea_cons ev_var (ea_cons ev_int ea_nil))) ea_nil)) ea_nil))))))))
    (es_seq (es_drop (ev_app (ev_tup (ea_cons (ev_op ev_str ev_var os_addU) (ea_cons (ev_call (fn := f_law_of) (ms := [true, true]) (ea_cons ev_var (ea_cons (ev_lst (ea_cons ev_str (ea_cons ev_str ea_nil))) ea_nil))) (ea_cons ev_var (ea_cons ev_var (ea_cons (ev_tup (ea_cons (ev_tup (ea_cons ev_var (ea_cons ev_int ea_nil))) ea_nil)) ea_nil))))))))
    (es_drop (ev_app ev_var)))))) (es_if (et_test (ev_op (ev_cb (ea_cons ev_var ea_nil) cs_lenU) ev_var os_ltU)) (es_seq (es_set (i := 16) (ev_if (et_test (ev_op ev_var ev_int os_eq)) (ev_tup (ea_cons (ev_tup (ea_cons (ev_call (fn := f_law_of) (ms := [true, true]) (ea_cons ev_var (ea_cons ev_var ea_nil))) (ea_cons (ev_call (fn := f_law_take) (ms := [true, true]) (ea_cons ev_var (ea_cons ev_int ea_nil))) ea_nil))) ea_nil)) (ev_tup ea_nil)))
    (es_seq (es_drop (ev_app (ev_tup (ea_cons (ev_op ev_str ev_var os_addU) (ea_cons ev_var (ea_cons ev_var (ea_cons ev_var (ea_cons ev_var ea_nil))))))))
    (es_drop (ev_app ev_var)))) es_next))))))
    (es_ret (ev_cb (ea_cons (ev_cb (ea_cons ev_var ea_nil) cs_sorted) ea_nil) cs_tupU))))) (by decide) h
theorem ok_law_stock (T : Tp K mg x) {k : Nat} : FnOk P w K mg base CX0 (k + 3) x.a_law_stock x.d_law_stock ["_law_tin", "_law_form_here", "_law_flags_so", "_law_marks"] (spF f_law_stock) := by
  refine T.F_law_stock.ok sc_law_stock (fun vs H Q E h => fnP_len h) (fun cdv A outer s H vs Q E hr h => ?_)
  have hr : Room (k + 2) _ := hr
  refine ⟨_, (pss_cons (ps_set (i := 4) sc_law_stock.nd rfl (by first | exact Or.inl rfl | exact Or.inr rfl) (pe_lc (own := [((Str.ofString "_law_own"), 5)]) rfl sc_law_stock.nd (xiAny K (xCall (ok_law_on T (k := k)) T.g_law_on T.k_law_on T.B_law_on (pa_cons (pv 1) (pa_cons (pv 2) pa_nil)) (hr.mono (by omega)))) (blkOk_by (N := n_law_stock) (sc := (defScope s_law_stock)) (by decide +kernel)) (fun _ _ _ _ _ => (pg_name (i := 5) sc_law_stock.nd rfl (by first | exact Or.inl rfl | exact Or.inr rfl))) (fun _ _ _ _ _ => pts_nil) (fun _ _ _ _ _ => (pe_ix (xIx K) (pv 5) pe_int (fun _ _ => rfl)))))
    (pss_cons (ps_set (i := 6) sc_law_stock.nd rfl (by first | exact Or.inl rfl | exact Or.inr rfl) (pe_lst pa_nil))
    (pss_cons (ps_for PassesOwn.never rfl (xiAny K (xCall (ok_law_on T (k := k)) T.g_law_on T.k_law_on T.B_law_on (pa_cons (pv 1) (pa_cons (pv 2) pa_nil)) (hr.mono (by omega)))) (pg_name (i := 5) sc_law_stock.nd rfl (by first | exact Or.inl rfl | exact Or.inr rfl)) (pss_one (ps_set (i := 6) sc_law_stock.nd rfl (by first | exact Or.inl rfl | exact Or.inr rfl) (pe_op (xAdd K) (pv 6) (pe_lc (own := [((Str.ofString "_law_page"), 7)]) rfl sc_law_stock.nd (xiAny K (pe_ix (xIx K) (pv 5) pe_int (fun _ _ => rfl))) (blkOk_by (N := n_law_stock) (sc := (defScope s_law_stock)) (by decide +kernel)) (fun _ _ _ _ _ => (pg_name (i := 7) sc_law_stock.nd rfl (by first | exact Or.inl rfl | exact Or.inr rfl))) (fun _ _ _ _ _ => (pts_one (pt_cmpR (xNotIn K (r65 hr)) (pv 7) (pv 4) (by with_unfolding_all rfl)))) (fun _ _ _ _ _ => (pv 7)))))))
    (pss_cons (ps_setLc (i := 8) (own := [((Str.ofString "_law_page"), 7)]) rfl sc_law_stock.nd rfl rfl (sw_true rfl rfl rfl (by decide +kernel)) (xiAny K (pv 4)) (blkOk_by (N := n_law_stock) (sc := (defScope s_law_stock)) (by decide +kernel)) (fun _ _ _ _ _ => (pg_name (i := 7) sc_law_stock.nd rfl (by first | exact Or.inl rfl | exact Or.inr rfl))) (fun _ _ _ _ _ => (pts_one (pt_cmpR (xEq K (r64 hr)) (xCall (ok_law_take T (k := k)) T.g_law_take T.k_law_take T.B_law_take (pa_cons (pv 0) (pa_cons pe_int pa_nil)) (hr.mono (by omega))) pe_int (nomark _)))) (fun _ _ _ _ _ => (pv 7)))
    (pss_one (ps_ret (pe_callTy (xTup K rfl) rfl T.b_tuple boot_tuple (pa_cons (pe_lc (own := [((Str.ofString "_law_page"), 7)]) rfl sc_law_stock.nd (xiAny K (pe_callB (xSortSS P w rfl (r64 hr)) rfl T.b_sorted boot_sorted (pa_cons (pe_callTy (xSet K P w rfl) rfl T.b_set boot_set (pa_cons (pe_op (xAdd K) (pv 6) (pv 8)) pa_nil)) pa_nil))) (blkOk_by (N := n_law_stock) (sc := (defScope s_law_stock)) (by decide +kernel)) (fun _ _ _ _ _ => (pg_name (i := 7) sc_law_stock.nd rfl (by first | exact Or.inl rfl | exact Or.inr rfl))) (fun _ _ _ _ _ => pts_nil) (fun _ _ _ _ _ => (pe_tup (pa_cons (pv 7) (pa_cons (xCall (ok_law_of T (k := k)) T.g_law_of T.k_law_of T.B_law_of (pa_cons (pv 0) (pa_cons (pv 3) pa_nil)) (hr.mono (by omega))) pa_nil))))) pa_nil)))))))), ?_⟩
  exact fnP_ok (N := n_law_stock) (p := 4) (b := b_law_stock) (es_seq (es_set (i := 4) (ev_lc (ei_any (ev_call (fn := f_law_on) (ms := [false, true]) (ea_cons ev_var (ea_cons ev_var ea_nil)))) eg_name (by decide) et_yes (ev_op ev_var ev_int os_ix)))
    (es_seq (es_set (i := 6) (ev_lst ea_nil))
    (es_seq (es_for (ei_any (ev_call (fn := f_law_on) (ms := [false, true]) (ea_cons ev_var (ea_cons ev_var ea_nil)))) eg_name (es_set (i := 6) (ev_op ev_var (ev_lc (ei_any (ev_op ev_var ev_int os_ix)) eg_name (by decide) (et_test (ev_op ev_var ev_var os_notInU)) ev_var) os_addU)))
    (es_seq (es_set (i := 8) (ev_lc (ei_any ev_var) eg_name (by decide) (et_test (ev_op (ev_call (fn := f_law_take) (ms := [true, true]) (ea_cons ev_var (ea_cons ev_int ea_nil))) ev_int os_eq)) ev_var))
    (es_ret (ev_cb (ea_cons (ev_lc (ei_any (ev_sset (ea_cons (ev_op ev_var ev_var os_addU) ea_nil))) eg_name (by decide) et_yes (ev_tup (ea_cons ev_var (ea_cons (ev_call (fn := f_law_of) (ms := [true, true]) (ea_cons ev_var (ea_cons ev_var ea_nil))) ea_nil)))) ea_nil) cs_tupU)))))) (by decide) h
theorem ok_law_is_bit (T : Tp K mg x) {k : Nat} : FnOk P w K mg base CX0 (k + 3) x.a_law_is_bit x.d_law_is_bit ["_law_matter"] (spF f_law_is_bit) := by
  refine T.F_law_is_bit.ok sc_law_is_bit (fun vs H Q E h => fnP_len h) (fun cdv A outer s H vs Q E hr h => ?_)
  have hr : Room (k + 2) _ := hr
  refine ⟨_, (pss_cons (ps_if (PW.pt (pw_or (pt_not (xTru K (pe_callB (xIsi K) rfl T.b_isinstance boot_isinstance (pa_cons (pv 0) (pa_cons (pe_bltn (v := .ty "tuple") rfl T.b_tuple boot_tuple rfl) pa_nil))) (fun _ => rfl))) (pw_or (pt_cmpR (xNe K (r64 hr)) (pe_callB (xLen K) rfl T.b_len boot_len (pa_cons (pv 0) pa_nil)) pe_int (nomark _)) (pw_or1 (pt_not (xTru K (pe_callB (xIsi K) rfl T.b_isinstance boot_isinstance (pa_cons (pe_ix (xIx K) (pv 0) pe_int (fun _ _ => rfl)) (pa_cons (pe_bltn (v := .ty "tuple") rfl T.b_tuple boot_tuple rfl) pa_nil))) (fun _ => rfl))))))) (pss_one (ps_ret pe_bl)) pss_nil)
    (pss_cons (ps_if (pt_cmpR (xNe K (r64 hr)) (pe_lc (own := [((Str.ofString "_law_own"), 1)]) rfl sc_law_is_bit.nd (xiAny K (pe_op (xAdd K) (pe_tup (pa_cons (pe_ix (xIx K) (pv 0) pe_int (fun _ _ => rfl)) (pa_cons (pe_ix (xIx K) (pv 0) pe_int (fun _ _ => rfl)) (pa_cons (pe_ix (xIx K) (pv 0) pe_int (fun _ _ => rfl)) pa_nil)))) (pe_ix (xIx K) (pv 0) pe_int (fun _ _ => rfl)))) (blkOk_by (N := n_law_is_bit) (sc := (defScope s_law_is_bit)) (by decide +kernel)) (fun _ _ _ _ _ => (pg_name (i := 1) sc_law_is_bit.nd rfl (by first | exact Or.inl rfl | exact Or.inr rfl))) (fun _ _ _ _ _ => (pts_one (pt_not (xTru K (xCall (ok_law_is_tag T (k := k)) T.g_law_is_tag T.k_law_is_tag T.B_law_is_tag (pa_cons (pv 1) pa_nil) (hr.mono (by omega))) (fun _ => rfl))))) (fun _ _ _ _ _ => (pv 1))) (pe_lst pa_nil) (nomark _)) (pss_one (ps_ret pe_bl)) pss_nil)
    (pss_one (ps_ret (xCall (ok_law_is_on T (k := k)) T.g_law_is_on T.k_law_is_on T.B_law_is_on (pa_cons (pe_ix (xIx K) (pv 0) pe_int (fun _ _ => rfl)) pa_nil) (hr.mono (by omega))))))), ?_⟩
  exact fnP_ok (N := n_law_is_bit) (p := 1) (b := b_law_is_bit) (es_seq (es_if (et_or (et_not (et_tru (ev_isi plain_tuple ev_var))) (et_or (et_test (ev_op (ev_cb (ea_cons ev_var ea_nil) cs_lenU) ev_int os_ne)) (et_not (et_tru (ev_isi plain_tuple (ev_op ev_var ev_int os_ix)))))) (es_ret ev_bl) es_next)
    (es_seq (es_if (et_test (ev_op (ev_lc (ei_any (ev_op (ev_tup (ea_cons (ev_op ev_var ev_int os_ix) (ea_cons (ev_op ev_var ev_int os_ix) (ea_cons (ev_op ev_var ev_int os_ix) ea_nil)))) (ev_op ev_var ev_int os_ix) os_addU)) eg_name (by decide) (et_not (et_tru (ev_call (fn := f_law_is_tag) (ms := [false]) (ea_cons ev_var ea_nil)))) ev_var) (ev_lst ea_nil) os_ne)) (es_ret ev_bl) es_next)
    (es_ret (ev_call (fn := f_law_is_on) (ms := [false]) (ea_cons (ev_op ev_var ev_int os_ix) ea_nil))))) (by decide) h
theorem ok_law_spoilt (T : Tp K mg x) : ∀ (n : Nat) {k : Nat}, FnOk P w K mg base CX0 (k + n + 3) x.a_law_spoilt x.d_law_spoilt ["_law_tin", "_law_matter", "_law_depth_so"] (spF (f_law_spoilt n))
  | 0, k => T.F_law_spoilt.ok sc_law_spoilt (fun vs H Q E h => (spF_none h).elim) (fun cdv A outer s H vs Q E hr h => (spF_none h).elim)
  | n + 1, k => by
    have ok := fun {k : Nat} => ok_law_spoilt T n (k := k)
    refine T.F_law_spoilt.ok sc_law_spoilt (fun vs H Q E h => fnP_len h) (fun cdv A outer s H vs Q E hr h => ?_)
    have hr : Room (k + n + 3) _ := hr
    refine ⟨_, (pss_cons (ps_set (i := 3) sc_law_spoilt.nd rfl (by first | exact Or.inl rfl | exact Or.inr rfl) (pe_lst (pa_cons pe_str (pa_cons pe_str (pa_cons pe_str (pa_cons pe_str (pa_cons pe_non (pa_cons pe_int (pa_cons pe_int (pa_cons pe_int (pa_cons pe_bl (pa_cons (pe_tup pa_nil) (pa_cons (pe_tup (pa_cons pe_str pa_nil)) (pa_cons (pe_tup (pa_cons pe_str (pa_cons pe_int pa_nil))) (pa_cons (pe_tup (pa_cons pe_str (pa_cons pe_str pa_nil))) (pa_cons (pe_lst pa_nil) pa_nil))))))))))))))))
    (pss_cons (ps_expr (xApp K (pv 3) (pa_cons (pe_tup (pa_cons pe_str (pa_cons pe_str (pa_cons (pe_tup pa_nil) (pa_cons pe_str (pa_cons (pe_tup pa_nil) pa_nil)))))) pa_nil)))
    (pss_cons (ps_if (PW.pt (pw_or (pt_cmpR (xEq K (r64 hr)) (pv 2) pe_int (nomark _)) (pw_or (pt_not (xTru K (pe_callB (xIsiT K) rfl T.b_isinstance boot_isinstance (pa_cons (pv 1) (pa_cons (pe_tup (pa_cons (pe_bltn (v := .ty "list") rfl T.b_list boot_list rfl) (pa_cons (pe_bltn (v := .ty "tuple") rfl T.b_tuple boot_tuple rfl) pa_nil))) pa_nil))) (fun _ => rfl))) (pw_or1 (pt_cmpR (xEq K (r64 hr)) (pe_callB (xLen K) rfl T.b_len boot_len (pa_cons (pv 1) pa_nil)) pe_int (nomark _)))))) (pss_one (ps_ret (xCall (ok_law_of T (k := k)) T.g_law_of T.k_law_of T.B_law_of (pa_cons (pv 0) (pa_cons (pv 3) pa_nil)) (hr.mono (by omega))))) pss_nil)
    (pss_cons (ps_par (i := 4) (j := 5) rfl sc_law_spoilt.nd rfl rfl (by decide) rfl rfl (pa_cons (xCall (ok_law_take T (k := k)) T.g_law_take T.k_law_take T.B_law_take (pa_cons (pv 0) (pa_cons pe_int pa_nil)) (hr.mono (by omega))) (pa_cons (xCall (ok_law_take T (k := k)) T.g_law_take T.k_law_take T.B_law_take (pa_cons (pv 0) (pa_cons (pe_callB (xLen K) rfl T.b_len boot_len (pa_cons (pv 1) pa_nil)) pa_nil)) (hr.mono (by omega))) pa_nil)) rfl)
    (pss_cons (ps_set (i := 6) sc_law_spoilt.nd rfl (by first | exact Or.inl rfl | exact Or.inr rfl) (pe_callTy (xList K rfl) rfl T.b_list boot_list (pa_cons (pv 1) pa_nil)))
    (pss_cons (ps_if (pt_cmpR (xEq K (r64 hr)) (pv 4) pe_int (nomark _)) (pss_one (ps_ret (pe_callTy (xList K rfl) rfl T.b_list boot_list (pa_cons (pv 1) pa_nil)))) pss_nil)
    (pss_cons (ps_if (pt_cmpR (xEq K (r64 hr)) (pv 4) pe_int (nomark _)) (pss_one (ps_ret (pe_callTy (xTup K rfl) rfl T.b_tuple boot_tuple (pa_cons (pe_op (xAdd K) (pe_slice (xSl K) (pv 6) po_none (po_some (pv 5))) (pe_slice (xSl K) (pv 6) (po_some (pe_op (xAdd K) (pv 5) pe_int)) po_none)) pa_nil)))) pss_nil)
    (pss_cons (ps_if (pt_cmpR (xEq K (r64 hr)) (pv 4) pe_int (nomark _)) (pss_one (ps_ret (pe_callTy (xTup K rfl) rfl T.b_tuple boot_tuple (pa_cons (pe_op (xAdd K) (pe_slice (xSl K) (pv 6) po_none (po_some (pe_op (xAdd K) (pv 5) pe_int))) (pe_slice (xSl K) (pv 6) (po_some (pv 5)) po_none)) pa_nil)))) pss_nil)
    (pss_cons (ps_if (pt_cmpR (xEq K (r64 hr)) (pv 4) pe_int (nomark _)) (pss_one (ps_ret (pe_callTy (xTup K rfl) rfl T.b_tuple boot_tuple (pa_cons (pe_op (xAdd K) (pe_op (xAdd K) (pe_slice (xSl K) (pv 6) po_none (po_some (pv 5))) (pe_lst (pa_cons (xCall (ok_law_of T (k := k)) T.g_law_of T.k_law_of T.B_law_of (pa_cons (pv 0) (pa_cons (pv 3) pa_nil)) (hr.mono (by omega))) pa_nil))) (pe_slice (xSl K) (pv 6) (po_some (pv 5)) po_none)) pa_nil)))) pss_nil)
    (pss_cons (ps_if (pt_cmpR (xEq K (r64 hr)) (pv 4) pe_int (nomark _)) (pss_one (ps_ret (pe_callTy (xTup K rfl) rfl T.b_tuple boot_tuple (pa_cons (xRev K (pv 6)) pa_nil)))) pss_nil)
    (pss_cons (ps_asg (xCall (ok (k := k)) T.g_law_spoilt T.k_law_spoilt T.B_law_spoilt (pa_cons (pv 0) (pa_cons (pe_ix (xIx K) (pv 6) (pv 5) (fun _ _ => rfl)) (pa_cons (pe_op op_sub (pv 2) pe_int) pa_nil))) (hr.mono (by omega))) (pg_sub (pv 6) (pv 5) set_list (fun _ => rfl)))
    (pss_one (ps_ret (pe_callTy (xTup K rfl) rfl T.b_tuple boot_tuple (pa_cons (pv 6) pa_nil))))))))))))))), ?_⟩
    exact fnP_ok (N := n_law_spoilt) (p := 3) (b := b_law_spoilt (f_law_spoilt n)) (es_seq (es_set (i := 3) (ev_lst (ea_cons ev_str (ea_cons ev_str (ea_cons ev_str (ea_cons ev_str (ea_cons ev_non (ea_cons ev_int (ea_cons ev_int (ea_cons ev_int (ea_cons ev_bl (ea_cons (ev_tup ea_nil) (ea_cons (ev_tup (ea_cons ev_str ea_nil)) (ea_cons (ev_tup (ea_cons ev_str (ea_cons ev_int ea_nil))) (ea_cons (ev_tup (ea_cons ev_str (ea_cons ev_str ea_nil))) (ea_cons (ev_lst ea_nil) ea_nil))))))))))))))))
    (es_seq (es_drop (ev_app (ev_tup (ea_cons ev_str (ea_cons ev_str (ea_cons (ev_tup ea_nil) (ea_cons ev_str (ea_cons (ev_tup ea_nil) ea_nil))))))))
    (es_seq (es_if (et_or (et_test (ev_op ev_var ev_int os_eq)) (et_or (et_not (et_tru (ev_isi2 plain_list plain_tuple ev_var))) (et_test (ev_op (ev_cb (ea_cons ev_var ea_nil) cs_lenU) ev_int os_eq)))) (es_ret (ev_call (fn := f_law_of) (ms := [true, true]) (ea_cons ev_var (ea_cons ev_var ea_nil)))) es_next)
    (es_seq (es_par (i := 4) (j := 5) (by decide) (ea_cons (ev_call (fn := f_law_take) (ms := [true, true]) (ea_cons ev_var (ea_cons ev_int ea_nil))) (ea_cons (ev_call (fn := f_law_take) (ms := [true, true]) (ea_cons ev_var (ea_cons (ev_cb (ea_cons ev_var ea_nil) cs_lenU) ea_nil))) ea_nil)))
    (es_seq (es_set (i := 6) (ev_cb (ea_cons ev_var ea_nil) cs_listU))
    (es_seq (es_if (et_test (ev_op ev_var ev_int os_eq)) (es_ret (ev_cb (ea_cons ev_var ea_nil) cs_listU)) es_next)
    (es_seq (es_if (et_test (ev_op ev_var ev_int os_eq)) (es_ret (ev_cb (ea_cons (ev_op (ev_sl ss_U ev_var eo_none (eo_some ev_var)) (ev_sl ss_U ev_var (eo_some (ev_op ev_var ev_int os_addU)) eo_none) os_addU) ea_nil) cs_tupU)) es_next)
    (es_seq (es_if (et_test (ev_op ev_var ev_int os_eq)) (es_ret (ev_cb (ea_cons (ev_op (ev_sl ss_U ev_var eo_none (eo_some (ev_op ev_var ev_int os_addU))) (ev_sl ss_U ev_var (eo_some ev_var) eo_none) os_addU) ea_nil) cs_tupU)) es_next)
    (es_seq (es_if (et_test (ev_op ev_var ev_int os_eq)) (es_ret (ev_cb (ea_cons (ev_op (ev_op (ev_sl ss_U ev_var eo_none (eo_some ev_var)) (ev_lst (ea_cons (ev_call (fn := f_law_of) (ms := [true, true]) (ea_cons ev_var (ea_cons ev_var ea_nil))) ea_nil)) os_addU) (ev_sl ss_U ev_var (eo_some ev_var) eo_none) os_addU) ea_nil) cs_tupU)) es_next)
    (es_seq (es_if (et_test (ev_op ev_var ev_int os_eq)) (es_ret (ev_cb (ea_cons (ev_rev ev_var) ea_nil) cs_tupU)) es_next)
    (es_seq (es_put (i := 6) (ev_call (fn := f_law_spoilt n) (ms := [true, true, true]) (ea_cons ev_var (ea_cons (ev_op ev_var ev_var os_ix) (ea_cons (ev_op ev_var ev_int os_sub) ea_nil)))) ev_var)
    (es_ret (ev_cb (ea_cons ev_var ea_nil) cs_tupU))))))))))))) (by decide) h
theorem ok_is_step (T : Tp K mg x) {k : Nat} : FnOk P w K mg base CX0 (k + 4) x.a_is_step x.d_is_step ["thing"] (spF f_is_step) := by
  refine T.F_is_step.ok sc_is_step (fun vs H Q E h => fnP_len h) (fun cdv A outer s H vs Q E hr h => ?_)
  have hr : Room (k + 3) _ := hr
  refine ⟨_, (pss_cons (ps_if (pt_not (xTru K (xCall (ok_is_tuple_of T (k := k)) T.g_is_tuple_of T.k_is_tuple_of T.B_is_tuple_of (pa_cons (pv 0) (pa_cons pe_int pa_nil)) (hr.mono (by omega))) (fun _ => rfl))) (pss_one (ps_ret pe_bl)) pss_nil)
    (pss_cons (ps_asg (pv 0) (xgTup K 5 rfl (pgs_cons (pg_name (i := 1) sc_is_step.nd rfl (by first | exact Or.inl rfl | exact Or.inr rfl)) (pgs_cons (pg_name (i := 2) sc_is_step.nd rfl (by first | exact Or.inl rfl | exact Or.inr rfl)) (pgs_cons (pg_name (i := 3) sc_is_step.nd rfl (by first | exact Or.inl rfl | exact Or.inr rfl)) (pgs_cons (pg_name (i := 4) sc_is_step.nd rfl (by first | exact Or.inl rfl | exact Or.inr rfl)) (pgs_cons (pg_name (i := 5) sc_is_step.nd rfl (by first | exact Or.inl rfl | exact Or.inr rfl)) pgs_nil)))))))
    (pss_one (ps_ret (xAnd K (xCall (ok_are_names T (k := k)) T.g_are_names T.k_are_names T.B_are_names (pa_cons (pe_tup (pa_cons (pv 1) (pa_cons (pv 2) (pa_cons (pv 4) pa_nil)))) pa_nil) (hr.mono (by omega))) (xAnd K (xCall (ok_are_names T (k := k)) T.g_are_names T.k_are_names T.B_are_names (pa_cons (pv 3) pa_nil) (hr.mono (by omega))) (pe_one (xCall (ok_is_condition T (k := k)) T.g_is_condition T.k_is_condition T.B_is_condition (pa_cons (pv 5) pa_nil) (hr.mono (by omega)))))))))), ?_⟩
  exact fnP_ok (N := n_is_step) (p := 1) (b := b_is_step) (es_seq (es_if (et_not (et_tru (ev_call (fn := f_is_tuple_of) (ms := [true, true]) (ea_cons ev_var (ea_cons ev_int ea_nil))))) (es_ret ev_bl) es_next)
    (es_seq (es_asg ev_var (eg_tup (egs_cons eg_name (egs_cons eg_name (egs_cons eg_name (egs_cons eg_name (egs_cons eg_name egs_nil)))))))
    (es_ret (ev_andT (ev_call (fn := f_are_names) (ms := [false]) (ea_cons (ev_tup (ea_cons ev_var (ea_cons ev_var (ea_cons ev_var ea_nil)))) ea_nil)) (ev_andT (ev_call (fn := f_are_names) (ms := [false]) (ea_cons ev_var ea_nil)) (ev_call (fn := f_is_condition) (ms := [false]) (ea_cons ev_var ea_nil))))))) (by decide) h
theorem ok_law_is_form (T : Tp K mg x) {k : Nat} : FnOk P w K mg base CX0 (k + 4) x.a_law_is_form x.d_law_is_form ["_law_matter"] (spF f_law_is_form) := by
  refine T.F_law_is_form.ok sc_law_is_form (fun vs H Q E h => fnP_len h) (fun cdv A outer s H vs Q E hr h => ?_)
  have hr : Room (k + 3) _ := hr
  refine ⟨_, (pss_cons (ps_if (PW.pt (pw_or (pt_not (xTru K (pe_callB (xIsi K) rfl T.b_isinstance boot_isinstance (pa_cons (pv 0) (pa_cons (pe_bltn (v := .ty "tuple") rfl T.b_tuple boot_tuple rfl) pa_nil))) (fun _ => rfl))) (pw_or1 (pt_cmpR (xNe K (r64 hr)) (pe_lc (own := [((Str.ofString "_law_own"), 1)]) rfl sc_law_is_form.nd (xiAny K (pv 0)) (blkOk_by (N := n_law_is_form) (sc := (defScope s_law_is_form)) (by decide +kernel)) (fun _ _ _ _ _ => (pg_name (i := 1) sc_law_is_form.nd rfl (by first | exact Or.inl rfl | exact Or.inr rfl))) (fun _ _ _ _ _ => (pts_one (pt_not (xTru K (xCall (ok_law_is_bit T (k := k)) T.g_law_is_bit T.k_law_is_bit T.B_law_is_bit (pa_cons (pv 1) pa_nil) (hr.mono (by omega))) (fun _ => rfl))))) (fun _ _ _ _ _ => (pv 1))) (pe_lst pa_nil) (nomark _))))) (pss_one (ps_ret pe_bl)) pss_nil)
    (pss_one (ps_ret (xCall (ok_law_rises T (k := k)) T.g_law_rises T.k_law_rises T.B_law_rises (pa_cons (pe_lc (own := [((Str.ofString "_law_own"), 1)]) rfl sc_law_is_form.nd (xiAny K (pv 0)) (blkOk_by (N := n_law_is_form) (sc := (defScope s_law_is_form)) (by decide +kernel)) (fun _ _ _ _ _ => (pg_name (i := 1) sc_law_is_form.nd rfl (by first | exact Or.inl rfl | exact Or.inr rfl))) (fun _ _ _ _ _ => pts_nil) (fun _ _ _ _ _ => (pe_ix (xIx K) (pv 1) pe_int (fun _ _ => rfl)))) pa_nil) (hr.mono (by omega)))))), ?_⟩
  exact fnP_ok (N := n_law_is_form) (p := 1) (b := b_law_is_form) (es_seq (es_if (et_or (et_not (et_tru (ev_isi plain_tuple ev_var))) (et_test (ev_op (ev_lc (ei_any ev_var) eg_name (by decide) (et_not (et_tru (ev_call (fn := f_law_is_bit) (ms := [true]) (ea_cons ev_var ea_nil)))) ev_var) (ev_lst ea_nil) os_ne))) (es_ret ev_bl) es_next)
    (es_ret (ev_call (fn := f_law_rises) (ms := [false]) (ea_cons (ev_lc (ei_any ev_var) eg_name (by decide) et_yes (ev_op ev_var ev_int os_ix)) ea_nil)))) (by decide) h
theorem ok_is_plan (T : Tp K mg x) {k : Nat} : FnOk P w K mg base CX0 (k + 5) x.a_is_plan x.d_is_plan ["thing"] (spF f_is_plan) := by
  refine T.F_is_plan.ok sc_is_plan (fun vs H Q E h => fnP_len h) (fun cdv A outer s H vs Q E hr h => ?_)
  have hr : Room (k + 4) _ := hr
  refine ⟨_, (pss_cons (ps_if (PW.pt (pw_or (pt_not (xTru K (pe_callB (xIsi K) rfl T.b_isinstance boot_isinstance (pa_cons (pv 0) (pa_cons (pe_bltn (v := .ty "tuple") rfl T.b_tuple boot_tuple rfl) pa_nil))) (fun _ => rfl))) (pw_or1 (pt_not (xTru K (pe_callB (xAll K rfl) rfl T.b_all boot_all (pa_cons (pe_lc (own := [((Str.ofString "step"), 1)]) rfl sc_is_plan.nd (xiAny K (pv 0)) (blkOk_by (N := n_is_plan) (sc := (defScope s_is_plan)) (by decide +kernel)) (fun _ _ _ _ _ => (pg_name (i := 1) sc_is_plan.nd rfl (by first | exact Or.inl rfl | exact Or.inr rfl))) (fun _ _ _ _ _ => pts_nil) (fun _ _ _ _ _ => (xCall (ok_is_step T (k := k)) T.g_is_step T.k_is_step T.B_is_step (pa_cons (pv 1) pa_nil) (hr.mono (by omega))))) pa_nil)) (fun _ => rfl)))))) (pss_one (ps_ret pe_bl)) pss_nil)
    (pss_one (ps_ret (xCall (ok_is_ascending T (k := k)) T.g_is_ascending T.k_is_ascending T.B_is_ascending (pa_cons (pe_lc (own := [((Str.ofString "step"), 1)]) rfl sc_is_plan.nd (xiAny K (pv 0)) (blkOk_by (N := n_is_plan) (sc := (defScope s_is_plan)) (by decide +kernel)) (fun _ _ _ _ _ => (pg_name (i := 1) sc_is_plan.nd rfl (by first | exact Or.inl rfl | exact Or.inr rfl))) (fun _ _ _ _ _ => pts_nil) (fun _ _ _ _ _ => (pe_ix (xIx K) (pv 1) pe_int (fun _ _ => rfl)))) pa_nil) (hr.mono (by omega)))))), ?_⟩
  exact fnP_ok (N := n_is_plan) (p := 1) (b := b_is_plan) (es_seq (es_if (et_or (et_not (et_tru (ev_isi plain_tuple ev_var))) (et_not (et_tru (ev_cb (ea_cons (ev_lc (ei_any ev_var) eg_name (by decide) et_yes (ev_call (fn := f_is_step) (ms := [false]) (ea_cons ev_var ea_nil))) ea_nil) cs_all)))) (es_ret ev_bl) es_next)
    (es_ret (ev_call (fn := f_is_ascending) (ms := [false]) (ea_cons (ev_lc (ei_any ev_var) eg_name (by decide) et_yes (ev_op ev_var ev_int os_ix)) ea_nil)))) (by decide) h
theorem ok_law_steps_right (T : Tp K mg x) {k : Nat} : FnOk P w K mg base CX0 (k + 66) x.a_law_steps_right x.d_law_steps_right [] (spF f_law_steps_right) := by
  refine T.F_law_steps_right.ok sc_law_steps_right (fun vs H Q E h => fnP_len h) (fun cdv A outer s H vs Q E hr h => ?_)
  have hr : Room (k + 65) _ := hr
  refine ⟨_, (pss_cons (ps_set (i := 0) sc_law_steps_right.nd rfl (by first | exact Or.inl rfl | exact Or.inr rfl) (pe_tup (pa_cons pe_str (pa_cons pe_str (pa_cons (pe_tup (pa_cons pe_str (pa_cons pe_str (pa_cons pe_str pa_nil)))) (pa_cons pe_str (pa_cons (pe_tup (pa_cons (pe_tup (pa_cons pe_str (pa_cons pe_int pa_nil))) pa_nil)) pa_nil)))))))
    (pss_cons (ps_set (i := 1) sc_law_steps_right.nd rfl (by first | exact Or.inl rfl | exact Or.inr rfl) (pe_lst (pa_cons (pv 0) (pa_cons (pe_tup (pa_cons pe_str (pa_cons pe_str (pa_cons (pe_tup pa_nil) (pa_cons pe_str (pa_cons (pe_tup pa_nil) pa_nil)))))) (pa_cons (pe_tup (pa_cons pe_str (pa_cons pe_str (pa_cons (pe_callTy (xTup K rfl) rfl T.b_tuple boot_tuple (pa_cons pe_str pa_nil)) (pa_cons pe_str (pa_cons (pe_tup pa_nil) pa_nil)))))) pa_nil)))))
    (pss_cons (ps_set (i := 2) sc_law_steps_right.nd rfl (by first | exact Or.inl rfl | exact Or.inr rfl) (pe_lst (pa_cons pe_non (pa_cons (pe_tup pa_nil) (pa_cons (pe_callTy (xList K rfl) rfl T.b_list boot_list (pa_cons (pv 0) pa_nil)) (pa_cons (pe_slice (xSl K) (pv 0) po_none (po_some pe_int)) (pa_cons (pe_op (xAdd K) (pv 0) (pe_tup (pa_cons (pe_tup pa_nil) pa_nil))) (pa_cons (pe_tup (pa_cons pe_str (pa_cons pe_str (pa_cons (pe_tup pa_nil) (pa_cons pe_str (pa_cons (pe_tup pa_nil) pa_nil)))))) pa_nil))))))))
    (pss_cons (ps_expr (xApp K (pv 2) (pa_cons (pe_tup (pa_cons pe_str (pa_cons pe_str (pa_cons (pe_tup pa_nil) (pa_cons pe_str (pa_cons (pe_tup pa_nil) pa_nil)))))) pa_nil)))
    (pss_cons (ps_set (i := 2) sc_law_steps_right.nd rfl (by first | exact Or.inl rfl | exact Or.inr rfl) (pe_op (xAdd K) (pv 2) (pe_lst (pa_cons (pe_tup (pa_cons pe_str (pa_cons pe_str (pa_cons (pe_lst pa_nil) (pa_cons pe_str (pa_cons (pe_tup pa_nil) pa_nil)))))) (pa_cons (pe_tup (pa_cons pe_str (pa_cons pe_str (pa_cons pe_str (pa_cons pe_str (pa_cons (pe_tup pa_nil) pa_nil)))))) pa_nil)))))
    (pss_cons (ps_set (i := 2) sc_law_steps_right.nd rfl (by first | exact Or.inl rfl | exact Or.inr rfl) (pe_op (xAdd K) (pv 2) (pe_lst (pa_cons (pe_tup (pa_cons pe_str (pa_cons pe_str (pa_cons (pe_tup (pa_cons pe_str (pa_cons pe_int pa_nil))) (pa_cons pe_str (pa_cons (pe_tup pa_nil) pa_nil)))))) (pa_cons (pe_tup (pa_cons pe_str (pa_cons pe_str (pa_cons (pe_tup pa_nil) (pa_cons pe_str (pa_cons (pe_tup pa_nil) pa_nil)))))) (pa_cons (pe_tup (pa_cons pe_str (pa_cons pe_str (pa_cons (pe_tup pa_nil) (pa_cons (pe_tup (pa_cons pe_str pa_nil)) (pa_cons (pe_tup pa_nil) pa_nil)))))) pa_nil))))))
    (pss_cons (ps_set (i := 2) sc_law_steps_right.nd rfl (by first | exact Or.inl rfl | exact Or.inr rfl) (pe_op (xAdd K) (pv 2) (pe_lst (pa_cons (pe_tup (pa_cons pe_str (pa_cons pe_str (pa_cons (pe_tup pa_nil) (pa_cons pe_str (pa_cons (pe_lst pa_nil) pa_nil)))))) (pa_cons (pe_tup (pa_cons pe_str (pa_cons pe_str (pa_cons (pe_tup pa_nil) (pa_cons pe_str (pa_cons (pe_tup (pa_cons (pe_tup (pa_cons pe_str (pa_cons pe_bl pa_nil))) pa_nil)) pa_nil)))))) pa_nil)))))
    (pss_cons (ps_set (i := 2) sc_law_steps_right.nd rfl (by first | exact Or.inl rfl | exact Or.inr rfl) (pe_op (xAdd K) (pv 2) (pe_lst (pa_cons (pe_tup (pa_cons pe_str (pa_cons pe_str (pa_cons (pe_tup pa_nil) (pa_cons pe_str (pa_cons pe_non pa_nil)))))) (pa_cons (pe_tup (pa_cons pe_str (pa_cons pe_str (pa_cons (pe_tup pa_nil) (pa_cons pe_str (pa_cons (pe_tup pa_nil) pa_nil)))))) pa_nil)))))
    (pss_cons (ps_expr (xApp K (pv 2) (pa_cons (pe_tup (pa_cons pe_str (pa_cons pe_str (pa_cons (pe_tup pa_nil) (pa_cons pe_str (pa_cons (pe_tup pa_nil) pa_nil)))))) pa_nil)))
    (pss_cons (ps_set (i := 2) sc_law_steps_right.nd rfl (by first | exact Or.inl rfl | exact Or.inr rfl) (pe_op (xAdd K) (pv 2) (pe_lst (pa_cons (pe_tup (pa_cons pe_str (pa_cons pe_str (pa_cons (pe_tup pa_nil) (pa_cons pe_str (pa_cons (pe_tup pa_nil) pa_nil)))))) (pa_cons (pe_tup (pa_cons pe_str (pa_cons pe_str (pa_cons (pe_tup (pa_cons pe_str pa_nil)) (pa_cons pe_str (pa_cons (pe_tup pa_nil) pa_nil)))))) pa_nil)))))
    (pss_cons (ps_if (pt_not (xTru K (xCall (ok_law_same T 64 (k := k)) T.g_law_same T.k_law_same T.B_law_same (pa_cons (pe_lc (own := [((Str.ofString "_law_own"), 3)]) rfl sc_law_steps_right.nd (xiAny K (pe_op (xAdd K) (pv 1) (pv 2))) (blkOk_by (N := n_law_steps_right) (sc := (defScope s_law_steps_right)) (by decide +kernel)) (fun _ _ _ _ _ => (pg_name (i := 3) sc_law_steps_right.nd rfl (by first | exact Or.inl rfl | exact Or.inr rfl))) (fun _ _ _ _ _ => pts_nil) (fun _ _ _ _ _ => (xCall (ok_is_step T (k := k)) T.g_is_step T.k_is_step T.B_is_step (pa_cons (pv 3) pa_nil) (hr.mono (by omega))))) (pa_cons (pe_op (xAdd K) (pe_op op_mulU (pe_lst (pa_cons pe_bl pa_nil)) (pe_callB (xLen K) rfl T.b_len boot_len (pa_cons (pv 1) pa_nil))) (pe_op op_mulU (pe_lst (pa_cons pe_bl pa_nil)) (pe_callB (xLen K) rfl T.b_len boot_len (pa_cons (pv 2) pa_nil)))) pa_nil)) (hr.mono (by omega))) (fun _ => rfl))) (pss_one (ps_ret pe_bl)) pss_nil)
    (pss_one (ps_ret pe_bl))))))))))))), ?_⟩
  exact fnP_ok (N := n_law_steps_right) (p := 0) (b := b_law_steps_right) (es_seq (es_set (i := 0) (ev_tup (ea_cons ev_str (ea_cons ev_str (ea_cons (ev_tup (ea_cons ev_str (ea_cons ev_str (ea_cons ev_str ea_nil)))) (ea_cons ev_str (ea_cons (ev_tup (ea_cons (ev_tup (ea_cons ev_str (ea_cons ev_int ea_nil))) ea_nil)) ea_nil)))))))
    (es_seq (es_set (i := 1) (ev_lst (ea_cons ev_var (ea_cons (ev_tup (ea_cons ev_str (ea_cons ev_str (ea_cons (ev_tup ea_nil) (ea_cons ev_str (ea_cons (ev_tup ea_nil) ea_nil)))))) (ea_cons (ev_tup (ea_cons ev_str (ea_cons ev_str (ea_cons (ev_cb (ea_cons ev_str ea_nil) cs_tupU) (ea_cons ev_str (ea_cons (ev_tup ea_nil) ea_nil)))))) ea_nil)))))
    (es_seq (es_set (i := 2) (ev_lst (ea_cons ev_non (ea_cons (ev_tup ea_nil) (ea_cons (ev_cb (ea_cons ev_var ea_nil) cs_listU) (ea_cons (ev_sl ss_U ev_var eo_none (eo_some ev_int)) (ea_cons (ev_op ev_var (ev_tup (ea_cons (ev_tup ea_nil) ea_nil)) os_addU) (ea_cons (ev_tup (ea_cons ev_str (ea_cons ev_str (ea_cons (ev_tup ea_nil) (ea_cons ev_str (ea_cons (ev_tup ea_nil) ea_nil)))))) ea_nil))))))))
    (es_seq (es_drop (ev_app (ev_tup (ea_cons ev_str (ea_cons ev_str (ea_cons (ev_tup ea_nil) (ea_cons ev_str (ea_cons (ev_tup ea_nil) ea_nil))))))))
    (es_seq (es_set (i := 2) (ev_op ev_var (ev_lst (ea_cons (ev_tup (ea_cons ev_str (ea_cons ev_str (ea_cons (ev_lst ea_nil) (ea_cons ev_str (ea_cons (ev_tup ea_nil) ea_nil)))))) (ea_cons (ev_tup (ea_cons ev_str (ea_cons ev_str (ea_cons ev_str (ea_cons ev_str (ea_cons (ev_tup ea_nil) ea_nil)))))) ea_nil))) os_addU))
    (es_seq (es_set (i := 2) (ev_op ev_var (ev_lst (ea_cons (ev_tup (ea_cons ev_str (ea_cons ev_str (ea_cons (ev_tup (ea_cons ev_str (ea_cons ev_int ea_nil))) (ea_cons ev_str (ea_cons (ev_tup ea_nil) ea_nil)))))) (ea_cons (ev_tup (ea_cons ev_str (ea_cons ev_str (ea_cons (ev_tup ea_nil) (ea_cons ev_str (ea_cons (ev_tup ea_nil) ea_nil)))))) (ea_cons (ev_tup (ea_cons ev_str (ea_cons ev_str (ea_cons (ev_tup ea_nil) (ea_cons (ev_tup (ea_cons ev_str ea_nil)) (ea_cons (ev_tup ea_nil) ea_nil)))))) ea_nil)))) os_addU))
    (es_seq (es_set (i := 2) (ev_op ev_var (ev_lst (ea_cons (ev_tup (ea_cons ev_str (ea_cons ev_str (ea_cons (ev_tup ea_nil) (ea_cons ev_str (ea_cons (ev_lst ea_nil) ea_nil)))))) (ea_cons (ev_tup (ea_cons ev_str (ea_cons ev_str (ea_cons (ev_tup ea_nil) (ea_cons ev_str (ea_cons (ev_tup (ea_cons (ev_tup (ea_cons ev_str (ea_cons ev_bl ea_nil))) ea_nil)) ea_nil)))))) ea_nil))) os_addU))
    (es_seq (es_set (i := 2) (ev_op ev_var (ev_lst (ea_cons (ev_tup (ea_cons ev_str (ea_cons ev_str (ea_cons (ev_tup ea_nil) (ea_cons ev_str (ea_cons ev_non ea_nil)))))) (ea_cons (ev_tup (ea_cons ev_str (ea_cons ev_str (ea_cons (ev_tup ea_nil) (ea_cons ev_str (ea_cons (ev_tup ea_nil) ea_nil)))))) ea_nil))) os_addU))
    (es_seq (es_drop (ev_app (ev_tup (ea_cons ev_str (ea_cons ev_str (ea_cons (ev_tup ea_nil) (ea_cons ev_str (ea_cons (ev_tup ea_nil) ea_nil))))))))
    (es_seq (es_set (i := 2) (ev_op ev_var (ev_lst (ea_cons (ev_tup (ea_cons ev_str (ea_cons ev_str (ea_cons (ev_tup ea_nil) (ea_cons ev_str (ea_cons (ev_tup ea_nil) ea_nil)))))) (ea_cons (ev_tup (ea_cons ev_str (ea_cons ev_str (ea_cons (ev_tup (ea_cons ev_str ea_nil)) (ea_cons ev_str (ea_cons (ev_tup ea_nil) ea_nil)))))) ea_nil))) os_addU))
    (es_seq (es_if (et_not (et_tru (ev_call (fn := (f_law_same 64)) (ms := [false, false]) (ea_cons (ev_lc (ei_any (ev_op ev_var ev_var os_addU)) eg_name (by decide) et_yes (ev_call (fn := f_is_step) (ms := [false]) (ea_cons ev_var ea_nil))) (ea_cons (ev_op (ev_op (ev_lst (ea_cons ev_bl ea_nil)) (ev_cb (ea_cons ev_var ea_nil) cs_lenU) os_mulU) (ev_op (ev_lst (ea_cons ev_bl ea_nil)) (ev_cb (ea_cons ev_var ea_nil) cs_lenU) os_mulU) os_addU) ea_nil))))) (es_ret ev_bl) es_next)
    (es_ret ev_bl)))))))))))) (by decide) h
theorem ok_law_hand_right (T : Tp K mg x) {k : Nat} : FnOk P w K mg base CX0 (k + 67) x.a_law_hand_right x.d_law_hand_right [] (spF f_law_hand_right) := by
  refine T.F_law_hand_right.ok sc_law_hand_right (fun vs H Q E h => fnP_len h) (fun cdv A outer s H vs Q E hr h => ?_)
  have hr : Room (k + 66) _ := hr
  refine ⟨_, (pss_cons (ps_set (i := 0) sc_law_hand_right.nd rfl (by first | exact Or.inl rfl | exact Or.inr rfl) (pe_lst (pa_cons (pe_tup pa_nil) (pa_cons (pe_tup (pa_cons (pe_tup (pa_cons pe_str (pa_cons pe_int pa_nil))) pa_nil)) (pa_cons (pe_tup (pa_cons (pe_tup (pa_cons pe_str (pa_cons pe_int pa_nil))) (pa_cons (pe_tup (pa_cons pe_str (pa_cons pe_int pa_nil))) pa_nil))) pa_nil)))))
    (pss_cons (ps_expr (xApp K (pv 0) (pa_cons (pe_callTy (xTup K rfl) rfl T.b_tuple boot_tuple (pa_cons (pe_lc (own := [((Str.ofString "_law_letter"), 1)]) rfl sc_law_hand_right.nd (xiAny K pe_str) (blkOk_by (N := n_law_hand_right) (sc := (defScope s_law_hand_right)) (by decide +kernel)) (fun _ _ _ _ _ => (pg_name (i := 1) sc_law_hand_right.nd rfl (by first | exact Or.inl rfl | exact Or.inr rfl))) (fun _ _ _ _ _ => pts_nil) (fun _ _ _ _ _ => (pe_tup (pa_cons (pv 1) (pa_cons pe_int pa_nil))))) pa_nil)) pa_nil)))
    (pss_cons (ps_set (i := 2) sc_law_hand_right.nd rfl (by first | exact Or.inl rfl | exact Or.inr rfl) (pe_lst (pa_cons pe_non (pa_cons pe_int (pa_cons pe_str (pa_cons (pe_lst pa_nil) (pa_cons (pe_lst (pa_cons (pe_tup (pa_cons pe_str (pa_cons pe_int pa_nil))) pa_nil)) (pa_cons (pe_tup (pa_cons pe_str (pa_cons pe_int pa_nil))) (pa_cons (pe_tup (pa_cons (pe_tup (pa_cons pe_str (pa_cons pe_int pa_nil))) pa_nil)) (pa_cons (pe_tup (pa_cons (pe_tup (pa_cons pe_str (pa_cons (pe_un un_neg pe_int) pa_nil))) pa_nil)) (pa_cons (pe_tup (pa_cons (pe_tup (pa_cons pe_str (pa_cons pe_bl pa_nil))) pa_nil)) pa_nil)))))))))))
    (pss_cons (ps_expr (xApp K (pv 2) (pa_cons (pe_tup (pa_cons (pe_tup (pa_cons pe_str (pa_cons pe_str pa_nil))) pa_nil)) pa_nil)))
    (pss_cons (ps_set (i := 2) sc_law_hand_right.nd rfl (by first | exact Or.inl rfl | exact Or.inr rfl) (pe_op (xAdd K) (pv 2) (pe_lst (pa_cons (pe_tup (pa_cons (pe_tup (pa_cons pe_str pa_nil)) pa_nil)) (pa_cons (pe_tup (pa_cons (pe_tup (pa_cons pe_str (pa_cons pe_int (pa_cons pe_int pa_nil)))) pa_nil)) (pa_cons (pe_tup (pa_cons (pe_tup (pa_cons pe_str (pa_cons pe_int pa_nil))) pa_nil)) pa_nil))))))
    (pss_cons (ps_set (i := 2) sc_law_hand_right.nd rfl (by first | exact Or.inl rfl | exact Or.inr rfl) (pe_op (xAdd K) (pv 2) (pe_lst (pa_cons (pe_tup (pa_cons (pe_tup (pa_cons pe_str (pa_cons pe_int pa_nil))) pa_nil)) (pa_cons (pe_tup (pa_cons (pe_tup (pa_cons pe_str (pa_cons pe_int pa_nil))) (pa_cons (pe_tup (pa_cons pe_str (pa_cons pe_int pa_nil))) pa_nil))) (pa_cons (pe_tup (pa_cons (pe_tup (pa_cons pe_str (pa_cons pe_int pa_nil))) (pa_cons (pe_tup (pa_cons pe_str (pa_cons pe_int pa_nil))) pa_nil))) (pa_cons (pe_tup (pa_cons (pe_lst (pa_cons pe_str (pa_cons pe_int pa_nil))) pa_nil)) (pa_cons (pe_tup (pa_cons (pe_tup (pa_cons pe_str (pa_cons pe_int pa_nil))) pa_nil)) pa_nil))))))))
    (pss_cons (ps_expr (xApp K (pv 2) (pa_cons (pe_tup (pa_cons (pe_tup (pa_cons pe_int (pa_cons pe_int pa_nil))) pa_nil)) pa_nil)))
    (pss_cons (ps_set (i := 2) sc_law_hand_right.nd rfl (by first | exact Or.inl rfl | exact Or.inr rfl) (pe_op (xAdd K) (pv 2) (pe_lst (pa_cons (pe_tup (pa_cons pe_non pa_nil)) (pa_cons (pe_tup (pa_cons (pe_tup (pa_cons pe_str (pa_cons pe_int pa_nil))) pa_nil)) (pa_cons (pe_tup (pa_cons (pe_tup (pa_cons pe_str (pa_cons pe_int pa_nil))) pa_nil)) pa_nil))))))
    (pss_cons (ps_if (pt_not (xTru K (xCall (ok_law_same T 64 (k := k)) T.g_law_same T.k_law_same T.B_law_same (pa_cons (pe_lc (own := [((Str.ofString "_law_own"), 3)]) rfl sc_law_hand_right.nd (xiAny K (pe_op (xAdd K) (pv 0) (pv 2))) (blkOk_by (N := n_law_hand_right) (sc := (defScope s_law_hand_right)) (by decide +kernel)) (fun _ _ _ _ _ => (pg_name (i := 3) sc_law_hand_right.nd rfl (by first | exact Or.inl rfl | exact Or.inr rfl))) (fun _ _ _ _ _ => pts_nil) (fun _ _ _ _ _ => (xCall (ok_is_condition T (k := k)) T.g_is_condition T.k_is_condition T.B_is_condition (pa_cons (pv 3) pa_nil) (hr.mono (by omega))))) (pa_cons (pe_op (xAdd K) (pe_op op_mulU (pe_lst (pa_cons pe_bl pa_nil)) (pe_callB (xLen K) rfl T.b_len boot_len (pa_cons (pv 0) pa_nil))) (pe_op op_mulU (pe_lst (pa_cons pe_bl pa_nil)) (pe_callB (xLen K) rfl T.b_len boot_len (pa_cons (pv 2) pa_nil)))) pa_nil)) (hr.mono (by omega))) (fun _ => rfl))) (pss_one (ps_ret pe_bl)) pss_nil)
    (pss_cons (ps_if (pt_not (xTru K (xCall0 (ok_law_steps_right T (k := k)) T.g_law_steps_right T.k_law_steps_right T.B_law_steps_right (hr.mono (by omega))) (fun _ => rfl))) (pss_one (ps_ret pe_bl)) pss_nil)
    (pss_cons (ps_set (i := 4) sc_law_hand_right.nd rfl (by first | exact Or.inl rfl | exact Or.inr rfl) (pe_tup (pa_cons pe_str (pa_cons pe_str (pa_cons (pe_tup (pa_cons pe_str (pa_cons pe_str (pa_cons pe_str pa_nil)))) (pa_cons pe_str (pa_cons (pe_tup (pa_cons (pe_tup (pa_cons pe_str (pa_cons pe_int pa_nil))) pa_nil)) pa_nil)))))))
    (pss_cons (ps_set (i := 5) sc_law_hand_right.nd rfl (by first | exact Or.inl rfl | exact Or.inr rfl) (pe_tup (pa_cons (pe_tup (pa_cons pe_str (pa_cons pe_str (pa_cons (pe_tup (pa_cons pe_str pa_nil)) (pa_cons pe_str (pa_cons (pe_tup pa_nil) pa_nil)))))) (pa_cons (pe_tup (pa_cons pe_str (pa_cons pe_str (pa_cons (pe_tup (pa_cons pe_str pa_nil)) (pa_cons pe_str (pa_cons (pe_tup pa_nil) pa_nil)))))) pa_nil))))
    (pss_cons (ps_set (i := 0) sc_law_hand_right.nd rfl (by first | exact Or.inl rfl | exact Or.inr rfl) (pe_lst (pa_cons (pe_tup pa_nil) (pa_cons (pe_tup (pa_cons (pv 4) pa_nil)) (pa_cons (pv 5) pa_nil)))))
    (pss_cons (ps_expr (xApp K (pv 0) (pa_cons (pe_callTy (xTup K rfl) rfl T.b_tuple boot_tuple (pa_cons (pe_lc (own := [((Str.ofString "_law_letter"), 1)]) rfl sc_law_hand_right.nd (xiAny K pe_str) (blkOk_by (N := n_law_hand_right) (sc := (defScope s_law_hand_right)) (by decide +kernel)) (fun _ _ _ _ _ => (pg_name (i := 1) sc_law_hand_right.nd rfl (by first | exact Or.inl rfl | exact Or.inr rfl))) (fun _ _ _ _ _ => pts_nil) (fun _ _ _ _ _ => (pe_tup (pa_cons (pe_op (xAdd K) pe_str (pv 1)) (pa_cons pe_str (pa_cons (pe_tup pa_nil) (pa_cons pe_str (pa_cons (pe_tup pa_nil) pa_nil)))))))) pa_nil)) pa_nil)))
    (pss_cons (ps_set (i := 2) sc_law_hand_right.nd rfl (by first | exact Or.inl rfl | exact Or.inr rfl) (pe_lst (pa_cons pe_non (pa_cons (pv 4) (pa_cons (pe_lst (pa_cons (pv 4) pa_nil)) (pa_cons (pe_tup (pa_cons (pe_callTy (xList K rfl) rfl T.b_list boot_list (pa_cons (pv 4) pa_nil)) pa_nil)) (pa_cons (xRev K (pv 5)) (pa_cons (pe_tup (pa_cons (pv 4) (pa_cons (pv 4) pa_nil))) (pa_cons (pe_tup (pa_cons (pv 4) (pa_cons pe_non pa_nil))) (pa_cons (pe_tup (pa_cons (pe_tup pa_nil) pa_nil)) pa_nil))))))))))
    (pss_cons (ps_expr (xApp K (pv 2) (pa_cons (pe_tup (pa_cons (pv 4) (pa_cons (pe_tup (pa_cons pe_str (pa_cons pe_str (pa_cons (pe_tup pa_nil) (pa_cons pe_str (pa_cons (pe_tup pa_nil) pa_nil)))))) pa_nil))) pa_nil)))
    (pss_cons (ps_set (i := 6) sc_law_hand_right.nd rfl (by first | exact Or.inl rfl | exact Or.inr rfl) (pe_op (xAdd K) (pe_lc (own := [((Str.ofString "_law_own"), 3)]) rfl sc_law_hand_right.nd (xiAny K (pe_op (xAdd K) (pv 0) (pv 2))) (blkOk_by (N := n_law_hand_right) (sc := (defScope s_law_hand_right)) (by decide +kernel)) (fun _ _ _ _ _ => (pg_name (i := 3) sc_law_hand_right.nd rfl (by first | exact Or.inl rfl | exact Or.inr rfl))) (fun _ _ _ _ _ => pts_nil) (fun _ _ _ _ _ => (xCall (ok_is_plan T (k := k)) T.g_is_plan T.k_is_plan T.B_is_plan (pa_cons (pv 3) pa_nil) (hr.mono (by omega))))) (pe_lst (pa_cons (xCallK (ok_is_plan T (k := k)) T.g_is_plan T.k_is_plan (T.K_is_plan_1) (pk_cons (pv 5) pk_nil) (hr.mono (by omega))) (pa_cons (xCallK (ok_is_step T (k := k)) T.g_is_step T.k_is_step (T.K_is_step_1) (pk_cons (pv 4) pk_nil) (hr.mono (by omega))) (pa_cons (xCallK (ok_is_condition T (k := k)) T.g_is_condition T.k_is_condition (T.K_is_condition_1) (pk_cons (pe_tup pa_nil) pk_nil) (hr.mono (by omega))) pa_nil))))))
    (pss_cons (ps_if (pt_not (xTru K (xCall (ok_law_same T 64 (k := k)) T.g_law_same T.k_law_same T.B_law_same (pa_cons (pv 6) (pa_cons (pe_op (xAdd K) (pe_op (xAdd K) (pe_op op_mulU (pe_lst (pa_cons pe_bl pa_nil)) (pe_callB (xLen K) rfl T.b_len boot_len (pa_cons (pv 0) pa_nil))) (pe_op op_mulU (pe_lst (pa_cons pe_bl pa_nil)) (pe_callB (xLen K) rfl T.b_len boot_len (pa_cons (pv 2) pa_nil)))) (pe_op op_mulU (pe_lst (pa_cons pe_bl pa_nil)) pe_int)) pa_nil)) (hr.mono (by omega))) (fun _ => rfl))) (pss_one (ps_ret pe_bl)) pss_nil)
    (pss_cons (ps_set (i := 0) sc_law_hand_right.nd rfl (by first | exact Or.inl rfl | exact Or.inr rfl) (pe_lst (pa_cons (pe_tup pa_nil) (pa_cons (pe_tup (pa_cons (pe_tup (pa_cons pe_str (pa_cons pe_str pa_nil))) pa_nil)) (pa_cons (pe_tup (pa_cons (pe_tup (pa_cons pe_str (pa_cons pe_str pa_nil))) (pa_cons (pe_tup (pa_cons pe_str (pa_cons pe_str pa_nil))) pa_nil))) pa_nil)))))
    (pss_cons (ps_set (i := 2) sc_law_hand_right.nd rfl (by first | exact Or.inl rfl | exact Or.inr rfl) (pe_lst (pa_cons pe_non (pa_cons (pe_lst pa_nil) (pa_cons (pe_tup (pa_cons pe_str (pa_cons pe_str pa_nil))) (pa_cons (pe_lst (pa_cons (pe_tup (pa_cons pe_str (pa_cons pe_str pa_nil))) pa_nil)) (pa_cons (pe_tup (pa_cons (pe_lst (pa_cons pe_str (pa_cons pe_str pa_nil))) pa_nil)) (pa_cons (pe_tup (pa_cons (pe_tup (pa_cons pe_str (pa_cons pe_int pa_nil))) pa_nil)) (pa_cons (pe_tup (pa_cons (pe_tup (pa_cons pe_str (pa_cons pe_str pa_nil))) pa_nil)) pa_nil)))))))))
    (pss_cons (ps_expr (xApp K (pv 2) (pa_cons (pe_tup (pa_cons (pe_tup (pa_cons pe_str (pa_cons pe_str pa_nil))) pa_nil)) pa_nil)))
    (pss_cons (ps_set (i := 2) sc_law_hand_right.nd rfl (by first | exact Or.inl rfl | exact Or.inr rfl) (pe_op (xAdd K) (pv 2) (pe_lst (pa_cons (pe_tup (pa_cons (pe_tup (pa_cons pe_str (pa_cons pe_str pa_nil))) (pa_cons (pe_tup (pa_cons pe_str (pa_cons pe_str pa_nil))) pa_nil))) (pa_cons (pe_tup (pa_cons (pe_tup (pa_cons pe_str (pa_cons pe_str pa_nil))) (pa_cons (pe_tup (pa_cons pe_str (pa_cons pe_str pa_nil))) pa_nil))) (pa_cons (pe_tup (pa_cons (pe_tup (pa_cons pe_str pa_nil)) pa_nil)) (pa_cons (pe_tup (pa_cons (pe_tup (pa_cons pe_str (pa_cons pe_str (pa_cons pe_str pa_nil)))) pa_nil)) pa_nil)))))))
    (pss_cons (ps_set (i := 2) sc_law_hand_right.nd rfl (by first | exact Or.inl rfl | exact Or.inr rfl) (pe_op (xAdd K) (pv 2) (pe_lst (pa_cons (pe_tup (pa_cons (pe_tup (pa_cons pe_str (pa_cons pe_str pa_nil))) pa_nil)) (pa_cons (pe_tup (pa_cons (pe_tup (pa_cons pe_str (pa_cons pe_str pa_nil))) pa_nil)) (pa_cons (pe_tup (pa_cons (pe_tup (pa_cons pe_str (pa_cons pe_str pa_nil))) pa_nil)) (pa_cons (pe_tup (pa_cons (pe_tup (pa_cons pe_str (pa_cons pe_str pa_nil))) pa_nil)) pa_nil)))))))
    (pss_cons (ps_expr (xApp K (pv 2) (pa_cons (pe_tup (pa_cons (pe_tup (pa_cons pe_str (pa_cons pe_str pa_nil))) pa_nil)) pa_nil)))
    (pss_cons (ps_set (i := 6) sc_law_hand_right.nd rfl (by first | exact Or.inl rfl | exact Or.inr rfl) (pe_op (xAdd K) (pe_lc (own := [((Str.ofString "_law_own"), 3)]) rfl sc_law_hand_right.nd (xiAny K (pe_op (xAdd K) (pv 0) (pv 2))) (blkOk_by (N := n_law_hand_right) (sc := (defScope s_law_hand_right)) (by decide +kernel)) (fun _ _ _ _ _ => (pg_name (i := 3) sc_law_hand_right.nd rfl (by first | exact Or.inl rfl | exact Or.inr rfl))) (fun _ _ _ _ _ => pts_nil) (fun _ _ _ _ _ => (xCall (ok_is_counts T (k := k)) T.g_is_counts T.k_is_counts T.B_is_counts (pa_cons (pv 3) pa_nil) (hr.mono (by omega))))) (pe_lst (pa_cons (xCallK (ok_is_counts T (k := k)) T.g_is_counts T.k_is_counts (T.K_is_counts_1) (pk_cons (pe_ix (xIx K) (pv 0) pe_int (fun _ _ => rfl)) pk_nil) (hr.mono (by omega))) pa_nil))))
    (pss_one (ps_ret (xCall (ok_law_same T 64 (k := k)) T.g_law_same T.k_law_same T.B_law_same (pa_cons (pv 6) (pa_cons (pe_op (xAdd K) (pe_op (xAdd K) (pe_op op_mulU (pe_lst (pa_cons pe_bl pa_nil)) (pe_callB (xLen K) rfl T.b_len boot_len (pa_cons (pv 0) pa_nil))) (pe_op op_mulU (pe_lst (pa_cons pe_bl pa_nil)) (pe_callB (xLen K) rfl T.b_len boot_len (pa_cons (pv 2) pa_nil)))) (pe_lst (pa_cons pe_bl pa_nil))) pa_nil)) (hr.mono (by omega)))))))))))))))))))))))))))))), ?_⟩
  exact fnP_ok (N := n_law_hand_right) (p := 0) (b := b_law_hand_right) (es_seq (es_set (i := 0) (ev_lst (ea_cons (ev_tup ea_nil) (ea_cons (ev_tup (ea_cons (ev_tup (ea_cons ev_str (ea_cons ev_int ea_nil))) ea_nil)) (ea_cons (ev_tup (ea_cons (ev_tup (ea_cons ev_str (ea_cons ev_int ea_nil))) (ea_cons (ev_tup (ea_cons ev_str (ea_cons ev_int ea_nil))) ea_nil))) ea_nil)))))
    (es_seq (es_drop (ev_app (ev_cb (ea_cons (ev_lc (ei_any ev_str) eg_name (by decide) et_yes (ev_tup (ea_cons ev_var (ea_cons ev_int ea_nil)))) ea_nil) cs_tupU)))
    (es_seq (es_set (i := 2) (ev_lst (ea_cons ev_non (ea_cons ev_int (ea_cons ev_str (ea_cons (ev_lst ea_nil) (ea_cons (ev_lst (ea_cons (ev_tup (ea_cons ev_str (ea_cons ev_int ea_nil))) ea_nil)) (ea_cons (ev_tup (ea_cons ev_str (ea_cons ev_int ea_nil))) (ea_cons (ev_tup (ea_cons (ev_tup (ea_cons ev_str (ea_cons ev_int ea_nil))) ea_nil)) (ea_cons (ev_tup (ea_cons (ev_tup (ea_cons ev_str (ea_cons (ev_un ev_int os_neg) ea_nil))) ea_nil)) (ea_cons (ev_tup (ea_cons (ev_tup (ea_cons ev_str (ea_cons ev_bl ea_nil))) ea_nil)) ea_nil)))))))))))
    (es_seq (es_drop (ev_app (ev_tup (ea_cons (ev_tup (ea_cons ev_str (ea_cons ev_str ea_nil))) ea_nil))))
    (es_seq (es_set (i := 2) (ev_op ev_var (ev_lst (ea_cons (ev_tup (ea_cons (ev_tup (ea_cons ev_str ea_nil)) ea_nil)) (ea_cons (ev_tup (ea_cons (ev_tup (ea_cons ev_str (ea_cons ev_int (ea_cons ev_int ea_nil)))) ea_nil)) (ea_cons (ev_tup (ea_cons (ev_tup (ea_cons ev_str (ea_cons ev_int ea_nil))) ea_nil)) ea_nil)))) os_addU))
    (es_seq (es_set (i := 2) (ev_op ev_var (ev_lst (ea_cons (ev_tup (ea_cons (ev_tup (ea_cons ev_str (ea_cons ev_int ea_nil))) ea_nil)) (ea_cons (ev_tup (ea_cons (ev_tup (ea_cons ev_str (ea_cons ev_int ea_nil))) (ea_cons (ev_tup (ea_cons ev_str (ea_cons ev_int ea_nil))) ea_nil))) (ea_cons (ev_tup (ea_cons (ev_tup (ea_cons ev_str (ea_cons ev_int ea_nil))) (ea_cons (ev_tup (ea_cons ev_str (ea_cons ev_int ea_nil))) ea_nil))) (ea_cons (ev_tup (ea_cons (ev_lst (ea_cons ev_str (ea_cons ev_int ea_nil))) ea_nil)) (ea_cons (ev_tup (ea_cons (ev_tup (ea_cons ev_str (ea_cons ev_int ea_nil))) ea_nil)) ea_nil)))))) os_addU))
    (es_seq (es_drop (ev_app (ev_tup (ea_cons (ev_tup (ea_cons ev_int (ea_cons ev_int ea_nil))) ea_nil))))
    (es_seq (es_set (i := 2) (ev_op ev_var (ev_lst (ea_cons (ev_tup (ea_cons ev_non ea_nil)) (ea_cons (ev_tup (ea_cons (ev_tup (ea_cons ev_str (ea_cons ev_int ea_nil))) ea_nil)) (ea_cons (ev_tup (ea_cons (ev_tup (ea_cons ev_str (ea_cons ev_int ea_nil))) ea_nil)) ea_nil)))) os_addU))
    (es_seq (es_if (et_not (et_tru (ev_call (fn := (f_law_same 64)) (ms := [false, false]) (ea_cons (ev_lc (ei_any (ev_op ev_var ev_var os_addU)) eg_name (by decide) et_yes (ev_call (fn := f_is_condition) (ms := [false]) (ea_cons ev_var ea_nil))) (ea_cons (ev_op (ev_op (ev_lst (ea_cons ev_bl ea_nil)) (ev_cb (ea_cons ev_var ea_nil) cs_lenU) os_mulU) (ev_op (ev_lst (ea_cons ev_bl ea_nil)) (ev_cb (ea_cons ev_var ea_nil) cs_lenU) os_mulU) os_addU) ea_nil))))) (es_ret ev_bl) es_next)
    (es_seq (es_if (et_not (et_tru (ev_call (fn := f_law_steps_right) (ms := []) ea_nil))) (es_ret ev_bl) es_next)
    (es_seq (es_set (i := 4) (ev_tup (ea_cons ev_str (ea_cons ev_str (ea_cons (ev_tup (ea_cons ev_str (ea_cons ev_str (ea_cons ev_str ea_nil)))) (ea_cons ev_str (ea_cons (ev_tup (ea_cons (ev_tup (ea_cons ev_str (ea_cons ev_int ea_nil))) ea_nil)) ea_nil)))))))
    (es_seq (es_set (i := 5) (ev_tup (ea_cons (ev_tup (ea_cons ev_str (ea_cons ev_str (ea_cons (ev_tup (ea_cons ev_str ea_nil)) (ea_cons ev_str (ea_cons (ev_tup ea_nil) ea_nil)))))) (ea_cons (ev_tup (ea_cons ev_str (ea_cons ev_str (ea_cons (ev_tup (ea_cons ev_str ea_nil)) (ea_cons ev_str (ea_cons (ev_tup ea_nil) ea_nil)))))) ea_nil))))
    (es_seq (es_set (i := 0) (ev_lst (ea_cons (ev_tup ea_nil) (ea_cons (ev_tup (ea_cons ev_var ea_nil)) (ea_cons ev_var ea_nil)))))
    (es_seq (es_drop (ev_app (ev_cb (ea_cons (ev_lc (ei_any ev_str) eg_name (by decide) et_yes (ev_tup (ea_cons (ev_op ev_str ev_var os_addU) (ea_cons ev_str (ea_cons (ev_tup ea_nil) (ea_cons ev_str (ea_cons (ev_tup ea_nil) ea_nil))))))) ea_nil) cs_tupU)))
    (es_seq (es_set (i := 2) (ev_lst (ea_cons ev_non (ea_cons ev_var (ea_cons (ev_lst (ea_cons ev_var ea_nil)) (ea_cons (ev_tup (ea_cons (ev_cb (ea_cons ev_var ea_nil) cs_listU) ea_nil)) (ea_cons (ev_rev ev_var) (ea_cons (ev_tup (ea_cons ev_var (ea_cons ev_var ea_nil))) (ea_cons (ev_tup (ea_cons ev_var (ea_cons ev_non ea_nil))) (ea_cons (ev_tup (ea_cons (ev_tup ea_nil) ea_nil)) ea_nil))))))))))
    (es_seq (es_drop (ev_app (ev_tup (ea_cons ev_var (ea_cons (ev_tup (ea_cons ev_str (ea_cons ev_str (ea_cons (ev_tup ea_nil) (ea_cons ev_str (ea_cons (ev_tup ea_nil) ea_nil)))))) ea_nil)))))
    (es_seq (es_set (i := 6) (ev_op (ev_lc (ei_any (ev_op ev_var ev_var os_addU)) eg_name (by decide) et_yes (ev_call (fn := f_is_plan) (ms := [false]) (ea_cons ev_var ea_nil))) (ev_lst (ea_cons (ev_callK0 (fn := f_is_plan) (ms := [false]) (ea_cons ev_var ea_nil)) (ea_cons (ev_callK0 (fn := f_is_step) (ms := [false]) (ea_cons ev_var ea_nil)) (ea_cons (ev_callK0 (fn := f_is_condition) (ms := [false]) (ea_cons (ev_tup ea_nil) ea_nil)) ea_nil)))) os_addU))
    (es_seq (es_if (et_not (et_tru (ev_call (fn := (f_law_same 64)) (ms := [false, false]) (ea_cons ev_var (ea_cons (ev_op (ev_op (ev_op (ev_lst (ea_cons ev_bl ea_nil)) (ev_cb (ea_cons ev_var ea_nil) cs_lenU) os_mulU) (ev_op (ev_lst (ea_cons ev_bl ea_nil)) (ev_cb (ea_cons ev_var ea_nil) cs_lenU) os_mulU) os_addU) (ev_op (ev_lst (ea_cons ev_bl ea_nil)) ev_int os_mulU) os_addU) ea_nil))))) (es_ret ev_bl) es_next)
    (es_seq (es_set (i := 0) (ev_lst (ea_cons (ev_tup ea_nil) (ea_cons (ev_tup (ea_cons (ev_tup (ea_cons ev_str (ea_cons ev_str ea_nil))) ea_nil)) (ea_cons (ev_tup (ea_cons (ev_tup (ea_cons ev_str (ea_cons ev_str ea_nil))) (ea_cons (ev_tup (ea_cons ev_str (ea_cons ev_str ea_nil))) ea_nil))) ea_nil)))))
    (es_seq (es_set (i := 2) (ev_lst (ea_cons ev_non (ea_cons (ev_lst ea_nil) (ea_cons (ev_tup (ea_cons ev_str (ea_cons ev_str ea_nil))) (ea_cons (ev_lst (ea_cons (ev_tup (ea_cons ev_str (ea_cons ev_str ea_nil))) ea_nil)) (ea_cons (ev_tup (ea_cons (ev_lst (ea_cons ev_str (ea_cons ev_str ea_nil))) ea_nil)) (ea_cons (ev_tup (ea_cons (ev_tup (ea_cons ev_str (ea_cons ev_int ea_nil))) ea_nil)) (ea_cons (ev_tup (ea_cons (ev_tup (ea_cons ev_str (ea_cons ev_str ea_nil))) ea_nil)) ea_nil)))))))))
    (es_seq (es_drop (ev_app (ev_tup (ea_cons (ev_tup (ea_cons ev_str (ea_cons ev_str ea_nil))) ea_nil))))
    (es_seq (es_set (i := 2) (ev_op ev_var (ev_lst (ea_cons (ev_tup (ea_cons (ev_tup (ea_cons ev_str (ea_cons ev_str ea_nil))) (ea_cons (ev_tup (ea_cons ev_str (ea_cons ev_str ea_nil))) ea_nil))) (ea_cons (ev_tup (ea_cons (ev_tup (ea_cons ev_str (ea_cons ev_str ea_nil))) (ea_cons (ev_tup (ea_cons ev_str (ea_cons ev_str ea_nil))) ea_nil))) (ea_cons (ev_tup (ea_cons (ev_tup (ea_cons ev_str ea_nil)) ea_nil)) (ea_cons (ev_tup (ea_cons (ev_tup (ea_cons ev_str (ea_cons ev_str (ea_cons ev_str ea_nil)))) ea_nil)) ea_nil))))) os_addU))
    (es_seq (es_set (i := 2) (ev_op ev_var (ev_lst (ea_cons (ev_tup (ea_cons (ev_tup (ea_cons ev_str (ea_cons ev_str ea_nil))) ea_nil)) (ea_cons (ev_tup (ea_cons (ev_tup (ea_cons ev_str (ea_cons ev_str ea_nil))) ea_nil)) (ea_cons (ev_tup (ea_cons (ev_tup (ea_cons ev_str (ea_cons ev_str ea_nil))) ea_nil)) (ea_cons (ev_tup (ea_cons (ev_tup (ea_cons ev_str (ea_cons ev_str ea_nil))) ea_nil)) ea_nil))))) os_addU))
    (es_seq (es_drop (ev_app (ev_tup (ea_cons (ev_tup (ea_cons ev_str (ea_cons ev_str ea_nil))) ea_nil))))
    (es_seq (es_set (i := 6) (ev_op (ev_lc (ei_any (ev_op ev_var ev_var os_addU)) eg_name (by decide) et_yes (ev_call (fn := f_is_counts) (ms := [false]) (ea_cons ev_var ea_nil))) (ev_lst (ea_cons (ev_callK0 (fn := f_is_counts) (ms := [false]) (ea_cons (ev_op ev_var ev_int os_ix) ea_nil)) ea_nil)) os_addU))
    (es_ret (ev_call (fn := (f_law_same 64)) (ms := [false, false]) (ea_cons ev_var (ea_cons (ev_op (ev_op (ev_op (ev_lst (ea_cons ev_bl ea_nil)) (ev_cb (ea_cons ev_var ea_nil) cs_lenU) os_mulU) (ev_op (ev_lst (ea_cons ev_bl ea_nil)) (ev_cb (ea_cons ev_var ea_nil) cs_lenU) os_mulU) os_addU) (ev_lst (ea_cons ev_bl ea_nil)) os_addU) ea_nil))))))))))))))))))))))))))))) (by decide) h
theorem ok_law_right (T : Tp K mg x) {k : Nat} : FnOk P w K mg base CX0 (k + 68) x.a_law_right x.d_law_right ["_law_tin"] (spF f_law_right) := by
  refine T.F_law_right.ok sc_law_right (fun vs H Q E h => fnP_len h) (fun cdv A outer s H vs Q E hr h => ?_)
  have hr : Room (k + 67) _ := hr
  refine ⟨_, (pss_cons (ps_for PassesOwn.never rfl (pi_range1 rfl T.b_range (pa_cons pe_int pa_nil)) (pg_name (i := 1) sc_law_right.nd rfl (by first | exact Or.inl rfl | exact Or.inr rfl)) (pss_cons (ps_set (i := 2) sc_law_right.nd rfl (by first | exact Or.inl rfl | exact Or.inr rfl) (xCall (ok_law_form T (k := k)) T.g_law_form T.k_law_form T.B_law_form (pa_cons (pv 0) (pa_cons pe_int (pa_cons (pe_tup (pa_cons pe_str (pa_cons pe_str pa_nil))) pa_nil))) (hr.mono (by omega))))
    (pss_cons (ps_set (i := 3) sc_law_right.nd rfl (by first | exact Or.inl rfl | exact Or.inr rfl) (xCall (ok_law_stock T (k := k)) T.g_law_stock T.k_law_stock T.B_law_stock (pa_cons (pv 0) (pa_cons (pv 2) (pa_cons (pe_tup pa_nil) (pa_cons (pe_lst (pa_cons pe_str (pa_cons pe_str pa_nil))) pa_nil)))) (hr.mono (by omega))))
    (pss_cons (ps_set (i := 4) sc_law_right.nd rfl (by first | exact Or.inl rfl | exact Or.inr rfl) (pe_ifExp (pt_cmpR op_gt (xCall (ok_law_take T (k := k)) T.g_law_take T.k_law_take T.B_law_take (pa_cons (pv 0) (pa_cons pe_int pa_nil)) (hr.mono (by omega))) pe_int (nomark _)) (xCall (ok_law_spoilt T 64 (k := k)) T.g_law_spoilt T.k_law_spoilt T.B_law_spoilt (pa_cons (pv 0) (pa_cons (pv 2) (pa_cons pe_int pa_nil))) (hr.mono (by omega))) (pv 2)))
    (pss_cons (ps_set (i := 5) sc_law_right.nd rfl (by first | exact Or.inl rfl | exact Or.inr rfl) (pe_ifExp (pt_cmpR op_gt (xCall (ok_law_take T (k := k)) T.g_law_take T.k_law_take T.B_law_take (pa_cons (pv 0) (pa_cons pe_int pa_nil)) (hr.mono (by omega))) pe_int (nomark _)) (xCall (ok_law_spoilt T 64 (k := k)) T.g_law_spoilt T.k_law_spoilt T.B_law_spoilt (pa_cons (pv 0) (pa_cons (pv 3) (pa_cons pe_int pa_nil))) (hr.mono (by omega))) (pv 3)))
    (pss_cons (ps_set (i := 6) sc_law_right.nd rfl (by first | exact Or.inl rfl | exact Or.inr rfl) (xCall (ok_law_spoilt T 64 (k := k)) T.g_law_spoilt T.k_law_spoilt T.B_law_spoilt (pa_cons (pv 0) (pa_cons (xCall (ok_law_of T (k := k)) T.g_law_of T.k_law_of T.B_law_of (pa_cons (pv 0) (pa_cons (pv 2) pa_nil)) (hr.mono (by omega))) (pa_cons pe_int pa_nil))) (hr.mono (by omega))))
    (pss_cons (ps_set (i := 7) sc_law_right.nd rfl (by first | exact Or.inl rfl | exact Or.inr rfl) (xCall (ok_law_spoilt T 64 (k := k)) T.g_law_spoilt T.k_law_spoilt T.B_law_spoilt (pa_cons (pv 0) (pa_cons (pe_tup (pa_cons (pe_tup (pa_cons pe_str (pa_cons pe_int pa_nil))) (pa_cons (pe_tup (pa_cons pe_str (pa_cons pe_int pa_nil))) pa_nil))) (pa_cons pe_int pa_nil))) (hr.mono (by omega))))
    (pss_cons (ps_set (i := 8) sc_law_right.nd rfl (by first | exact Or.inl rfl | exact Or.inr rfl) (pe_lst (pa_cons (xCall (ok_is_plan T (k := k)) T.g_is_plan T.k_is_plan T.B_is_plan (pa_cons (pv 4) pa_nil) (hr.mono (by omega))) (pa_cons (xCall (ok_is_plan T (k := k)) T.g_is_plan T.k_is_plan T.B_is_plan (pa_cons (pv 2) pa_nil) (hr.mono (by omega))) (pa_cons (xCall (ok_is_counts T (k := k)) T.g_is_counts T.k_is_counts T.B_is_counts (pa_cons (pv 5) pa_nil) (hr.mono (by omega))) (pa_cons (xCall (ok_is_counts T (k := k)) T.g_is_counts T.k_is_counts T.B_is_counts (pa_cons (pv 3) pa_nil) (hr.mono (by omega))) (pa_cons (xCall (ok_is_step T (k := k)) T.g_is_step T.k_is_step T.B_is_step (pa_cons (pv 6) pa_nil) (hr.mono (by omega))) pa_nil)))))))
    (pss_cons (ps_expr (xApp K (pv 8) (pa_cons (xCall (ok_is_condition T (k := k)) T.g_is_condition T.k_is_condition T.B_is_condition (pa_cons (pv 7) pa_nil) (hr.mono (by omega))) pa_nil)))
    (pss_cons (ps_set (i := 9) sc_law_right.nd rfl (by first | exact Or.inl rfl | exact Or.inr rfl) (pe_lst (pa_cons (xCall (ok_law_is_form T (k := k)) T.g_law_is_form T.k_law_is_form T.B_law_is_form (pa_cons (pv 4) pa_nil) (hr.mono (by omega))) (pa_cons pe_bl (pa_cons (xCall (ok_law_is_stock T (k := k)) T.g_law_is_stock T.k_law_is_stock T.B_law_is_stock (pa_cons (pv 5) pa_nil) (hr.mono (by omega))) (pa_cons pe_bl (pa_cons (xCall (ok_law_is_bit T (k := k)) T.g_law_is_bit T.k_law_is_bit T.B_law_is_bit (pa_cons (pv 6) pa_nil) (hr.mono (by omega))) pa_nil)))))))
    (pss_cons (ps_expr (xApp K (pv 9) (pa_cons (xCall (ok_law_is_on T (k := k)) T.g_law_is_on T.k_law_is_on T.B_law_is_on (pa_cons (pv 7) pa_nil) (hr.mono (by omega))) pa_nil)))
    (pss_one (ps_if (pt_not (xTru K (xCall (ok_law_same T 64 (k := k)) T.g_law_same T.k_law_same T.B_law_same (pa_cons (pv 8) (pa_cons (pv 9) pa_nil)) (hr.mono (by omega))) (fun _ => rfl))) (pss_one (ps_ret pe_bl)) pss_nil)))))))))))))
    (pss_one (ps_ret pe_bl))), ?_⟩
  exact fnP_ok (N := n_law_right) (p := 1) (b := b_law_right) (es_seq (es_for (ei_r1 ev_int) eg_name (es_seq (es_set (i := 2) (ev_call (fn := f_law_form) (ms := [true, false, true]) (ea_cons ev_var (ea_cons ev_int (ea_cons (ev_tup (ea_cons ev_str (ea_cons ev_str ea_nil))) ea_nil)))))
    (es_seq (es_set (i := 3) (ev_call (fn := f_law_stock) (ms := [true, false, true, true]) (ea_cons ev_var (ea_cons ev_var (ea_cons (ev_tup ea_nil) (ea_cons (ev_lst (ea_cons ev_str (ea_cons ev_str ea_nil))) ea_nil))))))
    (es_seq (es_set (i := 4) (ev_if (et_test (ev_op (ev_call (fn := f_law_take) (ms := [true, true]) (ea_cons ev_var (ea_cons ev_int ea_nil))) ev_int os_gt)) (ev_call (fn := (f_law_spoilt 64)) (ms := [true, true, true]) (ea_cons ev_var (ea_cons ev_var (ea_cons ev_int ea_nil)))) ev_var))
    (es_seq (es_set (i := 5) (ev_if (et_test (ev_op (ev_call (fn := f_law_take) (ms := [true, true]) (ea_cons ev_var (ea_cons ev_int ea_nil))) ev_int os_gt)) (ev_call (fn := (f_law_spoilt 64)) (ms := [true, true, true]) (ea_cons ev_var (ea_cons ev_var (ea_cons ev_int ea_nil)))) ev_var))
    (es_seq (es_set (i := 6) (ev_call (fn := (f_law_spoilt 64)) (ms := [true, true, true]) (ea_cons ev_var (ea_cons (ev_call (fn := f_law_of) (ms := [true, true]) (ea_cons ev_var (ea_cons ev_var ea_nil))) (ea_cons ev_int ea_nil)))))
    (es_seq (es_set (i := 7) (ev_call (fn := (f_law_spoilt 64)) (ms := [true, true, true]) (ea_cons ev_var (ea_cons (ev_tup (ea_cons (ev_tup (ea_cons ev_str (ea_cons ev_int ea_nil))) (ea_cons (ev_tup (ea_cons ev_str (ea_cons ev_int ea_nil))) ea_nil))) (ea_cons ev_int ea_nil)))))
    (es_seq (es_set (i := 8) (ev_lst (ea_cons (ev_call (fn := f_is_plan) (ms := [false]) (ea_cons ev_var ea_nil)) (ea_cons (ev_call (fn := f_is_plan) (ms := [false]) (ea_cons ev_var ea_nil)) (ea_cons (ev_call (fn := f_is_counts) (ms := [false]) (ea_cons ev_var ea_nil)) (ea_cons (ev_call (fn := f_is_counts) (ms := [false]) (ea_cons ev_var ea_nil)) (ea_cons (ev_call (fn := f_is_step) (ms := [false]) (ea_cons ev_var ea_nil)) ea_nil)))))))
    (es_seq (es_drop (ev_app (ev_call (fn := f_is_condition) (ms := [false]) (ea_cons ev_var ea_nil))))
    (es_seq (es_set (i := 9) (ev_lst (ea_cons (ev_call (fn := f_law_is_form) (ms := [false]) (ea_cons ev_var ea_nil)) (ea_cons ev_bl (ea_cons (ev_call (fn := f_law_is_stock) (ms := [false]) (ea_cons ev_var ea_nil)) (ea_cons ev_bl (ea_cons (ev_call (fn := f_law_is_bit) (ms := [true]) (ea_cons ev_var ea_nil)) ea_nil)))))))
    (es_seq (es_drop (ev_app (ev_call (fn := f_law_is_on) (ms := [false]) (ea_cons ev_var ea_nil))))
    (es_if (et_not (et_tru (ev_call (fn := (f_law_same 64)) (ms := [false, false]) (ea_cons ev_var (ea_cons ev_var ea_nil))))) (es_ret ev_bl) es_next))))))))))))
    (es_ret ev_bl)) (by decide) h
theorem ok_law (T : Tp K mg x) {k : Nat} : FnOk P w K mg base CX0 (k + 69) x.a_law x.d_law ["_law_script"] (spF f_law) := by
  refine T.F_law.ok sc_law (fun vs H Q E h => fnP_len h) (fun cdv A outer s H vs Q E hr h => ?_)
  have hr : Room (k + 68) _ := hr
  refine ⟨_, (pss_cons (ps_if (pt_not (xTru K (xCall0 (ok_law_hand_right T (k := k)) T.g_law_hand_right T.k_law_hand_right T.B_law_hand_right (hr.mono (by omega))) (fun _ => rfl))) (pss_one (ps_ret pe_bl)) pss_nil)
    (pss_cons (ps_set (i := 1) sc_law.nd rfl (by first | exact Or.inl rfl | exact Or.inr rfl) (xCall (ok_law_cells T (k := k)) T.g_law_cells T.k_law_cells T.B_law_cells (pa_cons (pv 0) (pa_cons pe_int pa_nil)) (hr.mono (by omega))))
    (pss_one (ps_ret (pe_callB (xAll K rfl) rfl T.b_all boot_all (pa_cons (pe_lc (own := [((Str.ofString "_law_k"), 2)]) rfl sc_law.nd (pi_range1 rfl T.b_range (pa_cons (pe_callB (xLen K) rfl T.b_len boot_len (pa_cons (pv 1) pa_nil)) pa_nil)) (blkOk_by (N := n_law) (sc := (defScope s_law)) (by decide +kernel)) (fun _ _ _ _ _ => (pg_name (i := 2) sc_law.nd rfl (by first | exact Or.inl rfl | exact Or.inr rfl))) (fun _ _ _ _ _ => pts_nil) (fun _ _ _ _ _ => (xCall (ok_law_right T (k := k)) T.g_law_right T.k_law_right T.B_law_right (pa_cons (xCall (ok_law_box T (k := k)) T.g_law_box T.k_law_box T.B_law_box (pa_cons (pv 1) (pa_cons (pv 2) pa_nil)) (hr.mono (by omega))) pa_nil) (hr.mono (by omega))))) pa_nil)))))), ?_⟩
  exact fnP_ok (N := n_law) (p := 1) (b := b_law) (es_seq (es_if (et_not (et_tru (ev_call (fn := f_law_hand_right) (ms := []) ea_nil))) (es_ret ev_bl) es_next)
    (es_seq (es_set (i := 1) (ev_call (fn := f_law_cells) (ms := [true, false]) (ea_cons ev_var (ea_cons ev_int ea_nil))))
    (es_ret (ev_cb (ea_cons (ev_lc (ei_r1 (ev_cb (ea_cons ev_var ea_nil) cs_lenU)) eg_name (by decide) et_yes (ev_call (fn := f_law_right) (ms := [true]) (ea_cons (ev_call (fn := f_law_box) (ms := [true, false]) (ea_cons ev_var (ea_cons ev_var ea_nil))) ea_nil))) ea_nil) cs_all)))) (by decide) h
theorem all_mk {h : Heap} (X : K.In h) (G : h.Ns mainGlobals mg) {fa : Addr} (hfa : mg "law" = some (.ref fa))
    {oc0 kV0 dc0 pm0 cd0 ct0 : Value} {od0 an0 : Option Addr} {sl0 : Array (Option Value)} {ad0 : Addr} {oc1 kV1 dc1 pm1 cd1 ct1 : Value} {od1 an1 : Option Addr} {sl1 : Array (Option Value)} {ad1 : Addr} {oc2 kV2 dc2 pm2 cd2 ct2 : Value} {od2 an2 : Option Addr} {sl2 : Array (Option Value)} {ad2 : Addr} {oc3 kV3 dc3 pm3 cd3 ct3 : Value} {od3 an3 : Option Addr} {sl3 : Array (Option Value)} {ad3 : Addr} {oc4 kV4 dc4 pm4 cd4 ct4 : Value} {od4 an4 : Option Addr} {sl4 : Array (Option Value)} {ad4 : Addr} {oc5 kV5 dc5 pm5 cd5 ct5 : Value} {od5 an5 : Option Addr} {sl5 : Array (Option Value)} {ad5 : Addr} {oc6 kV6 dc6 pm6 cd6 ct6 : Value} {od6 an6 : Option Addr} {sl6 : Array (Option Value)} {ad6 : Addr} {oc7 kV7 dc7 pm7 cd7 ct7 : Value} {od7 an7 : Option Addr} {sl7 : Array (Option Value)} {ad7 : Addr} {oc8 kV8 dc8 pm8 cd8 ct8 : Value} {od8 an8 : Option Addr} {sl8 : Array (Option Value)} {ad8 : Addr} {oc9 kV9 dc9 pm9 cd9 ct9 : Value} {od9 an9 : Option Addr} {sl9 : Array (Option Value)} {ad9 : Addr} {oc10 kV10 dc10 pm10 cd10 ct10 : Value} {od10 an10 : Option Addr} {sl10 : Array (Option Value)} {ad10 : Addr} {oc11 kV11 dc11 pm11 cd11 ct11 : Value} {od11 an11 : Option Addr} {sl11 : Array (Option Value)} {ad11 : Addr} {oc12 kV12 dc12 pm12 cd12 ct12 : Value} {od12 an12 : Option Addr} {sl12 : Array (Option Value)} {ad12 : Addr} {oc13 kV13 dc13 pm13 cd13 ct13 : Value} {od13 an13 : Option Addr} {sl13 : Array (Option Value)} {ad13 : Addr} {oc14 kV14 dc14 pm14 cd14 ct14 : Value} {od14 an14 : Option Addr} {sl14 : Array (Option Value)} {ad14 : Addr} {oc15 kV15 dc15 pm15 cd15 ct15 : Value} {od15 an15 : Option Addr} {sl15 : Array (Option Value)} {ad15 : Addr} {oc16 kV16 dc16 pm16 cd16 ct16 : Value} {od16 an16 : Option Addr} {sl16 : Array (Option Value)} {ad16 : Addr} {oc17 kV17 dc17 pm17 cd17 ct17 : Value} {od17 an17 : Option Addr} {sl17 : Array (Option Value)} {ad17 : Addr} {oc18 kV18 dc18 pm18 cd18 ct18 : Value} {od18 an18 : Option Addr} {sl18 : Array (Option Value)} {ad18 : Addr} {oc19 kV19 dc19 pm19 cd19 ct19 : Value} {od19 an19 : Option Addr} {sl19 : Array (Option Value)} {ad19 : Addr} {oc20 kV20 dc20 pm20 cd20 ct20 : Value} {od20 an20 : Option Addr} {sl20 : Array (Option Value)} {ad20 : Addr} {oc21 kV21 dc21 pm21 cd21 ct21 : Value} {od21 an21 : Option Addr} {sl21 : Array (Option Value)} {ad21 : Addr} {oc22 kV22 dc22 pm22 cd22 ct22 : Value} {od22 an22 : Option Addr} {sl22 : Array (Option Value)} {ad22 : Addr} {oc23 kV23 dc23 pm23 cd23 ct23 : Value} {od23 an23 : Option Addr} {sl23 : Array (Option Value)} {ad23 : Addr} {oc24 kV24 dc24 pm24 cd24 ct24 : Value} {od24 an24 : Option Addr} {sl24 : Array (Option Value)} {ad24 : Addr} {oc25 kV25 dc25 pm25 cd25 ct25 : Value} {od25 an25 : Option Addr} {sl25 : Array (Option Value)} {ad25 : Addr} {oc26 kV26 dc26 pm26 cd26 ct26 : Value} {od26 an26 : Option Addr} {sl26 : Array (Option Value)} {ad26 : Addr} {oc27 kV27 dc27 pm27 cd27 ct27 : Value} {od27 an27 : Option Addr} {sl27 : Array (Option Value)} {ad27 : Addr} {oc28 kV28 dc28 pm28 cd28 ct28 : Value} {od28 an28 : Option Addr} {sl28 : Array (Option Value)} {ad28 : Addr} {oc29 kV29 dc29 pm29 cd29 ct29 : Value} {od29 an29 : Option Addr} {sl29 : Array (Option Value)} {ad29 : Addr} {oc30 kV30 dc30 pm30 cd30 ct30 : Value} {od30 an30 : Option Addr} {sl30 : Array (Option Value)} {ad30 : Addr}
    (a0 : PySem.W.nsIn K mainGlobals "is_number" = some (some (.ref ad0))) (l0 : K.lookup ad0 = some ⟨oc0, od0, .func (PySem.W.fnOf "is_number" "is_number" (defArgs s_is_number) (defBody s_is_number) (defScope s_is_number) .none kV0 dc0 pm0 an0 cd0 ct0), sl0⟩) (c0 : PySem.W.codeIn K cd0 "is_number" = true) (k0 : PySem.W.keepIn K (.ref ad0) = true)
    (a1 : PySem.W.nsIn K mainGlobals "is_name" = some (some (.ref ad1))) (l1 : K.lookup ad1 = some ⟨oc1, od1, .func (PySem.W.fnOf "is_name" "is_name" (defArgs s_is_name) (defBody s_is_name) (defScope s_is_name) .none kV1 dc1 pm1 an1 cd1 ct1), sl1⟩) (c1 : PySem.W.codeIn K cd1 "is_name" = true) (k1 : PySem.W.keepIn K (.ref ad1) = true)
    (a2 : PySem.W.nsIn K mainGlobals "is_tuple_of" = some (some (.ref ad2))) (l2 : K.lookup ad2 = some ⟨oc2, od2, .func (PySem.W.fnOf "is_tuple_of" "is_tuple_of" (defArgs s_is_tuple_of) (defBody s_is_tuple_of) (defScope s_is_tuple_of) .none kV2 dc2 pm2 an2 cd2 ct2), sl2⟩) (c2 : PySem.W.codeIn K cd2 "is_tuple_of" = true) (k2 : PySem.W.keepIn K (.ref ad2) = true)
    (a3 : PySem.W.nsIn K mainGlobals "is_ascending" = some (some (.ref ad3))) (l3 : K.lookup ad3 = some ⟨oc3, od3, .func (PySem.W.fnOf "is_ascending" "is_ascending" (defArgs s_is_ascending) (defBody s_is_ascending) (defScope s_is_ascending) .none kV3 dc3 pm3 an3 cd3 ct3), sl3⟩) (c3 : PySem.W.codeIn K cd3 "is_ascending" = true) (k3 : PySem.W.keepIn K (.ref ad3) = true)
    (a4 : PySem.W.nsIn K mainGlobals "are_names" = some (some (.ref ad4))) (l4 : K.lookup ad4 = some ⟨oc4, od4, .func (PySem.W.fnOf "are_names" "are_names" (defArgs s_are_names) (defBody s_are_names) (defScope s_are_names) .none kV4 dc4 pm4 an4 cd4 ct4), sl4⟩) (c4 : PySem.W.codeIn K cd4 "are_names" = true) (k4 : PySem.W.keepIn K (.ref ad4) = true)
    (a5 : PySem.W.nsIn K mainGlobals "is_demand" = some (some (.ref ad5))) (l5 : K.lookup ad5 = some ⟨oc5, od5, .func (PySem.W.fnOf "is_demand" "is_demand" (defArgs s_is_demand) (defBody s_is_demand) (defScope s_is_demand) .none kV5 dc5 pm5 an5 cd5 ct5), sl5⟩) (c5 : PySem.W.codeIn K cd5 "is_demand" = true) (k5 : PySem.W.keepIn K (.ref ad5) = true)
    (a6 : PySem.W.nsIn K mainGlobals "is_condition" = some (some (.ref ad6))) (l6 : K.lookup ad6 = some ⟨oc6, od6, .func (PySem.W.fnOf "is_condition" "is_condition" (defArgs s_is_condition) (defBody s_is_condition) (defScope s_is_condition) .none kV6 dc6 pm6 an6 cd6 ct6), sl6⟩) (c6 : PySem.W.codeIn K cd6 "is_condition" = true) (k6 : PySem.W.keepIn K (.ref ad6) = true)
    (a7 : PySem.W.nsIn K mainGlobals "is_step" = some (some (.ref ad7))) (l7 : K.lookup ad7 = some ⟨oc7, od7, .func (PySem.W.fnOf "is_step" "is_step" (defArgs s_is_step) (defBody s_is_step) (defScope s_is_step) .none kV7 dc7 pm7 an7 cd7 ct7), sl7⟩) (c7 : PySem.W.codeIn K cd7 "is_step" = true) (k7 : PySem.W.keepIn K (.ref ad7) = true)
    (a8 : PySem.W.nsIn K mainGlobals "is_plan" = some (some (.ref ad8))) (l8 : K.lookup ad8 = some ⟨oc8, od8, .func (PySem.W.fnOf "is_plan" "is_plan" (defArgs s_is_plan) (defBody s_is_plan) (defScope s_is_plan) .none kV8 dc8 pm8 an8 cd8 ct8), sl8⟩) (c8 : PySem.W.codeIn K cd8 "is_plan" = true) (k8 : PySem.W.keepIn K (.ref ad8) = true)
    (a9 : PySem.W.nsIn K mainGlobals "is_counts" = some (some (.ref ad9))) (l9 : K.lookup ad9 = some ⟨oc9, od9, .func (PySem.W.fnOf "is_counts" "is_counts" (defArgs s_is_counts) (defBody s_is_counts) (defScope s_is_counts) .none kV9 dc9 pm9 an9 cd9 ct9), sl9⟩) (c9 : PySem.W.codeIn K cd9 "is_counts" = true) (k9 : PySem.W.keepIn K (.ref ad9) = true)
    (a10 : PySem.W.nsIn K mainGlobals "_law_box" = some (some (.ref ad10))) (l10 : K.lookup ad10 = some ⟨oc10, od10, .func (PySem.W.fnOf "_law_box" "_law_box" (defArgs s_law_box) (defBody s_law_box) (defScope s_law_box) .none kV10 dc10 pm10 an10 cd10 ct10), sl10⟩) (c10 : PySem.W.codeIn K cd10 "_law_box" = true) (k10 : PySem.W.keepIn K (.ref ad10) = true)
    (a11 : PySem.W.nsIn K mainGlobals "_law_take" = some (some (.ref ad11))) (l11 : K.lookup ad11 = some ⟨oc11, od11, .func (PySem.W.fnOf "_law_take" "_law_take" (defArgs s_law_take) (defBody s_law_take) (defScope s_law_take) .none kV11 dc11 pm11 an11 cd11 ct11), sl11⟩) (c11 : PySem.W.codeIn K cd11 "_law_take" = true) (k11 : PySem.W.keepIn K (.ref ad11) = true)
    (a12 : PySem.W.nsIn K mainGlobals "_law_cells" = some (some (.ref ad12))) (l12 : K.lookup ad12 = some ⟨oc12, od12, .func (PySem.W.fnOf "_law_cells" "_law_cells" (defArgs s_law_cells) (defBody s_law_cells) (defScope s_law_cells) .none kV12 dc12 pm12 an12 cd12 ct12), sl12⟩) (c12 : PySem.W.codeIn K cd12 "_law_cells" = true) (k12 : PySem.W.keepIn K (.ref ad12) = true)
    (a13 : PySem.W.nsIn K mainGlobals "_law_of" = some (some (.ref ad13))) (l13 : K.lookup ad13 = some ⟨oc13, od13, .func (PySem.W.fnOf "_law_of" "_law_of" (defArgs s_law_of) (defBody s_law_of) (defScope s_law_of) .none kV13 dc13 pm13 an13 cd13 ct13), sl13⟩) (c13 : PySem.W.codeIn K cd13 "_law_of" = true) (k13 : PySem.W.keepIn K (.ref ad13) = true)
    (a14 : PySem.W.nsIn K mainGlobals "_law_pick" = some (some (.ref ad14))) (l14 : K.lookup ad14 = some ⟨oc14, od14, .func (PySem.W.fnOf "_law_pick" "_law_pick" (defArgs s_law_pick) (defBody s_law_pick) (defScope s_law_pick) .none kV14 dc14 pm14 an14 cd14 ct14), sl14⟩) (c14 : PySem.W.codeIn K cd14 "_law_pick" = true) (k14 : PySem.W.keepIn K (.ref ad14) = true)
    (a15 : PySem.W.nsIn K mainGlobals "_law_same" = some (some (.ref ad15))) (l15 : K.lookup ad15 = some ⟨oc15, od15, .func (PySem.W.fnOf "_law_same" "_law_same" (defArgs s_law_same) (defBody s_law_same) (defScope s_law_same) .none kV15 dc15 pm15 an15 cd15 ct15), sl15⟩) (c15 : PySem.W.codeIn K cd15 "_law_same" = true) (k15 : PySem.W.keepIn K (.ref ad15) = true)
    (a16 : PySem.W.nsIn K mainGlobals "_law_form" = some (some (.ref ad16))) (l16 : K.lookup ad16 = some ⟨oc16, od16, .func (PySem.W.fnOf "_law_form" "_law_form" (defArgs s_law_form) (defBody s_law_form) (defScope s_law_form) .none kV16 dc16 pm16 an16 cd16 ct16), sl16⟩) (c16 : PySem.W.codeIn K cd16 "_law_form" = true) (k16 : PySem.W.keepIn K (.ref ad16) = true)
    (a17 : PySem.W.nsIn K mainGlobals "_law_on" = some (some (.ref ad17))) (l17 : K.lookup ad17 = some ⟨oc17, od17, .func (PySem.W.fnOf "_law_on" "_law_on" (defArgs s_law_on) (defBody s_law_on) (defScope s_law_on) .none kV17 dc17 pm17 an17 cd17 ct17), sl17⟩) (c17 : PySem.W.codeIn K cd17 "_law_on" = true) (k17 : PySem.W.keepIn K (.ref ad17) = true)
    (a18 : PySem.W.nsIn K mainGlobals "_law_stock" = some (some (.ref ad18))) (l18 : K.lookup ad18 = some ⟨oc18, od18, .func (PySem.W.fnOf "_law_stock" "_law_stock" (defArgs s_law_stock) (defBody s_law_stock) (defScope s_law_stock) .none kV18 dc18 pm18 an18 cd18 ct18), sl18⟩) (c18 : PySem.W.codeIn K cd18 "_law_stock" = true) (k18 : PySem.W.keepIn K (.ref ad18) = true)
    (a19 : PySem.W.nsIn K mainGlobals "_law_is_tag" = some (some (.ref ad19))) (l19 : K.lookup ad19 = some ⟨oc19, od19, .func (PySem.W.fnOf "_law_is_tag" "_law_is_tag" (defArgs s_law_is_tag) (defBody s_law_is_tag) (defScope s_law_is_tag) .none kV19 dc19 pm19 an19 cd19 ct19), sl19⟩) (c19 : PySem.W.codeIn K cd19 "_law_is_tag" = true) (k19 : PySem.W.keepIn K (.ref ad19) = true)
    (a20 : PySem.W.nsIn K mainGlobals "_law_rises" = some (some (.ref ad20))) (l20 : K.lookup ad20 = some ⟨oc20, od20, .func (PySem.W.fnOf "_law_rises" "_law_rises" (defArgs s_law_rises) (defBody s_law_rises) (defScope s_law_rises) .none kV20 dc20 pm20 an20 cd20 ct20), sl20⟩) (c20 : PySem.W.codeIn K cd20 "_law_rises" = true) (k20 : PySem.W.keepIn K (.ref ad20) = true)
    (a21 : PySem.W.nsIn K mainGlobals "_law_are_pairs" = some (some (.ref ad21))) (l21 : K.lookup ad21 = some ⟨oc21, od21, .func (PySem.W.fnOf "_law_are_pairs" "_law_are_pairs" (defArgs s_law_are_pairs) (defBody s_law_are_pairs) (defScope s_law_are_pairs) .none kV21 dc21 pm21 an21 cd21 ct21), sl21⟩) (c21 : PySem.W.codeIn K cd21 "_law_are_pairs" = true) (k21 : PySem.W.keepIn K (.ref ad21) = true)
    (a22 : PySem.W.nsIn K mainGlobals "_law_is_on" = some (some (.ref ad22))) (l22 : K.lookup ad22 = some ⟨oc22, od22, .func (PySem.W.fnOf "_law_is_on" "_law_is_on" (defArgs s_law_is_on) (defBody s_law_is_on) (defScope s_law_is_on) .none kV22 dc22 pm22 an22 cd22 ct22), sl22⟩) (c22 : PySem.W.codeIn K cd22 "_law_is_on" = true) (k22 : PySem.W.keepIn K (.ref ad22) = true)
    (a23 : PySem.W.nsIn K mainGlobals "_law_is_bit" = some (some (.ref ad23))) (l23 : K.lookup ad23 = some ⟨oc23, od23, .func (PySem.W.fnOf "_law_is_bit" "_law_is_bit" (defArgs s_law_is_bit) (defBody s_law_is_bit) (defScope s_law_is_bit) .none kV23 dc23 pm23 an23 cd23 ct23), sl23⟩) (c23 : PySem.W.codeIn K cd23 "_law_is_bit" = true) (k23 : PySem.W.keepIn K (.ref ad23) = true)
    (a24 : PySem.W.nsIn K mainGlobals "_law_is_form" = some (some (.ref ad24))) (l24 : K.lookup ad24 = some ⟨oc24, od24, .func (PySem.W.fnOf "_law_is_form" "_law_is_form" (defArgs s_law_is_form) (defBody s_law_is_form) (defScope s_law_is_form) .none kV24 dc24 pm24 an24 cd24 ct24), sl24⟩) (c24 : PySem.W.codeIn K cd24 "_law_is_form" = true) (k24 : PySem.W.keepIn K (.ref ad24) = true)
    (a25 : PySem.W.nsIn K mainGlobals "_law_is_stock" = some (some (.ref ad25))) (l25 : K.lookup ad25 = some ⟨oc25, od25, .func (PySem.W.fnOf "_law_is_stock" "_law_is_stock" (defArgs s_law_is_stock) (defBody s_law_is_stock) (defScope s_law_is_stock) .none kV25 dc25 pm25 an25 cd25 ct25), sl25⟩) (c25 : PySem.W.codeIn K cd25 "_law_is_stock" = true) (k25 : PySem.W.keepIn K (.ref ad25) = true)
    (a26 : PySem.W.nsIn K mainGlobals "_law_spoilt" = some (some (.ref ad26))) (l26 : K.lookup ad26 = some ⟨oc26, od26, .func (PySem.W.fnOf "_law_spoilt" "_law_spoilt" (defArgs s_law_spoilt) (defBody s_law_spoilt) (defScope s_law_spoilt) .none kV26 dc26 pm26 an26 cd26 ct26), sl26⟩) (c26 : PySem.W.codeIn K cd26 "_law_spoilt" = true) (k26 : PySem.W.keepIn K (.ref ad26) = true)
    (a27 : PySem.W.nsIn K mainGlobals "_law_steps_right" = some (some (.ref ad27))) (l27 : K.lookup ad27 = some ⟨oc27, od27, .func (PySem.W.fnOf "_law_steps_right" "_law_steps_right" (defArgs s_law_steps_right) (defBody s_law_steps_right) (defScope s_law_steps_right) .none kV27 dc27 pm27 an27 cd27 ct27), sl27⟩) (c27 : PySem.W.codeIn K cd27 "_law_steps_right" = true) (k27 : PySem.W.keepIn K (.ref ad27) = true)
    (a28 : PySem.W.nsIn K mainGlobals "_law_hand_right" = some (some (.ref ad28))) (l28 : K.lookup ad28 = some ⟨oc28, od28, .func (PySem.W.fnOf "_law_hand_right" "_law_hand_right" (defArgs s_law_hand_right) (defBody s_law_hand_right) (defScope s_law_hand_right) .none kV28 dc28 pm28 an28 cd28 ct28), sl28⟩) (c28 : PySem.W.codeIn K cd28 "_law_hand_right" = true) (k28 : PySem.W.keepIn K (.ref ad28) = true)
    (a29 : PySem.W.nsIn K mainGlobals "_law_right" = some (some (.ref ad29))) (l29 : K.lookup ad29 = some ⟨oc29, od29, .func (PySem.W.fnOf "_law_right" "_law_right" (defArgs s_law_right) (defBody s_law_right) (defScope s_law_right) .none kV29 dc29 pm29 an29 cd29 ct29), sl29⟩) (c29 : PySem.W.codeIn K cd29 "_law_right" = true) (k29 : PySem.W.keepIn K (.ref ad29) = true)
    (a30 : PySem.W.nsIn K mainGlobals "law" = some (some (.ref ad30))) (l30 : K.lookup ad30 = some ⟨oc30, od30, .func (PySem.W.fnOf "law" "law" (defArgs s_law) (defBody s_law) (defScope s_law) .none kV30 dc30 pm30 an30 cd30 ct30), sl30⟩) (c30 : PySem.W.codeIn K cd30 "law" = true) (k30 : PySem.W.keepIn K (.ref ad30) = true)
    (z_isinstance : PySem.W.nsIn K mainGlobals "isinstance" = some none)
    (z_int : PySem.W.nsIn K mainGlobals "int" = some none)
    (z_bool : PySem.W.nsIn K mainGlobals "bool" = some none)
    (z_str : PySem.W.nsIn K mainGlobals "str" = some none)
    (z_len : PySem.W.nsIn K mainGlobals "len" = some none)
    (z_tuple : PySem.W.nsIn K mainGlobals "tuple" = some none)
    (z_all : PySem.W.nsIn K mainGlobals "all" = some none)
    (z_zip : PySem.W.nsIn K mainGlobals "zip" = some none)
    (z_abs : PySem.W.nsIn K mainGlobals "abs" = some none)
    (z_enumerate : PySem.W.nsIn K mainGlobals "enumerate" = some none)
    (z_list : PySem.W.nsIn K mainGlobals "list" = some none)
    (z_range : PySem.W.nsIn K mainGlobals "range" = some none)
    (z_min : PySem.W.nsIn K mainGlobals "min" = some none)
    (z_dict : PySem.W.nsIn K mainGlobals "dict" = some none)
    (z_sorted : PySem.W.nsIn K mainGlobals "sorted" = some none)
    (z_set : PySem.W.nsIn K mainGlobals "set" = some none)
    : ∃ x : Tx, Tp K mg x ∧ x.a_law = fa ∧ ∀ (s : Shared) (u : Value), BindsTo s x.d_law ⟨[u], []⟩ [("_law_script", u)] := by
  refine ⟨⟨ad0, PySem.W.fnOf "is_number" "is_number" (defArgs s_is_number) (defBody s_is_number) (defScope s_is_number) .none kV0 dc0 pm0 an0 cd0 ct0, ad1, PySem.W.fnOf "is_name" "is_name" (defArgs s_is_name) (defBody s_is_name) (defScope s_is_name) .none kV1 dc1 pm1 an1 cd1 ct1, ad2, PySem.W.fnOf "is_tuple_of" "is_tuple_of" (defArgs s_is_tuple_of) (defBody s_is_tuple_of) (defScope s_is_tuple_of) .none kV2 dc2 pm2 an2 cd2 ct2, ad3, PySem.W.fnOf "is_ascending" "is_ascending" (defArgs s_is_ascending) (defBody s_is_ascending) (defScope s_is_ascending) .none kV3 dc3 pm3 an3 cd3 ct3, ad4, PySem.W.fnOf "are_names" "are_names" (defArgs s_are_names) (defBody s_are_names) (defScope s_are_names) .none kV4 dc4 pm4 an4 cd4 ct4, ad5, PySem.W.fnOf "is_demand" "is_demand" (defArgs s_is_demand) (defBody s_is_demand) (defScope s_is_demand) .none kV5 dc5 pm5 an5 cd5 ct5, ad6, PySem.W.fnOf "is_condition" "is_condition" (defArgs s_is_condition) (defBody s_is_condition) (defScope s_is_condition) .none kV6 dc6 pm6 an6 cd6 ct6, ad7, PySem.W.fnOf "is_step" "is_step" (defArgs s_is_step) (defBody s_is_step) (defScope s_is_step) .none kV7 dc7 pm7 an7 cd7 ct7, ad8, PySem.W.fnOf "is_plan" "is_plan" (defArgs s_is_plan) (defBody s_is_plan) (defScope s_is_plan) .none kV8 dc8 pm8 an8 cd8 ct8, ad9, PySem.W.fnOf "is_counts" "is_counts" (defArgs s_is_counts) (defBody s_is_counts) (defScope s_is_counts) .none kV9 dc9 pm9 an9 cd9 ct9, ad10, PySem.W.fnOf "_law_box" "_law_box" (defArgs s_law_box) (defBody s_law_box) (defScope s_law_box) .none kV10 dc10 pm10 an10 cd10 ct10, ad11, PySem.W.fnOf "_law_take" "_law_take" (defArgs s_law_take) (defBody s_law_take) (defScope s_law_take) .none kV11 dc11 pm11 an11 cd11 ct11, ad12, PySem.W.fnOf "_law_cells" "_law_cells" (defArgs s_law_cells) (defBody s_law_cells) (defScope s_law_cells) .none kV12 dc12 pm12 an12 cd12 ct12, ad13, PySem.W.fnOf "_law_of" "_law_of" (defArgs s_law_of) (defBody s_law_of) (defScope s_law_of) .none kV13 dc13 pm13 an13 cd13 ct13, ad14, PySem.W.fnOf "_law_pick" "_law_pick" (defArgs s_law_pick) (defBody s_law_pick) (defScope s_law_pick) .none kV14 dc14 pm14 an14 cd14 ct14, ad15, PySem.W.fnOf "_law_same" "_law_same" (defArgs s_law_same) (defBody s_law_same) (defScope s_law_same) .none kV15 dc15 pm15 an15 cd15 ct15, ad16, PySem.W.fnOf "_law_form" "_law_form" (defArgs s_law_form) (defBody s_law_form) (defScope s_law_form) .none kV16 dc16 pm16 an16 cd16 ct16, ad17, PySem.W.fnOf "_law_on" "_law_on" (defArgs s_law_on) (defBody s_law_on) (defScope s_law_on) .none kV17 dc17 pm17 an17 cd17 ct17, ad18, PySem.W.fnOf "_law_stock" "_law_stock" (defArgs s_law_stock) (defBody s_law_stock) (defScope s_law_stock) .none kV18 dc18 pm18 an18 cd18 ct18, ad19, PySem.W.fnOf "_law_is_tag" "_law_is_tag" (defArgs s_law_is_tag) (defBody s_law_is_tag) (defScope s_law_is_tag) .none kV19 dc19 pm19 an19 cd19 ct19, ad20, PySem.W.fnOf "_law_rises" "_law_rises" (defArgs s_law_rises) (defBody s_law_rises) (defScope s_law_rises) .none kV20 dc20 pm20 an20 cd20 ct20, ad21, PySem.W.fnOf "_law_are_pairs" "_law_are_pairs" (defArgs s_law_are_pairs) (defBody s_law_are_pairs) (defScope s_law_are_pairs) .none kV21 dc21 pm21 an21 cd21 ct21, ad22, PySem.W.fnOf "_law_is_on" "_law_is_on" (defArgs s_law_is_on) (defBody s_law_is_on) (defScope s_law_is_on) .none kV22 dc22 pm22 an22 cd22 ct22, ad23, PySem.W.fnOf "_law_is_bit" "_law_is_bit" (defArgs s_law_is_bit) (defBody s_law_is_bit) (defScope s_law_is_bit) .none kV23 dc23 pm23 an23 cd23 ct23, ad24, PySem.W.fnOf "_law_is_form" "_law_is_form" (defArgs s_law_is_form) (defBody s_law_is_form) (defScope s_law_is_form) .none kV24 dc24 pm24 an24 cd24 ct24, ad25, PySem.W.fnOf "_law_is_stock" "_law_is_stock" (defArgs s_law_is_stock) (defBody s_law_is_stock) (defScope s_law_is_stock) .none kV25 dc25 pm25 an25 cd25 ct25, ad26, PySem.W.fnOf "_law_spoilt" "_law_spoilt" (defArgs s_law_spoilt) (defBody s_law_spoilt) (defScope s_law_spoilt) .none kV26 dc26 pm26 an26 cd26 ct26, ad27, PySem.W.fnOf "_law_steps_right" "_law_steps_right" (defArgs s_law_steps_right) (defBody s_law_steps_right) (defScope s_law_steps_right) .none kV27 dc27 pm27 an27 cd27 ct27, ad28, PySem.W.fnOf "_law_hand_right" "_law_hand_right" (defArgs s_law_hand_right) (defBody s_law_hand_right) (defScope s_law_hand_right) .none kV28 dc28 pm28 an28 cd28 ct28, ad29, PySem.W.fnOf "_law_right" "_law_right" (defArgs s_law_right) (defBody s_law_right) (defScope s_law_right) .none kV29 dc29 pm29 an29 cd29 ct29, ad30, PySem.W.fnOf "law" "law" (defArgs s_law) (defBody s_law) (defScope s_law) .none kV30 dc30 pm30 an30 cd30 ct30⟩, ?_, ?_, fun s u => .of_eq rfl⟩
  · exact {
      b_isinstance := PySem.W.mg_none_of X G z_isinstance
      b_int := PySem.W.mg_none_of X G z_int
      b_bool := PySem.W.mg_none_of X G z_bool
      b_str := PySem.W.mg_none_of X G z_str
      b_len := PySem.W.mg_none_of X G z_len
      b_tuple := PySem.W.mg_none_of X G z_tuple
      b_all := PySem.W.mg_none_of X G z_all
      b_zip := PySem.W.mg_none_of X G z_zip
      b_abs := PySem.W.mg_none_of X G z_abs
      b_enumerate := PySem.W.mg_none_of X G z_enumerate
      b_list := PySem.W.mg_none_of X G z_list
      b_range := PySem.W.mg_none_of X G z_range
      b_min := PySem.W.mg_none_of X G z_min
      b_dict := PySem.W.mg_none_of X G z_dict
      b_sorted := PySem.W.mg_none_of X G z_sorted
      b_set := PySem.W.mg_none_of X G z_set
      F_is_number := fun_mk (st := s_is_number) l0 c0 k0
      g_is_number := PySem.W.mg_of X G a0
      B_is_number := (fun_mk (st := s_is_number) l0 c0 k0).binds (ps := ["thing"]) fun _ _ _ _ _ _ us hl => match us, hl with | [_], _ => rfl
      k_is_number := k0
      F_is_name := fun_mk (st := s_is_name) l1 c1 k1
      g_is_name := PySem.W.mg_of X G a1
      B_is_name := (fun_mk (st := s_is_name) l1 c1 k1).binds (ps := ["thing"]) fun _ _ _ _ _ _ us hl => match us, hl with | [_], _ => rfl
      k_is_name := k1
      F_is_tuple_of := fun_mk (st := s_is_tuple_of) l2 c2 k2
      g_is_tuple_of := PySem.W.mg_of X G a2
      B_is_tuple_of := (fun_mk (st := s_is_tuple_of) l2 c2 k2).binds (ps := ["thing", "many"]) fun _ _ _ _ _ _ us hl => match us, hl with | [_, _], _ => rfl
      k_is_tuple_of := k2
      F_is_ascending := fun_mk (st := s_is_ascending) l3 c3 k3
      g_is_ascending := PySem.W.mg_of X G a3
      B_is_ascending := (fun_mk (st := s_is_ascending) l3 c3 k3).binds (ps := ["row"]) fun _ _ _ _ _ _ us hl => match us, hl with | [_], _ => rfl
      k_is_ascending := k3
      F_are_names := fun_mk (st := s_are_names) l4 c4 k4
      g_are_names := PySem.W.mg_of X G a4
      B_are_names := (fun_mk (st := s_are_names) l4 c4 k4).binds (ps := ["thing"]) fun _ _ _ _ _ _ us hl => match us, hl with | [_], _ => rfl
      k_are_names := k4
      F_is_demand := fun_mk (st := s_is_demand) l5 c5 k5
      g_is_demand := PySem.W.mg_of X G a5
      B_is_demand := (fun_mk (st := s_is_demand) l5 c5 k5).binds (ps := ["thing"]) fun _ _ _ _ _ _ us hl => match us, hl with | [_], _ => rfl
      k_is_demand := k5
      F_is_condition := fun_mk (st := s_is_condition) l6 c6 k6
      g_is_condition := PySem.W.mg_of X G a6
      B_is_condition := (fun_mk (st := s_is_condition) l6 c6 k6).binds (ps := ["thing"]) fun _ _ _ _ _ _ us hl => match us, hl with | [_], _ => rfl
      k_is_condition := k6
      F_is_step := fun_mk (st := s_is_step) l7 c7 k7
      g_is_step := PySem.W.mg_of X G a7
      B_is_step := (fun_mk (st := s_is_step) l7 c7 k7).binds (ps := ["thing"]) fun _ _ _ _ _ _ us hl => match us, hl with | [_], _ => rfl
      k_is_step := k7
      F_is_plan := fun_mk (st := s_is_plan) l8 c8 k8
      g_is_plan := PySem.W.mg_of X G a8
      B_is_plan := (fun_mk (st := s_is_plan) l8 c8 k8).binds (ps := ["thing"]) fun _ _ _ _ _ _ us hl => match us, hl with | [_], _ => rfl
      k_is_plan := k8
      F_is_counts := fun_mk (st := s_is_counts) l9 c9 k9
      g_is_counts := PySem.W.mg_of X G a9
      B_is_counts := (fun_mk (st := s_is_counts) l9 c9 k9).binds (ps := ["thing"]) fun _ _ _ _ _ _ us hl => match us, hl with | [_], _ => rfl
      k_is_counts := k9
      F_law_box := fun_mk (st := s_law_box) l10 c10 k10
      g_law_box := PySem.W.mg_of X G a10
      B_law_box := (fun_mk (st := s_law_box) l10 c10 k10).binds (ps := ["_law_script", "_law_k"]) fun _ _ _ _ _ _ us hl => match us, hl with | [_, _], _ => rfl
      k_law_box := k10
      F_law_take := fun_mk (st := s_law_take) l11 c11 k11
      g_law_take := PySem.W.mg_of X G a11
      B_law_take := (fun_mk (st := s_law_take) l11 c11 k11).binds (ps := ["_law_tin", "_law_top_so"]) fun _ _ _ _ _ _ us hl => match us, hl with | [_, _], _ => rfl
      k_law_take := k11
      F_law_cells := fun_mk (st := s_law_cells) l12 c12 k12
      g_law_cells := PySem.W.mg_of X G a12
      B_law_cells := (fun_mk (st := s_law_cells) l12 c12 k12).binds (ps := ["_law_script", "_law_most"]) fun _ _ _ _ _ _ us hl => match us, hl with | [_, _], _ => rfl
      k_law_cells := k12
      F_law_of := fun_mk (st := s_law_of) l13 c13 k13
      g_law_of := PySem.W.mg_of X G a13
      B_law_of := (fun_mk (st := s_law_of) l13 c13 k13).binds (ps := ["_law_tin", "_law_lot"]) fun _ _ _ _ _ _ us hl => match us, hl with | [_, _], _ => rfl
      k_law_of := k13
      F_law_pick := fun_mk (st := s_law_pick) l14 c14 k14
      g_law_pick := PySem.W.mg_of X G a14
      B_law_pick := (fun_mk (st := s_law_pick) l14 c14 k14).binds (ps := ["_law_tin", "_law_pool", "_law_size_so"]) fun _ _ _ _ _ _ us hl => match us, hl with | [_, _, _], _ => rfl
      k_law_pick := k14
      F_law_same := fun_mk (st := s_law_same) l15 c15 k15
      g_law_same := PySem.W.mg_of X G a15
      B_law_same := (fun_mk (st := s_law_same) l15 c15 k15).binds (ps := ["_law_got", "_law_due"]) fun _ _ _ _ _ _ us hl => match us, hl with | [_, _], _ => rfl
      k_law_same := k15
      F_law_form := fun_mk (st := s_law_form) l16 c16 k16
      g_law_form := PySem.W.mg_of X G a16
      B_law_form := (fun_mk (st := s_law_form) l16 c16 k16).binds (ps := ["_law_tin", "_law_many", "_law_flags_so"]) fun _ _ _ _ _ _ us hl => match us, hl with | [_, _, _], _ => rfl
      k_law_form := k16
      F_law_on := fun_mk (st := s_law_on) l17 c17 k17
      g_law_on := PySem.W.mg_of X G a17
      B_law_on := (fun_mk (st := s_law_on) l17 c17 k17).binds (ps := ["_law_form_here", "_law_flags_so"]) fun _ _ _ _ _ _ us hl => match us, hl with | [_, _], _ => rfl
      k_law_on := k17
      F_law_stock := fun_mk (st := s_law_stock) l18 c18 k18
      g_law_stock := PySem.W.mg_of X G a18
      B_law_stock := (fun_mk (st := s_law_stock) l18 c18 k18).binds (ps := ["_law_tin", "_law_form_here", "_law_flags_so", "_law_marks"]) fun _ _ _ _ _ _ us hl => match us, hl with | [_, _, _, _], _ => rfl
      k_law_stock := k18
      F_law_is_tag := fun_mk (st := s_law_is_tag) l19 c19 k19
      g_law_is_tag := PySem.W.mg_of X G a19
      B_law_is_tag := (fun_mk (st := s_law_is_tag) l19 c19 k19).binds (ps := ["_law_matter"]) fun _ _ _ _ _ _ us hl => match us, hl with | [_], _ => rfl
      k_law_is_tag := k19
      F_law_rises := fun_mk (st := s_law_rises) l20 c20 k20
      g_law_rises := PySem.W.mg_of X G a20
      B_law_rises := (fun_mk (st := s_law_rises) l20 c20 k20).binds (ps := ["_law_lot"]) fun _ _ _ _ _ _ us hl => match us, hl with | [_], _ => rfl
      k_law_rises := k20
      F_law_are_pairs := fun_mk (st := s_law_are_pairs) l21 c21 k21
      g_law_are_pairs := PySem.W.mg_of X G a21
      B_law_are_pairs := (fun_mk (st := s_law_are_pairs) l21 c21 k21).binds (ps := ["_law_matter"]) fun _ _ _ _ _ _ us hl => match us, hl with | [_], _ => rfl
      k_law_are_pairs := k21
      F_law_is_on := fun_mk (st := s_law_is_on) l22 c22 k22
      g_law_is_on := PySem.W.mg_of X G a22
      B_law_is_on := (fun_mk (st := s_law_is_on) l22 c22 k22).binds (ps := ["_law_matter"]) fun _ _ _ _ _ _ us hl => match us, hl with | [_], _ => rfl
      k_law_is_on := k22
      F_law_is_bit := fun_mk (st := s_law_is_bit) l23 c23 k23
      g_law_is_bit := PySem.W.mg_of X G a23
      B_law_is_bit := (fun_mk (st := s_law_is_bit) l23 c23 k23).binds (ps := ["_law_matter"]) fun _ _ _ _ _ _ us hl => match us, hl with | [_], _ => rfl
      k_law_is_bit := k23
      F_law_is_form := fun_mk (st := s_law_is_form) l24 c24 k24
      g_law_is_form := PySem.W.mg_of X G a24
      B_law_is_form := (fun_mk (st := s_law_is_form) l24 c24 k24).binds (ps := ["_law_matter"]) fun _ _ _ _ _ _ us hl => match us, hl with | [_], _ => rfl
      k_law_is_form := k24
      F_law_is_stock := fun_mk (st := s_law_is_stock) l25 c25 k25
      g_law_is_stock := PySem.W.mg_of X G a25
      B_law_is_stock := (fun_mk (st := s_law_is_stock) l25 c25 k25).binds (ps := ["_law_matter"]) fun _ _ _ _ _ _ us hl => match us, hl with | [_], _ => rfl
      k_law_is_stock := k25
      F_law_spoilt := fun_mk (st := s_law_spoilt) l26 c26 k26
      g_law_spoilt := PySem.W.mg_of X G a26
      B_law_spoilt := (fun_mk (st := s_law_spoilt) l26 c26 k26).binds (ps := ["_law_tin", "_law_matter", "_law_depth_so"]) fun _ _ _ _ _ _ us hl => match us, hl with | [_, _, _], _ => rfl
      k_law_spoilt := k26
      F_law_steps_right := fun_mk (st := s_law_steps_right) l27 c27 k27
      g_law_steps_right := PySem.W.mg_of X G a27
      B_law_steps_right := (fun_mk (st := s_law_steps_right) l27 c27 k27).binds (ps := []) fun _ _ _ _ _ _ us hl => match us, hl with | [], _ => rfl
      k_law_steps_right := k27
      F_law_hand_right := fun_mk (st := s_law_hand_right) l28 c28 k28
      g_law_hand_right := PySem.W.mg_of X G a28
      B_law_hand_right := (fun_mk (st := s_law_hand_right) l28 c28 k28).binds (ps := []) fun _ _ _ _ _ _ us hl => match us, hl with | [], _ => rfl
      k_law_hand_right := k28
      F_law_right := fun_mk (st := s_law_right) l29 c29 k29
      g_law_right := PySem.W.mg_of X G a29
      B_law_right := (fun_mk (st := s_law_right) l29 c29 k29).binds (ps := ["_law_tin"]) fun _ _ _ _ _ _ us hl => match us, hl with | [_], _ => rfl
      k_law_right := k29
      F_law := fun_mk (st := s_law) l30 c30 k30
      g_law := PySem.W.mg_of X G a30
      B_law := (fun_mk (st := s_law) l30 c30 k30).binds (ps := ["_law_script"]) fun _ _ _ _ _ _ us hl => match us, hl with | [_], _ => rfl
      k_law := k30
      K_is_condition_1 := Fun.kbinds ["thing"] (fun_mk (st := s_is_condition) l6 c6 k6) fun _ _ _ _ _ _ us ws hl => match us, ws, hl with | [_], [], _ => rfl | [], [_], _ => rfl
      K_is_counts_1 := Fun.kbinds ["thing"] (fun_mk (st := s_is_counts) l9 c9 k9) fun _ _ _ _ _ _ us ws hl => match us, ws, hl with | [_], [], _ => rfl | [], [_], _ => rfl
      K_is_plan_1 := Fun.kbinds ["thing"] (fun_mk (st := s_is_plan) l8 c8 k8) fun _ _ _ _ _ _ us ws hl => match us, ws, hl with | [_], [], _ => rfl | [], [_], _ => rfl
      K_is_step_1 := Fun.kbinds ["thing"] (fun_mk (st := s_is_step) l7 c7 k7) fun _ _ _ _ _ _ us ws hl => match us, ws, hl with | [_], [], _ => rfl | [], [_], _ => rfl
      }
  · have e := hfa.symm.trans (PySem.W.mg_of X G a30)
    cases e
    rfl
end
end G
/-! ### the law -/

set_option linter.all false
set_option maxRecDepth 100000
namespace G
open PySem PySem.Spec L2 Pu
/-! ### what the program's looks tell -/
def nameS (s : Str) : Bool := decide (s.length ≤ 8) && (Txt.isascii s && (Txt.isalpha s && Txt.islower s))
def nameB : D → Bool
  | .str s => nameS s
  | _ => false
def isIntB : D → Bool
  | .int _ => true
  | _ => false
def bitB : D → Bool
  | .int i => i == 0 || i == 1
  | _ => false
def fst : D → D
  | .tuple (a :: _) => a
  | _ => .none
def lt2 : D → Bool
  | .tuple [.str a, .str b] => decide (a.cps.toList < b.cps.toList)
  | _ => false
def ascB (xs : List D) : Bool := (zp xs (xs.drop 1)).all lt2
def demandB : D → Bool
  | .tuple [a, b] => nameB a && bitB b
  | _ => false
def condB : D → Bool
  | .tuple xs => xs.all demandB && ascB (xs.map fst)
  | _ => false
def namesB : D → Bool
  | .tuple xs => xs.all nameB
  | _ => false
def stepB : D → Bool
  | .tuple [n, m, r, s, c] => (nameB n && (nameB m && nameB s)) && (namesB r && condB c)
  | _ => false
def planB : D → Bool
  | .tuple xs => xs.all stepB && ascB (xs.map fst)
  | _ => false
def markB : D → Bool
  | .tuple [a, b] => nameB a && nameB b
  | _ => false
def countsB : D → Bool
  | .tuple xs => xs.all markB && ascB (xs.map fst)
  | _ => false
theorem number_eq (d : D) (hd : ∀ k, d ≠ .dict k) : f_is_number [.d d] = some (.d (.bool (isIntB d)), [.d d]) := by
  cases d with
  | dict k => exact absurd rfl (hd k)
  | _ => rfl
theorem name_eq {k : Nat} (d : D) (h : Fine k d) : f_is_name [.d d] = some (.d (.bool (nameB d)), [.d d]) := by
  cases d with
  | dict z => exact absurd rfl (h.nodict z)
  | str s =>
    have hs : s.length ≤ big := Nat.le_trans h.str.1 (by decide)
    refine rFn rfl (rRet (rAndV (p := true) rfl fun _ => rAndV (p := decide (s.length ≤ 8)) ?_ fun _ => rAndV (p := Txt.isascii s) rfl fun _ => rAndV (p := Txt.isalpha s) (q := Txt.islower s) rfl fun _ => rfl)) rfl rfl
    refine rOpD (rCB1 rfl rfl (gLenU_str hs)) rfl ?_
    show some (R.d (.bool (decide ((s.length : Int) ≤ 8)))) = _
    rw [show decide ((s.length : Int) ≤ 8) = decide (s.length ≤ 8) from decide_eq_decide.mpr (by omega)]
  | _ => rfl
def tupB (n : Int) : D → Bool
  | .tuple xs => (xs.length : Int) == n
  | _ => false
theorem tuple_eq {k : Nat} (d : D) (h : Fine k d) (n : Int) : f_is_tuple_of [.d d, .d (.int n)] = some (.d (.bool (tupB n d)), [.d d, .d (.int n)]) := by
  cases d with
  | dict z => exact absurd rfl (h.nodict z)
  | tuple xs => exact rFn rfl (rRet (rAndV (p := true) rfl fun _ => rOpD (rCB1 rfl rfl rfl) rfl (gEq_int _ _))) rfl rfl
  | _ => rfl
theorem names_eq {k : Nat} (d : D) (h : Fine k d) : f_are_names [.d d] = some (.d (.bool (namesB d)), [.d d]) := by
  cases d with
  | dict z => exact absurd rfl (h.nodict z)
  | tuple xs =>
    refine rFn rfl (rRet (rAndV (p := true) (q := xs.all nameB) rfl fun _ => rCB1 (rLc (xs := xs) rfl (goLc_map (f := fun x => .bool (nameB x)) xs (Nat.le_trans h.tup.1 (by decide)) fun x hx => ⟨_, rfl, _, rFzD (rCall1 rfl (name_eq x (h.tup.2 x hx))), rfl⟩)) rfl (gAll_map _ _))) rfl rfl
  | _ => rfl
theorem tupB2 {d : D} (h : tupB 2 d = true) : ∃ a b, d = .tuple [a, b] := by
  cases d with
  | tuple xs =>
    match xs, h with
    | [], h => simp [tupB] at h
    | [_], h => simp [tupB] at h
    | [a, b], _ => exact ⟨a, b, rfl⟩
    | _ :: _ :: _ :: r, h =>
      simp only [tupB, List.length_cons, beq_iff_eq] at h
      omega
  | _ => exact absurd h (by simp [tupB])
theorem demand_eq {k : Nat} (d : D) (h : Fine k d) : f_is_demand [.d d] = some (.d (.bool (demandB d)), [.d d]) := by
  cases ht : tupB 2 d with
  | false =>
    have e : demandB d = (tupB 2 d && false) := by
      rw [ht]
      unfold demandB
      split
      · simp [tupB] at ht
      · rfl
    rw [e]
    exact rFn rfl (rRet (rAndV (p := tupB 2 d) (q := false) (rCall (rCons rfl (rCons rfl rfl)) rfl rfl List.nodup_nil (tuple_eq d h 2) rfl rfl rfl) fun z => by rw [ht] at z; cases z)) rfl rfl
  | true =>
    obtain ⟨a, b, rfl⟩ := tupB2 ht
    have ha := h.tup.2 a (by simp)
    have hb := h.tup.2 b (by simp)
    have e : demandB (.tuple [a, b]) = (true && (nameB a && (isIntB b && bitB b))) := by
      cases b <;> simp [demandB, isIntB, bitB]
    rw [e]
    refine rFn rfl (rRet (rAndV (p := true) (rCall (rCons rfl (rCons rfl rfl)) rfl rfl List.nodup_nil (tuple_eq _ h 2) rfl rfl rfl) fun _ =>
      rAndV (p := nameB a) (rCall1 rfl (name_eq a ha)) fun _ => rAndV (p := isIntB b) (rCall1 rfl (number_eq b hb.nodict)) fun z => ?_)) rfl rfl
    cases b with
    | int i =>
      refine rOpD rfl rfl ?_
      show some (R.d (.bool ((0 == i) || ((1 == i) || false)))) = _
      rw [Bool.or_false, show ((0 : Int) == i) = (i == 0) from Bool.beq_comm .. , show ((1 : Int) == i) = (i == 1) from Bool.beq_comm ..]
      rfl
    | _ => cases z
theorem cut1 (xs : List D) : cutD xs (some 1) none = xs.drop 1 := by
  unfold cutD
  rw [show HT.sIx xs.length 0 (some 1) = min 1 xs.length from HT.sIx_nat _ _ 1, HT.sIx_none]
  cases xs with
  | nil => rfl
  | cons x xs =>
    rw [show min 1 (x :: xs).length = 1 by simp]
    simp
theorem asc_eq (xs : List D) (hl : xs.length ≤ 1000) (hs : ∀ x ∈ xs, ∃ s, x = .str s) : f_is_ascending [.d (.list xs)] = some (.d (.bool (ascB xs)), [.d (.list xs)]) := by
  refine rFn1 (rRet (rCB1 (rLc (xs := zp xs (cutD xs (some 1) none)) rfl (goLc_map (f := fun x => .bool (lt2 x)) _ ?_ fun x hx => ?_)) rfl ?_))
  · exact Nat.le_trans (by unfold zp; rw [List.length_map, List.length_zip]; omega) (show 1000 ≤ big by decide)
  · rw [cut1] at hx
    unfold zp at hx
    obtain ⟨⟨a, b⟩, hp, rfl⟩ := List.mem_map.mp hx
    obtain ⟨sa, rfl⟩ := hs a (List.of_mem_zip hp).1
    obtain ⟨sb, rfl⟩ := hs b (List.mem_of_mem_drop (List.of_mem_zip hp).2)
    exact ⟨_, rfl, _, rfl, rfl⟩
  · rw [cut1]
    exact gAll_map _ _
theorem fst_str {f : D → Bool} (hf : ∀ d, f d = true → ∃ s r, d = .tuple (.str s :: r)) {xs : List D} (h : xs.all f = true) : ∀ x ∈ xs.map fst, ∃ s, x = .str s := by
  intro x hx
  obtain ⟨d, hd, rfl⟩ := List.mem_map.mp hx
  obtain ⟨s, r, rfl⟩ := hf d (List.all_eq_true.mp h d hd)
  exact ⟨s, rfl⟩
theorem nameB_str {d : D} (h : nameB d = true) : ∃ s, d = .str s := by
  cases d with
  | str s => exact ⟨s, rfl⟩
  | _ => cases h
theorem demand_str (d : D) (h : demandB d = true) : ∃ s r, d = .tuple (.str s :: r) := by
  unfold demandB at h
  split at h
  · rw [Bool.and_eq_true] at h
    obtain ⟨s, rfl⟩ := nameB_str h.1
    exact ⟨s, _, rfl⟩
  · cases h
theorem step_str (d : D) (h : stepB d = true) : ∃ s r, d = .tuple (.str s :: r) := by
  unfold stepB at h
  split at h
  · simp only [Bool.and_eq_true] at h
    obtain ⟨s, rfl⟩ := nameB_str h.1.1
    exact ⟨s, _, rfl⟩
  · cases h
theorem mark_str (d : D) (h : markB d = true) : ∃ s r, d = .tuple (.str s :: r) := by
  unfold markB at h
  split at h
  · rw [Bool.and_eq_true] at h
    obtain ⟨s, rfl⟩ := nameB_str h.1
    exact ⟨s, _, rfl⟩
  · cases h
theorem gIx0 (x : D) (r : List D) : gIx (.tuple (x :: r)) (.int 0) = some (.d x) := by
  show (atI (x :: r) 0).map R.d = _
  simp [atI, ixN]
theorem cond_eq {k : Nat} (d : D) (h : Fine k d) : f_is_condition [.d d] = some (.d (.bool (condB d)), [.d d]) := by
  cases d with
  | dict z => exact absurd rfl (h.nodict z)
  | tuple xs =>
    have hl : xs.length ≤ big := Nat.le_trans h.tup.1 (by decide)
    have h1 : sCB gAll (aCons (sLc [1] (iAny (sVar 0)) (gN 1) (fun ρ => some (true, ρ)) (sCall f_is_demand [true] (aCons (sVar 1) aNil))) aNil) (rho0 2 [.d (.tuple xs)]) = some (.d (.bool (xs.all demandB)), rho0 2 [.d (.tuple xs)]) :=
      rCB1 (rLc (xs := xs) rfl (goLc_map (f := fun x => .bool (demandB x)) xs hl fun x hx => ⟨_, rfl, _, rFzD (rCall1 rfl (demand_eq x (h.tup.2 x hx))), rfl⟩)) rfl (gAll_map _ _)
    cases hd : xs.all demandB with
    | false =>
      rw [hd] at h1
      rw [show condB (.tuple xs) = false by simp [condB, hd]]
      exact rFn1 (rSeqR (rIfT (rOr (p := false) (q := true) rfl fun _ => rNot (rTruB h1)) (rRet rfl)))
    | true =>
      rw [hd] at h1
      rw [show condB (.tuple xs) = ascB (xs.map fst) by simp [condB, hd]]
      refine rFn1 (rSeq (rIfF (rOr (p := false) (q := false) rfl fun _ => rNot (rTruB h1)) rfl) (rRet (by
      refine rCall1f (rLc (xs := xs) rfl (goLc_map (f := fst) xs hl fun x hx => ?_)) rfl ?_
      · obtain ⟨s, r, rfl⟩ := demand_str x (List.all_eq_true.mp hd x hx)
        exact ⟨_, rfl, _, rFzD (rOpD rfl rfl (gIx0 _ _)), rfl⟩
      · exact asc_eq _ (by rw [List.length_map]; exact h.tup.1) (fst_str demand_str hd))))
  | _ => rfl
theorem len5 {xs : List D} (h : xs.length = 5) : ∃ a b c d e, xs = [a, b, c, d, e] := by
  match xs, h with
  | [a, b, c, d, e], _ => exact ⟨a, b, c, d, e, rfl⟩
theorem step_eq {k : Nat} (d : D) (h : Fine k d) : f_is_step [.d d] = some (.d (.bool (stepB d)), [.d d]) := by
  have ht := tuple_eq d h 5
  cases hb : tupB 5 d with
  | false =>
    rw [hb] at ht
    have e : stepB d = false := by
      unfold stepB
      split
      · simp [tupB] at hb
      · rfl
    rw [e]
    exact rFn1 (rSeqR (rIfT (rNot (p := false) (rTruB (rCall (rCons rfl (rCons rfl rfl)) rfl rfl List.nodup_nil ht rfl rfl rfl))) (rRet rfl)))
  | true =>
    rw [hb] at ht
    obtain ⟨n, m, r, s, c, rfl⟩ : ∃ n m r s c, d = .tuple [n, m, r, s, c] := by
      cases d with
      | tuple xs =>
        simp only [tupB, beq_iff_eq] at hb
        obtain ⟨n, m, r, s, c, rfl⟩ := len5 (xs := xs) (by omega)
        exact ⟨n, m, r, s, c, rfl⟩
      | _ => cases hb
    have f := h.tup.2
    have ft : Fine (k + 1) (.tuple [n, m, s]) := fine_tuple (by simp) fun x hx => f x (by simp at hx ⊢; rcases hx with rfl | rfl | rfl <;> simp)
    refine rFn1 (rSeq (rIfF (rNot (p := true) (rTruB (rCall (rCons rfl (rCons rfl rfl)) rfl rfl List.nodup_nil ht rfl rfl rfl))) rfl) (rSeq (by rfl) (rRet (by
    refine rAndV (p := nameB n && (nameB m && nameB s)) (rCall1 (rTup (rCons rfl (rCons rfl (rCons rfl rfl))) (xs := [n, m, s]) rfl (show 3 ≤ big by decide)) ?_) fun _ => rAndV (p := namesB r) (rCall1 rfl (names_eq r (f r (by simp)))) fun _ => rCall1 rfl (cond_eq c (f c (by simp)))
    rw [names_eq _ ft]
    simp [namesB]))))
theorem plan_eq {k : Nat} (d : D) (h : Fine k d) : f_is_plan [.d d] = some (.d (.bool (planB d)), [.d d]) := by
  cases d with
  | dict z => exact absurd rfl (h.nodict z)
  | tuple xs =>
    have hl : xs.length ≤ big := Nat.le_trans h.tup.1 (by decide)
    have h1 : sCB gAll (aCons (sLc [1] (iAny (sVar 0)) (gN 1) (fun ρ => some (true, ρ)) (sCall f_is_step [false] (aCons (sVar 1) aNil))) aNil) (rho0 2 [.d (.tuple xs)]) = some (.d (.bool (xs.all stepB)), rho0 2 [.d (.tuple xs)]) :=
      rCB1 (rLc (xs := xs) rfl (goLc_map (f := fun x => .bool (stepB x)) xs hl fun x hx => ⟨_, rfl, _, rFzD (rCall1 rfl (step_eq x (h.tup.2 x hx))), rfl⟩)) rfl (gAll_map _ _)
    cases hd : xs.all stepB with
    | false =>
      rw [hd] at h1
      rw [show planB (.tuple xs) = false by simp [planB, hd]]
      exact rFn1 (rSeqR (rIfT (rOr (p := false) (q := true) rfl fun _ => rNot (rTruB h1)) (rRet rfl)))
    | true =>
      rw [hd] at h1
      rw [show planB (.tuple xs) = ascB (xs.map fst) by simp [planB, hd]]
      refine rFn1 (rSeq (rIfF (rOr (p := false) (q := false) rfl fun _ => rNot (rTruB h1)) rfl) (rRet (by
      refine rCall1f (rLc (xs := xs) rfl (goLc_map (f := fst) xs hl fun x hx => ?_)) rfl ?_
      · obtain ⟨s, r, rfl⟩ := step_str x (List.all_eq_true.mp hd x hx)
        exact ⟨_, rfl, _, rFzD (rOpD rfl rfl (gIx0 _ _)), rfl⟩
      · exact asc_eq _ (by rw [List.length_map]; exact h.tup.1) (fst_str step_str hd))))
  | _ => rfl
theorem counts_eq {k : Nat} (d : D) (h : Fine k d) : f_is_counts [.d d] = some (.d (.bool (countsB d)), [.d d]) := by
  cases d with
  | dict z => exact absurd rfl (h.nodict z)
  | tuple xs =>
    have hl : xs.length ≤ big := Nat.le_trans h.tup.1 (by decide)
    have h1 : sCB gAll (aCons (sLc [1] (iAny (sVar 0)) (gN 1) (fun ρ => some (true, ρ)) (sCall f_is_tuple_of [true, true] (aCons (sVar 1) (aCons (sC (.int 2)) aNil)))) aNil) (rho0 5 [.d (.tuple xs)]) = some (.d (.bool (xs.all (tupB 2))), rho0 5 [.d (.tuple xs)]) :=
      rCB1 (rLc (xs := xs) rfl (goLc_map (f := fun x => .bool (tupB 2 x)) xs hl fun x hx => ⟨_, rfl, _, rFzD (rCall (rCons rfl (rCons rfl rfl)) rfl rfl List.nodup_nil (tuple_eq x (h.tup.2 x hx) 2) rfl rfl rfl), rfl⟩)) rfl (gAll_map _ _)
    cases hd : xs.all (tupB 2) with
    | false =>
      rw [hd] at h1
      have e : countsB (.tuple xs) = false := by
        have : xs.all markB = false := by
          rw [List.all_eq_false] at hd ⊢
          obtain ⟨x, hx, hn⟩ := hd
          refine ⟨x, hx, fun hm => hn ?_⟩
          unfold markB at hm
          split at hm
          · rfl
          · cases hm
        simp [countsB, this]
      rw [e]
      exact rFn1 (rSeqR (rIfT (rOr (p := false) (q := true) rfl fun _ => rNot (rTruB h1)) (rRet rfl)))
    | true =>
      rw [hd] at h1
      have h2 : sCB gAll (aCons (sLc [2, 3] (iAny (sVar 0)) (gT 2 (gsCons (gN 2) (gsCons (gN 3) gsNil))) (fun ρ => some (true, ρ)) (sAndV (sCall f_is_name [true] (aCons (sVar 2) aNil)) (sCall f_is_name [true] (aCons (sVar 3) aNil)))) aNil) (rho0 5 [.d (.tuple xs)]) = some (.d (.bool (xs.all markB)), rho0 5 [.d (.tuple xs)]) := by
        refine rCB1 (rLc (xs := xs) rfl (goLc_map (f := fun x => .bool (markB x)) xs hl fun x hx => ?_)) rfl (gAll_map _ _)
        obtain ⟨a, b, rfl⟩ := tupB2 (List.all_eq_true.mp hd x hx)
        have f := (h.tup.2 _ hx).tup.2
        exact ⟨_, rfl, _, rFzD (rAndV (p := nameB a) (q := nameB b) (rCall1 rfl (name_eq a (f a (by simp)))) fun _ => rCall1 rfl (name_eq b (f b (by simp)))), rfl⟩
      have h0 := rIfF (ρ := rho0 5 [.d (.tuple xs)]) (a := zRet (sC (.bool false))) (b := zNext) (rOr (p := false) (q := false) (s := sNot (sTru (sUn (gIsi "tuple") (sVar 0)))) rfl fun _ => rNot (rTruB h1)) rfl
      cases hm : xs.all markB with
      | false =>
        rw [hm] at h2
        rw [show countsB (.tuple xs) = false by simp [countsB, hm]]
        exact rFn1 (rSeq h0 (rSeqR (rIfT (rNot (rTruB h2)) (rRet rfl))))
      | true =>
        rw [hm] at h2
        rw [show countsB (.tuple xs) = ascB (xs.map fst) by simp [countsB, hm]]
        refine rFn1 (rSeq h0 (rSeq (rIfF (rNot (rTruB h2)) rfl) (rRet (by
        refine rCall1f (rLc (xs := xs) rfl (goLc_map (f := fst) xs hl fun x hx => ?_)) rfl ?_
        · obtain ⟨a, b, rfl⟩ := tupB2 (List.all_eq_true.mp hd x hx)
          exact ⟨_, rfl, _, rfl, rfl⟩
        · exact asc_eq _ (by rw [List.length_map]; exact h.tup.1) (fst_str mark_str hm)))))
  | _ => rfl
end G

set_option linter.all false
set_option maxRecDepth 100000
namespace G
open PySem PySem.Spec L2 Pu
/-! ### names, by both looks -/
abbrev abc : Str := Str.ofString "abcdefghijklmnopqrstuvwxyz"
theorem abc_list : abc.cps.toList = List.range' 97 26 := by decide +kernel
theorem uni_fwd : ∀ c, c < 128 → Unicode.isAlpha c = true → (Unicode.isUpper c || Unicode.isTitle c) = false → c ∈ List.range' 97 26 := by
  have h : (List.range 128).all (fun c => !Unicode.isAlpha c || (Unicode.isUpper c || Unicode.isTitle c) || decide (c ∈ List.range' 97 26)) = true := by decide +kernel
  intro c hc ha hu
  have := List.all_eq_true.mp h c (List.mem_range.mpr hc)
  rw [ha, hu] at this
  simpa using this
theorem uni_bwd : ∀ c, c ∈ List.range' 97 26 → c < 128 ∧ Unicode.isAlpha c = true ∧ (Unicode.isUpper c || Unicode.isTitle c) = false ∧ Unicode.isLower c = true := by
  have h : (List.range' 97 26).all (fun c => decide (c < 128) && (Unicode.isAlpha c && (!(Unicode.isUpper c || Unicode.isTitle c) && Unicode.isLower c))) = true := by decide +kernel
  intro c hc
  have := List.all_eq_true.mp h c hc
  simp only [Bool.and_eq_true, decide_eq_true_eq, Bool.not_eq_true'] at this
  exact this
def tagS (s : Str) : Bool := !(decide ((s.length : Int) < 1) || decide (8 < (s.length : Int))) && s.cps.toList.all fun c => decide (c ∈ abc.cps.toList)
theorem tag_name (s : Str) : tagS s = nameS s := by
  rw [Bool.eq_iff_iff]
  unfold tagS nameS Txt.isascii Txt.isalpha Txt.islower
  simp only [Bool.and_eq_true, Bool.not_eq_true', Bool.or_eq_false_iff, decide_eq_false_iff_not, decide_eq_true_eq, ← Array.all_toList, ← Array.any_toList, List.all_eq_true, List.any_eq_true, abc_list]
  constructor
  · rintro ⟨⟨h1, h2⟩, h3⟩
    refine ⟨by omega, fun c hc => (uni_bwd c (h3 c hc)).1, ⟨by omega, fun c hc => (uni_bwd c (h3 c hc)).2.1⟩, ?_, ?_⟩
    · have hl : 0 < s.cps.toList.length := by
        rw [Array.length_toList]
        have : s.length = s.cps.size := rfl
        omega
      obtain ⟨c, hc⟩ := List.exists_mem_of_length_pos hl
      exact ⟨c, hc, (uni_bwd c (h3 c hc)).2.2.2⟩
    · rw [List.any_eq_false]
      intro c hc
      rw [(uni_bwd c (h3 c hc)).2.2.1]
      simp
  · rintro ⟨h1, h2, ⟨h3, h4⟩, h5, h6⟩
    refine ⟨⟨by omega, by omega⟩, fun c hc => uni_fwd c (h2 c hc) (h4 c hc) ?_⟩
    rw [List.any_eq_false] at h6
    have := h6 c hc
    simpa using this
theorem signs_fine {s : Str} (h : s.cps.all (· < 0x110000) = true) : ∀ x ∈ signs s, Fine 0 x := by
  intro x hx
  obtain ⟨c, hc, rfl⟩ := List.mem_map.mp hx
  rw [← Array.all_toList] at h
  simp only [Fine]
  exact ⟨(show (1 : Nat) ≤ 1000 by decide), by simpa using List.all_eq_true.mp h c hc⟩
def signIn : D → Bool
  | .str i => i.cps.toList.all fun c => decide (c ∈ abc.cps.toList)
  | _ => false
theorem tag_eq {k : Nat} (d : D) (h : Fine k d) : f_law_is_tag [.d d] = some (.d (.bool (nameB d)), [.d d]) := by
  cases d with
  | dict z => exact absurd rfl (h.nodict z)
  | str s =>
    have hs : s.length ≤ big := Nat.le_trans h.str.1 (by decide)
    show _ = some (C.d (.bool (nameS s)), _)
    rw [← tag_name]
    have h0 : sOr (sNot (sTru (sUn (gIsi "str") (sVar 0)))) (sOr (sTst (sOp gLtU (sCB gLenU (aCons (sVar 0) aNil)) (sC (.int 1)))) (sTst (sOp gGt (sCB gLenU (aCons (sVar 0) aNil)) (sC (.int 8))))) (rho0 2 [.d (.str s)])
        = some (decide ((s.length : Int) < 1) || decide (8 < (s.length : Int)), rho0 2 [.d (.str s)]) :=
      rOr (p := false) (q := decide ((s.length : Int) < 1) || decide (8 < (s.length : Int))) rfl fun _ =>
        rOr (p := decide ((s.length : Int) < 1)) (q := decide (8 < (s.length : Int))) (rTst (rOpD (rCB1 rfl rfl (gLenU_str hs)) rfl rfl)) fun _ => rTst (rOpD (rCB1 rfl rfl (gLenU_str hs)) rfl rfl)
    cases hb : (decide ((s.length : Int) < 1) || decide (8 < (s.length : Int))) with
    | true =>
      rw [hb] at h0
      rw [show tagS s = false by unfold tagS; rw [hb]; rfl]
      exact rFn1 (rSeqR (rIfT h0 (rRet rfl)))
    | false =>
      rw [hb] at h0
      rw [show tagS s = (s.cps.toList.all fun c => decide (c ∈ abc.cps.toList)) by unfold tagS; rw [hb]; rfl]
      have hl : (signs s).length ≤ 1000 := by
        unfold signs
        rw [List.length_map, Array.length_toList]
        exact h.str.1
      refine rFn1 (rSeq (rIfF h0 rfl) (rRet (rOp (x := .list ((signs s).filter fun x => !signIn x)) (y := .list []) (rLc (xs := signs s) rfl
        (by
          refine (goLc_pure (p := fun x => !signIn x) (f := fun x => x) (signs s) [] (Nat.le_trans (by simpa using hl) (show 1000 ≤ big by decide)) fun x hx => ?_)
          obtain ⟨c, hc, rfl⟩ := List.mem_map.mp hx
          refine ⟨_, rfl, _, rTst (rOpD rfl rfl (?_ : _ = some (R.d (.bool (!signIn (.str ⟨#[c]⟩)))))), fun _ => rfl, fun _ => ⟨_, rfl, rfl⟩⟩
          show some (R.d (.bool (!decide (c ∈ abc.cps.toList)))) = _
          simp [signIn])) rfl (by simp [rd]) rfl ?_)))
      rw [gEq_nil (Fine.shaped (k := 1) (fine_list (Nat.le_trans (List.length_filter_le ..) hl) fun x hx => signs_fine h.str.2 x (List.mem_filter.mp hx).1) (by decide)), isEmpty_filter]
      congr 3
      unfold signs
      simp only [List.any_map, Function.comp_def, signIn]
      rw [Bool.eq_iff_iff]
      simp
  | _ => rfl
end G

set_option linter.all false
set_option maxRecDepth 100000
namespace G
open PySem PySem.Spec L2 Pu
def ltS (a b : Str) : Prop := a.cps.toList < b.cps.toList
instance (a b : Str) : Decidable (ltS a b) := inferInstanceAs (Decidable (a.cps.toList < b.cps.toList))
theorem ltS_trans {a b c : Str} (h : ltS a b) (k : ltS b c) : ltS a c := List.lt_trans h k
theorem asc_cons (a b : Str) (r : List D) : ascB (.str a :: .str b :: r) = (decide (ltS a b) && ascB (.str b :: r)) := rfl
theorem asc_iff : ∀ ss : List Str, ascB (ss.map .str) = true ↔ ss.Pairwise ltS
  | [] => by simp [ascB, zp]
  | [a] => by simp [ascB, zp]
  | a :: b :: r => by
    have ih := asc_iff (b :: r)
    rw [show (a :: b :: r).map PyData.str = .str a :: .str b :: r.map .str from rfl, asc_cons, Bool.and_eq_true, decide_eq_true_eq, show PyData.str b :: r.map .str = (b :: r).map .str from rfl, ih]
    constructor
    · rintro ⟨h, k⟩
      refine List.pairwise_cons.mpr ⟨fun c hc => ?_, k⟩
      rcases List.mem_cons.mp hc with rfl | hc
      · exact h
      · exact ltS_trans h ((List.pairwise_cons.mp k).1 c hc)
    · intro h
      have := List.pairwise_cons.mp h
      exact ⟨this.1 b List.mem_cons_self, this.2⟩
theorem ltS_ne {a b : Str} (h : ltS a b) : a ≠ b := by
  rintro rfl
  exact List.lt_irrefl _ h
theorem ltS_le {a b : Str} (h : ltS a b) : leS a b = true := by
  unfold leS
  exact decide_eq_true (List.le_of_lt h)
theorem le_ltS {a b : Str} (h : leS a b = true) (n : a ≠ b) : ltS a b := by
  unfold leS at h
  have h := of_decide_eq_true h
  rcases Classical.em (a.cps.toList < b.cps.toList) with k | k
  · exact k
  · refine absurd (leS_anti a b (by unfold leS; exact decide_eq_true h) ?_) n
    unfold leS
    exact decide_eq_true (List.not_lt.mp k)
theorem sset_iff (ss : List Str) : ss = sset ss ↔ ss.Pairwise ltS := by
  constructor
  · intro h
    rw [h]
    unfold sset
    have p := List.pairwise_mergeSort leS_trans leS_total (once ss)
    have n : ((once ss).mergeSort leS).Nodup := (List.mergeSort_perm _ _).nodup_iff.mpr (once_nodup ss)
    exact (List.Pairwise.and p n).imp fun {a b} z => le_ltS z.1 z.2
  · intro h
    rw [← sset_eq (xs := ss) (ys := ss) (h.imp fun z => ltS_ne z) fun _ => Iff.rfl]
    exact (List.mergeSort_of_pairwise (h.imp fun z => ltS_le z)).symm
theorem eqv_strs : ∀ ss ts : List Str, PyData.eqvAll (ss.map .str) (ts.map .str) = decide (ss = ts)
  | [], [] => by simp [PyData.eqvAll]
  | [], _ :: _ => by simp [PyData.eqvAll]
  | _ :: _, [] => by simp [PyData.eqvAll]
  | a :: ss, b :: ts => by
    simp only [List.map_cons, PyData.eqvAll, PyData.eqv, eqv_strs ss ts]
    rw [Bool.eq_iff_iff]
    simp
theorem strs_of {xs : List D} (h : ∀ x ∈ xs, ∃ s, x = .str s) : ∃ ss : List Str, xs = ss.map .str := by
  induction xs with
  | nil => exact ⟨[], rfl⟩
  | cons x xs ih =>
    obtain ⟨s, rfl⟩ := h x List.mem_cons_self
    obtain ⟨ss, rfl⟩ := ih fun y hy => h y (List.mem_cons_of_mem _ hy)
    exact ⟨s :: ss, rfl⟩
theorem once_len (ss : List Str) : (once ss).length ≤ ss.length := by
  induction ss with
  | nil => exact Nat.le_refl _
  | cons s ss ih =>
    unfold once
    split
    · simp; omega
    · simp; omega
theorem rises_eq (xs : List D) (hl : xs.length ≤ 1000) (hf : ∀ x ∈ xs, Fine 0 x) (hs : ∀ x ∈ xs, ∃ s, x = .str s) : f_law_rises [.d (.list xs)] = some (.d (.bool (ascB xs)), [.d (.list xs)]) := by
  obtain ⟨ss, rfl⟩ := strs_of hs
  rw [List.length_map] at hl
  have hm : ∀ s, s ∈ sset ss → s ∈ ss := fun s h => (once_mem ss s).mp ((List.mergeSort_perm _ _).mem_iff.mp h)
  refine rFn1 (rRet (rOp (x := .list (ss.map .str)) (y := .list ((sset ss).map .str)) rfl (rSSet (ss := ss) (rCons rfl rfl) rfl (by omega)) rfl rfl ?_))
  · have h2 : SeqAt.shaped (.list ((sset ss).map .str)) = true := Fine.shaped (k := 1) (fine_list (by
      rw [List.length_map]
      unfold sset
      rw [List.length_mergeSort]
      have := once_len ss
      omega) fun x hx => by
        obtain ⟨s, h1, rfl⟩ := List.mem_map.mp hx
        exact hf _ (List.mem_map_of_mem (hm s h1))) (by decide)
    rw [gEq_of (Fine.shaped (k := 1) (fine_list (by rw [List.length_map]; exact hl) hf) (by decide)) h2]
    simp only [PyData.eqv, eqv_strs]
    congr 3
    rw [Bool.eq_iff_iff, decide_eq_true_eq, asc_iff, sset_iff]
end G

set_option linter.all false
set_option maxRecDepth 100000
namespace G
open PySem PySem.Spec L2 Pu
theorem b1000 : 1000 ≤ big := by decide
theorem fine_sub {k : Nat} {xs ys : List D} (h : Fine k (.tuple xs)) (hs : ∀ y ∈ ys, y ∈ xs) (hl : ys.length ≤ xs.length) : Fine (k + 1) (.list ys) :=
  fine_list (Nat.le_trans hl h.tup.1) fun y hy => h.tup.2 y (hs y hy)
def pairsB : D → Bool
  | .tuple xs => xs.all (tupB 2)
  | _ => false
theorem any_not {α : Type} (p : α → Bool) (xs : List α) : (!xs.any fun x => !p x) = xs.all p := by
  rw [List.all_eq_not_any_not]
theorem all_of {α : Type} {p : α → Bool} {xs : List α} (h : xs.all p = true) {x : α} (hx : x ∈ xs) : p x = true := List.all_eq_true.mp h x hx
theorem pairs_eq {k : Nat} (d : D) (h : Fine k d) (hk : k ≤ 60) : f_law_are_pairs [.d d] = some (.d (.bool (pairsB d)), [.d d]) := by
  cases d with
  | dict z => exact absurd rfl (h.nodict z)
  | tuple xs =>
    refine rFn1 (rRet (rAndV (p := true) (q := xs.all (tupB 2)) rfl fun _ => rOp (x := .list ((xs.filter fun x => !tupB 2 x).map fun x => x)) (y := .list []) (rLc (xs := xs) rfl (goLc_pure (p := fun x => !tupB 2 x) (f := fun x => x) xs [] (by simpa using Nat.le_trans h.tup.1 b1000) fun x hx => ?_)) rfl rfl rfl ?_))
    · have hf := h.tup.2 x hx
      refine ⟨_, rfl, [some (.d (.tuple xs)), some (.d x)], ?_, fun _ => rfl, fun _ => ⟨_, rfl, rfl⟩⟩
      cases x with
      | dict z => exact absurd rfl (hf.nodict z)
      | tuple ys => exact rOr (p := false) (q := !tupB 2 (.tuple ys)) rfl fun _ => rTst (rOpD (rCB1 rfl rfl rfl) rfl (gNe_int _ _))
      | _ => exact rOr (p := true) (q := false) rfl fun z => by cases z
    · rw [List.map_id', gEq_nil (Fine.shaped (fine_sub h (fun y hy => (List.mem_filter.mp hy).1) (List.length_filter_le ..)) (by omega)), isEmpty_filter, any_not]
  | _ => rfl
def snd : D → D
  | .tuple [_, b] => b
  | _ => .none
def in01 (d : D) : Bool := [PyData.int 0, .int 1].any fun z => PyData.eqv z d
theorem bit_in (d : D) : bitB d = (isIntB d && in01 d) := by
  cases d with
  | int i =>
    show (i == 0 || i == 1) = (true && ((0 == i) || ((1 == i) || false)))
    rw [Bool.true_and, Bool.or_false, show ((0 : Int) == i) = (i == 0) from Bool.beq_comm .. , show ((1 : Int) == i) = (i == 1) from Bool.beq_comm ..]
  | _ => rfl
theorem gIx1 (x y : D) (r : List D) : gIx (.tuple (x :: y :: r)) (.int 1) = some (.d y) := by
  show (atI (x :: y :: r) 1).map R.d = _
  unfold atI ixN
  rw [if_pos (by omega), if_pos (by simp only [List.length_cons]; omega)]
  rfl
theorem notIn01 {k : Nat} {d : D} (h : Fine k d) (hk : k ≤ 60) : gNotInU d (.tuple [.int 0, .int 1]) = some (.d (.bool (!in01 d))) := by
  unfold gNotInU orG gIn
  cases d <;> simp only [] <;> rw [if_pos ⟨h.shaped (by omega), rfl⟩] <;> rfl
theorem all_and {α : Type} (p q : α → Bool) : ∀ xs : List α, (xs.all fun x => p x && q x) = (xs.all p && xs.all q)
  | [] => rfl
  | x :: xs => by
    simp only [List.all_cons, all_and p q xs]
    cases p x <;> cases q x <;> simp
theorem all_congr {α : Type} {p q : α → Bool} {xs : List α} (h : ∀ x ∈ xs, p x = q x) : xs.all p = xs.all q := by
  rw [Bool.eq_iff_iff, List.all_eq_true, List.all_eq_true]
  exact ⟨fun z x hx => by rw [← h x hx]; exact z x hx, fun z x hx => by rw [h x hx]; exact z x hx⟩
theorem on_eq {k : Nat} (d : D) (h : Fine k d) (hk : k ≤ 55) : f_law_is_on [.d d] = some (.d (.bool (condB d)), [.d d]) := by
  have hp := pairs_eq d h (by omega)
  cases hb : pairsB d with
  | false =>
    rw [hb] at hp
    have e : condB d = false := by
      cases d with
      | tuple xs =>
        have : xs.all demandB = false := by
          rw [show pairsB (.tuple xs) = xs.all (tupB 2) from rfl, List.all_eq_false] at hb
          obtain ⟨x, hx, hn⟩ := hb
          rw [List.all_eq_false]
          refine ⟨x, hx, fun hm => hn ?_⟩
          unfold demandB at hm
          split at hm
          · rfl
          · cases hm
        simp [condB, this]
      | _ => rfl
    rw [e]
    exact rFn1 (rSeqR (rIfT (rOr (p := true) (q := false) (rNot (rTruB (rCall1f rfl rfl hp))) fun z => by cases z) (rRet rfl)))
  | true =>
    rw [hb] at hp
    obtain ⟨xs, rfl⟩ : ∃ xs, d = .tuple xs := by
      cases d with
      | tuple xs => exact ⟨xs, rfl⟩
      | _ => cases hb
    have hb : xs.all (tupB 2) = true := hb
    have hx2 : ∀ x ∈ xs, ∃ a b, x = .tuple [a, b] := fun x hx => tupB2 (all_of hb hx)
    have hl : ([] : List D).length + xs.length ≤ big := by simpa using Nat.le_trans h.tup.1 b1000
    have fa : ∀ a b, .tuple [a, b] ∈ xs → Fine k a ∧ Fine k b := fun a b hm => ⟨(h.tup.2 _ hm).tup.2 a (by simp), (h.tup.2 _ hm).tup.2 b (by simp)⟩
    have h1 : sLc [1] (iAny (sVar 0)) (gN 1) (sNot (sTru (sCall f_law_is_tag [false] (aCons (sOp gIx (sVar 1) (sC (.int 0))) aNil)))) (sVar 1) (rho0 4 [.d (.tuple xs)]) = some (.own (xs.filter fun x => !nameB (fst x)), rho0 4 [.d (.tuple xs)]) := by
      refine rLc (xs := xs) rfl ((goLc_pure (p := fun x => !nameB (fst x)) (f := fun x => x) xs [] hl fun x hx => ?_).trans (by simp; rfl))
      obtain ⟨a, b, rfl⟩ := hx2 x hx
      exact ⟨_, rfl, _, rNot (rTruB (rCall1f (rOpD rfl rfl (gIx0 _ _)) rfl (tag_eq a (fa a b hx).1))), fun _ => rfl, fun _ => ⟨_, rfl, rfl⟩⟩
    have h2 : sOr (sNot (sTru (sCall f_law_are_pairs [false] (aCons (sVar 0) aNil)))) (sTst (sOp gNe (sLc [1] (iAny (sVar 0)) (gN 1) (sNot (sTru (sCall f_law_is_tag [false] (aCons (sOp gIx (sVar 1) (sC (.int 0))) aNil)))) (sVar 1)) (sLst aNil))) (rho0 4 [.d (.tuple xs)])
        = some (false || !(xs.all fun x => nameB (fst x)), rho0 4 [.d (.tuple xs)]) := by
      refine rOr (p := false) (rNot (rTruB (rCall1f rfl rfl hp))) fun _ => rTst (rOp (x := .list (xs.filter fun x => !nameB (fst x))) (y := .list []) h1 rfl rfl rfl ?_)
      rw [gNe_nil (Fine.shaped (fine_sub h (fun y hy => (List.mem_filter.mp hy).1) (List.length_filter_le ..)) (by omega)), isEmpty_filter, any_not]
    have hd : xs.all demandB = ((xs.all fun x => nameB (fst x)) && ((xs.all fun x => isIntB (snd x)) && (xs.all fun x => in01 (snd x)))) := by
      rw [← all_and, ← all_and]
      refine all_congr fun x hx => ?_
      obtain ⟨a, b, rfl⟩ := hx2 x hx
      show (nameB a && bitB b) = _
      rw [bit_in]
      rfl
    cases hn : xs.all fun x => nameB (fst x) with
    | false =>
      rw [hn] at h2 hd
      rw [show condB (.tuple xs) = false by simp only [condB, hd]; rfl]
      exact rFn1 (rSeqR (rIfT h2 (rRet rfl)))
    | true =>
      rw [hn] at h2 hd
      rw [show condB (.tuple xs) = ((xs.all fun x => isIntB (snd x)) && ((xs.all fun x => in01 (snd x)) && ascB (xs.map fst))) by simp only [condB, hd]; simp [Bool.and_assoc]]
      have g3 : ∀ p : D → Bool, SeqAt.shaped (.list ((xs.filter p).map snd)) = true := fun p => Fine.shaped (k := k + 1) (fine_list (by rw [List.length_map]; exact Nat.le_trans (List.length_filter_le ..) h.tup.1) fun y hy => by
        obtain ⟨x, hx, rfl⟩ := List.mem_map.mp hy
        have hx := (List.mem_filter.mp hx).1
        obtain ⟨a, b, rfl⟩ := hx2 x hx
        exact (fa a b hx).2) (by omega)
      refine rFn1 (rSeq (rIfF h2 rfl) (rSeq (rSet (rLc (xs := xs) rfl (goLc_pure (p := fun x => !isIntB (snd x)) (f := snd) xs [] hl fun x hx => (by
        obtain ⟨a, b, rfl⟩ := hx2 x hx
        refine ⟨_, rfl, [some (.d (.tuple xs)), some (.d (.tuple [a, b])), none, none], (?_ : _ = some (!isIntB b, _)), fun _ => rfl, fun _ => ⟨_, rFzD (rOpD rfl rfl (gIx1 _ _ _)), rfl⟩⟩
        have hfb := (fa a b hx).2
        cases b with
        | dict z => exact absurd rfl (hfb.nodict z)
        | int i => exact rOr (p := false) (q := false) (rNot (p := true) (rTruB (rUnD (rOpD rfl rfl (gIx1 _ _ _)) rfl))) fun _ => rTruB (rUnD (rOpD rfl rfl (gIx1 _ _ _)) rfl)
        | bool i => exact rOr (p := false) (q := true) (rNot (p := true) (rTruB (rUnD (rOpD rfl rfl (gIx1 _ _ _)) rfl))) fun _ => rTruB (rUnD (rOpD rfl rfl (gIx1 _ _ _)) rfl)
        | _ => exact rOr (p := true) (q := false) (rNot (p := false) (rTruB (rUnD (rOpD rfl rfl (gIx1 _ _ _)) rfl))) fun z => by cases z))) rfl rfl)
        (rSeq (rSet (rLc (xs := xs) rfl (goLc_pure (p := fun x => !in01 (snd x)) (f := snd) xs [] hl fun x hx => (by
          obtain ⟨a, b, rfl⟩ := hx2 x hx
          exact ⟨_, rfl, _, rTst (rOpD (rOpD rfl rfl (gIx1 _ _ _)) (rTup (rCons rfl (rCons rfl rfl)) rfl (show 2 ≤ big by decide)) (notIn01 (fa a b hx).2 (by omega))), fun _ => rfl, fun _ => ⟨_, rFzD (rOpD rfl rfl (gIx1 _ _ _)), rfl⟩⟩))) rfl rfl)
        (rRet (rAndV (p := xs.all fun x => isIntB (snd x)) (rOp (x := .list ((xs.filter fun x => !isIntB (snd x)).map snd)) (y := .list []) rfl rfl rfl rfl (by rw [gEq_nil (g3 _), isEmpty_fm, any_not])) fun _ =>
          rAndV (p := xs.all fun x => in01 (snd x)) (rOp (x := .list ((xs.filter fun x => !in01 (snd x)).map snd)) (y := .list []) rfl rfl rfl rfl (by rw [gEq_nil (g3 _), isEmpty_fm, any_not])) fun _ =>
          (by
            refine rCall1f (rLc (xs := xs) rfl (goLc_map (f := fst) xs (by simpa using hl) fun x hx => ?_)) rfl (rises_eq _ (by rw [List.length_map]; exact h.tup.1) (fun x hx => ?_) fun x hx => ?_)
            · obtain ⟨a, b, rfl⟩ := hx2 x hx
              exact ⟨_, rfl, _, rFzD (rOpD rfl rfl (gIx0 _ _)), rfl⟩
            · obtain ⟨y, hy, rfl⟩ := List.mem_map.mp hx
              obtain ⟨a, b, rfl⟩ := hx2 y hy
              obtain ⟨s, hs⟩ := nameB_str (all_of hn hy)
              have := (fa a b hy).1
              simp only [fst] at hs ⊢
              subst hs
              simpa [Fine] using this.str
            · obtain ⟨y, hy, rfl⟩ := List.mem_map.mp hx
              exact nameB_str (all_of hn hy)))))))
end G

set_option linter.all false
set_option maxRecDepth 100000
namespace G
open PySem PySem.Spec L2 Pu
theorem isi_tup {k : Nat} {d : D} (h : Fine k d) : (∃ xs, d = .tuple xs) ∨ (gIsi "tuple" d = some (.d (.bool false)) ∧ namesB d = false ∧ planB d = false ∧ tupB 5 d = false) := by
  cases d with
  | dict z => exact absurd rfl (h.nodict z)
  | tuple xs => exact .inl ⟨xs, rfl⟩
  | _ => exact .inr ⟨rfl, rfl, rfl, rfl⟩
theorem bit_eq {k : Nat} (d : D) (h : Fine k d) (hk : k ≤ 55) : f_law_is_bit [.d d] = some (.d (.bool (stepB d)), [.d d]) := by
  have nostep : tupB 5 d = false → stepB d = false := fun hb => by
    unfold stepB
    split
    · simp [tupB] at hb
    · rfl
  rcases isi_tup h with ⟨xs, rfl⟩ | ⟨h1, _, _, h4⟩
  · cases h5 : ((xs.length : Int) == 5) with
    | false =>
      rw [nostep h5]
      exact rFn1 (rSeqR (rIfT (rOr (p := false) (q := true) rfl fun _ => rOr (p := true) (q := false) (rTst (rOpD (rCB1 rfl rfl rfl) rfl (by rw [gNe_int, h5]; rfl))) fun z => by cases z) (rRet rfl)))
    | true =>
      obtain ⟨n, m, r, s, c, rfl⟩ := len5 (xs := xs) (by simp only [beq_iff_eq] at h5; omega)
      have f := h.tup.2
      have h0 : sTst (sOp gNe (sCB gLenU (aCons (sVar 0) aNil)) (sC (.int 5))) (rho0 2 [.d (.tuple [n, m, r, s, c])]) = some (false, rho0 2 [.d (.tuple [n, m, r, s, c])]) := rTst (rOpD (rCB1 rfl rfl rfl) rfl (by rw [gNe_int, h5]; rfl))
      have fr := f r (by simp)
      rcases isi_tup fr with ⟨rs, rfl⟩ | ⟨k1, k2, _⟩
      · have hrl := fr.tup.1
        have h1 : sOp gAddU (sTup (aCons (sOp gIx (sVar 0) (sC (.int 0))) (aCons (sOp gIx (sVar 0) (sC (.int 1))) (aCons (sOp gIx (sVar 0) (sC (.int 3))) aNil)))) (sOp gIx (sVar 0) (sC (.int 2))) (rho0 2 [.d (.tuple [n, m, .tuple rs, s, c])])
            = some (.d (.tuple ([n, m, s] ++ rs)), rho0 2 [.d (.tuple [n, m, .tuple rs, s, c])]) := by
          refine rOp (x := .tuple [n, m, s]) (y := .tuple rs) (rTup (xs := [n, m, s]) (rCons (rOpD rfl rfl rfl) (rCons (rOpD rfl rfl rfl) (rCons (rOpD rfl rfl rfl) rfl))) rfl (show 3 ≤ big by decide)) (rOpD rfl rfl rfl) rfl rfl ?_
          show (if ([n, m, s].length + rs.length ≤ big) then _ else _) = _
          rw [if_pos (by have : 1003 ≤ big := by decide
                         simp only [List.length_cons, List.length_nil]; omega)]
        have fall : ∀ x ∈ [n, m, s] ++ rs, Fine k x := fun x hx => by
          rcases List.mem_append.mp hx with hx | hx
          · exact f x (by simp at hx ⊢; rcases hx with rfl | rfl | rfl <;> simp)
          · exact fr.tup.2 x hx
        have hl : ([n, m, s] ++ rs).length ≤ 1003 := by simp; omega
        have h2 : sTst (sOp gNe (sLc [1] (iAny (sOp gAddU (sTup (aCons (sOp gIx (sVar 0) (sC (.int 0))) (aCons (sOp gIx (sVar 0) (sC (.int 1))) (aCons (sOp gIx (sVar 0) (sC (.int 3))) aNil)))) (sOp gIx (sVar 0) (sC (.int 2))))) (gN 1) (sNot (sTru (sCall f_law_is_tag [false] (aCons (sVar 1) aNil)))) (sVar 1)) (sLst aNil)) (rho0 2 [.d (.tuple [n, m, .tuple rs, s, c])])
            = some (!(([n, m, s] ++ rs).all nameB), rho0 2 [.d (.tuple [n, m, .tuple rs, s, c])]) := by
          refine rTst (rOp (x := .list (([n, m, s] ++ rs).filter fun x => !nameB x)) (y := .list []) (rLc (xs := [n, m, s] ++ rs) (by unfold iAny iSq sFz; rw [h1]; rfl) ((goLc_pure (p := fun x => !nameB x) (f := fun x => x) _ [] (Nat.le_trans (by simpa using hl) (show 1003 ≤ big by decide)) fun x hx => ?_).trans (by rw [List.map_id', List.nil_append]; rfl))) rfl rfl rfl ?_)
          · exact ⟨_, rfl, _, rNot (rTruB (rCall1f rfl rfl (tag_eq x (fall x hx)))), fun _ => rfl, fun _ => ⟨_, rfl, rfl⟩⟩
          · have sh : SeqAt.shaped (.list (([n, m, s] ++ rs).filter fun x => !nameB x)) = true := by
              unfold SeqAt.shaped
              rw [show PyData.canLay0 (.list (([n, m, s] ++ rs).filter fun x => !nameB x)) = PyData.canLayAll0 (([n, m, s] ++ rs).filter fun x => !nameB x) by simp only [PyData.canLay0], canLayAll_of fun x hx => (fall x (List.mem_filter.mp hx).1).lay.1, Bool.true_and]
              refine decide_eq_true ?_
              simp only [PyData.depth]
              exact Nat.le_trans (Nat.succ_le_succ (depthAll_of (n := k) fun x hx => (fall x (List.mem_filter.mp hx).1).lay.2)) (by omega)
            rw [gNe_nil sh, isEmpty_filter, any_not]
        have e : stepB (.tuple [n, m, .tuple rs, s, c]) = (([n, m, s] ++ rs).all nameB && condB c) := by
          rw [List.all_append]
          show ((nameB n && (nameB m && nameB s)) && (rs.all nameB && condB c)) = _
          simp [Bool.and_assoc]
        cases hn : ([n, m, s] ++ rs).all nameB with
        | false =>
          rw [hn] at h2 e
          rw [e]
          exact rFn1 (rSeq (rIfF (rOr (p := false) (q := false) rfl fun _ => rOr (p := false) (q := false) h0 fun _ => rNot (p := true) (rTruB (rUnD (rOpD rfl rfl rfl) rfl))) rfl) (rSeqR (rIfT h2 (rRet rfl))))
        | true =>
          rw [hn] at h2 e
          rw [e]
          exact rFn1 (rSeq (rIfF (rOr (p := false) (q := false) rfl fun _ => rOr (p := false) (q := false) h0 fun _ => rNot (p := true) (rTruB (rUnD (rOpD rfl rfl rfl) rfl))) rfl) (rSeq (rIfF h2 rfl) (rRet (rCall1f (rOpD rfl rfl rfl) rfl (on_eq c (f c (by simp)) hk)))))
      · rw [show stepB (.tuple [n, m, r, s, c]) = false by simp [stepB, k2]]
        exact rFn1 (rSeqR (rIfT (rOr (p := false) (q := true) rfl fun _ => rOr (p := false) (q := true) h0 fun _ => rNot (p := false) (rTruB (rUnD (rOpD rfl rfl rfl) k1))) (rRet rfl)))
  · rw [nostep h4]
    exact rFn1 (rSeqR (rIfT (rOr (p := true) (q := false) (rNot (p := false) (rTruB (rUnD rfl h1))) fun z => by cases z) (rRet rfl)))
theorem form_eq {k : Nat} (d : D) (h : Fine k d) (hk : k ≤ 55) : f_law_is_form [.d d] = some (.d (.bool (planB d)), [.d d]) := by
  rcases isi_tup h with ⟨xs, rfl⟩ | ⟨h1, _, h3, _⟩
  · have h1 : sTst (sOp gNe (sLc [1] (iAny (sVar 0)) (gN 1) (sNot (sTru (sCall f_law_is_bit [true] (aCons (sVar 1) aNil)))) (sVar 1)) (sLst aNil)) (rho0 2 [.d (.tuple xs)]) = some (!(xs.all stepB), rho0 2 [.d (.tuple xs)]) := by
      refine rTst (rOp (x := .list (xs.filter fun x => !stepB x)) (y := .list []) (rLc (xs := xs) rfl ((goLc_pure (p := fun x => !stepB x) (f := fun x => x) _ [] (by simpa using Nat.le_trans h.tup.1 b1000) fun x hx => ?_).trans (by rw [List.map_id', List.nil_append]; rfl))) rfl rfl rfl ?_)
      · exact ⟨_, rfl, _, rNot (rTruB (rCall1 rfl (bit_eq x (h.tup.2 x hx) hk))), fun _ => rfl, fun _ => ⟨_, rfl, rfl⟩⟩
      · rw [gNe_nil (Fine.shaped (fine_sub h (fun y hy => (List.mem_filter.mp hy).1) (List.length_filter_le ..)) (by omega)), isEmpty_filter, any_not]
    cases hn : xs.all stepB with
    | false =>
      rw [hn] at h1
      rw [show planB (.tuple xs) = false by simp [planB, hn]]
      exact rFn1 (rSeqR (rIfT (rOr (p := false) (q := true) (rNot (p := true) (rTruB rfl)) fun _ => h1) (rRet rfl)))
    | true =>
      rw [hn] at h1
      rw [show planB (.tuple xs) = ascB (xs.map fst) by simp [planB, hn]]
      refine rFn1 (rSeq (rIfF (rOr (p := false) (q := false) (rNot (p := true) (rTruB rfl)) fun _ => h1) rfl) (rRet (by
        refine rCall1f (rLc (xs := xs) rfl (goLc_map (f := fst) xs (Nat.le_trans h.tup.1 b1000) fun x hx => ?_)) rfl (rises_eq _ (by rw [List.length_map]; exact h.tup.1) (fun x hx => ?_) (fst_str step_str hn))
        · obtain ⟨s, r, rfl⟩ := step_str x (all_of hn hx)
          exact ⟨_, rfl, _, rFzD (rOpD rfl rfl (gIx0 _ _)), rfl⟩
        · obtain ⟨y, hy, rfl⟩ := List.mem_map.mp hx
          obtain ⟨s, r, rfl⟩ := step_str y (all_of hn hy)
          have := (h.tup.2 _ hy).tup.2 (.str s) (by simp)
          show Fine 0 (.str s)
          simp only [Fine]
          exact this.str)))
  · rw [h3]
    exact rFn1 (rSeqR (rIfT (rOr (p := true) (q := false) (rNot (p := false) (rTruB (rUnD rfl h1))) fun z => by cases z) (rRet rfl)))
theorem stock_eq {k : Nat} (d : D) (h : Fine k d) (hk : k ≤ 55) : f_law_is_stock [.d d] = some (.d (.bool (countsB d)), [.d d]) := by
  have hp := pairs_eq d h (by omega)
  cases hb : pairsB d with
  | false =>
    rw [hb] at hp
    have e : countsB d = false := by
      cases d with
      | tuple xs =>
        have : xs.all markB = false := by
          rw [show pairsB (.tuple xs) = xs.all (tupB 2) from rfl, List.all_eq_false] at hb
          obtain ⟨x, hx, hn⟩ := hb
          rw [List.all_eq_false]
          refine ⟨x, hx, fun hm => hn ?_⟩
          unfold markB at hm
          split at hm
          · rfl
          · cases hm
        simp [countsB, this]
      | _ => rfl
    rw [e]
    exact rFn1 (rSeqR (rIfT (rNot (rTruB (rCall1f rfl rfl hp))) (rRet rfl)))
  | true =>
    rw [hb] at hp
    obtain ⟨xs, rfl⟩ : ∃ xs, d = .tuple xs := by
      cases d with
      | tuple xs => exact ⟨xs, rfl⟩
      | _ => cases hb
    have hb : xs.all (tupB 2) = true := hb
    have hx2 : ∀ x ∈ xs, ∃ a b, x = .tuple [a, b] := fun x hx => tupB2 (all_of hb hx)
    have fa : ∀ a b, .tuple [a, b] ∈ xs → Fine k a ∧ Fine k b := fun a b hm => ⟨(h.tup.2 _ hm).tup.2 a (by simp), (h.tup.2 _ hm).tup.2 b (by simp)⟩
    have h1 : sTst (sOp gNe (sLc [1] (iAny (sVar 0)) (gN 1) (sOr (sNot (sTru (sCall f_law_is_tag [false] (aCons (sOp gIx (sVar 1) (sC (.int 0))) aNil)))) (sNot (sTru (sCall f_law_is_tag [false] (aCons (sOp gIx (sVar 1) (sC (.int 1))) aNil))))) (sVar 1)) (sLst aNil)) (rho0 2 [.d (.tuple xs)]) = some (!(xs.all markB), rho0 2 [.d (.tuple xs)]) := by
      refine rTst (rOp (x := .list (xs.filter fun x => !markB x)) (y := .list []) (rLc (xs := xs) rfl ((goLc_pure (p := fun x => !markB x) (f := fun x => x) _ [] (by simpa using Nat.le_trans h.tup.1 b1000) fun x hx => ?_).trans (by rw [List.map_id', List.nil_append]; rfl))) rfl rfl rfl ?_)
      · obtain ⟨a, b, rfl⟩ := hx2 x hx
        refine ⟨_, rfl, [some (.d (.tuple xs)), some (.d (.tuple [a, b]))], ?_, fun _ => rfl, fun _ => ⟨_, rfl, rfl⟩⟩
        rw [show (!markB (.tuple [a, b])) = (!nameB a || !nameB b) by simp [markB, Bool.not_and]]
        exact rOr (rNot (rTruB (rCall1f (rOpD rfl rfl (gIx0 _ _)) rfl (tag_eq a (fa a b hx).1)))) fun _ => rNot (rTruB (rCall1f (rOpD rfl rfl (gIx1 _ _ _)) rfl (tag_eq b (fa a b hx).2)))
      · rw [gNe_nil (Fine.shaped (fine_sub h (fun y hy => (List.mem_filter.mp hy).1) (List.length_filter_le ..)) (by omega)), isEmpty_filter, any_not]
    cases hn : xs.all markB with
    | false =>
      rw [hn] at h1
      rw [show countsB (.tuple xs) = false by simp [countsB, hn]]
      exact rFn1 (rSeq (rIfF (rNot (rTruB (rCall1f rfl rfl hp))) rfl) (rSeqR (rIfT h1 (rRet rfl))))
    | true =>
      rw [hn] at h1
      rw [show countsB (.tuple xs) = ascB (xs.map fst) by simp [countsB, hn]]
      refine rFn1 (rSeq (rIfF (rNot (rTruB (rCall1f rfl rfl hp))) rfl) (rSeq (rIfF h1 rfl) (rRet (by
        refine rCall1f (rLc (xs := xs) rfl (goLc_map (f := fst) xs (Nat.le_trans h.tup.1 b1000) fun x hx => ?_)) rfl (rises_eq _ (by rw [List.length_map]; exact h.tup.1) (fun x hx => ?_) (fst_str mark_str hn))
        · obtain ⟨a, b, rfl⟩ := hx2 x hx
          exact ⟨_, rfl, _, rFzD (rOpD rfl rfl (gIx0 _ _)), rfl⟩
        · obtain ⟨y, hy, rfl⟩ := List.mem_map.mp hx
          obtain ⟨s, r, rfl⟩ := mark_str y (all_of hn hy)
          have := (h.tup.2 _ hy).tup.2 (.str s) (by simp)
          show Fine 0 (.str s)
          simp only [Fine]
          exact this.str))))
end G

set_option linter.all false
set_option maxRecDepth 100000
namespace G
open PySem PySem.Spec L2 Pu
/-! ### what is drawn -/
/-- a tin with at least n draws left -/
def T (n : Nat) (xs : List D) : Prop := ∃ a b c : Int, xs = [.int a, .int b, .int c] ∧ 0 ≤ a ∧ 0 ≤ c ∧ c + n ≤ 2 ^ 60
theorem T.less {n m : Nat} {xs : List D} (h : T n xs) (e : m ≤ n) : T m xs := by
  obtain ⟨a, b, c, h1, h2, h3, h4⟩ := h
  exact ⟨a, b, c, h1, h2, h3, by omega⟩
theorem take_ok {n : Nat} {xs : List D} {m : Int} (h : T (n + 1) xs) (h1 : 0 < m) (h2 : m < 1073741824) :
    ∃ (r : Nat) (ys : List D), f_law_take [.arg xs, .d (.int m)] = some (.d (.int r), [.arg ys, .d (.int m)]) ∧ (r : Int) < m ∧ T n ys := by
  obtain ⟨a, b, c, rfl, ha, hc, hn⟩ := h
  by_cases h0 : 0 < a
  · have hr : 0 ≤ a % m := Int.emod_nonneg _ (by omega)
    have hr2 : a % m < m := Int.emod_lt_of_pos _ h1
    obtain ⟨r, hr3⟩ : ∃ r : Nat, a % m = r := ⟨(a % m).toNat, by omega⟩
    refine ⟨r, [.int (a / m), .int b, .int c], ?_, by omega, ⟨_, _, _, rfl, Int.ediv_nonneg ha (by omega), hc, by omega⟩⟩
    have s0 : sTst (sOp gGt (sOp gIx (sVar 0) (sC (.int 0))) (sC (.int 0))) (rho0 6 [.arg [.int a, .int b, .int c], .d (.int m)]) = some (true, rho0 6 [.arg [.int a, .int b, .int c], .d (.int m)]) :=
      rTst (rOpD (x := .int a) (rOp (x := .list [.int a, .int b, .int c]) rfl rfl rfl rfl rfl) rfl (by show some (R.d (.bool (decide (0 < a)))) = _; rw [decide_eq_true h0]))
    refine rFn (ρ := [some (.arg [.int (a / m), .int b, .int c]), some (.d (.int m)), some (.d (.int r)), none, none, none]) rfl (rSeqR (rIfT s0 (rSeq (ρ1 := [some (.arg [.int a, .int b, .int c]), some (.d (.int m)), some (.d (.int r)), none, none, none]) ?_ (rSeq (ρ1 := [some (.arg [.int (a / m), .int b, .int c]), some (.d (.int m)), some (.d (.int r)), none, none, none]) ?_ (rRet rfl))))) rfl rfl
    · refine rSet (r := .d (.int r)) (rOpD (x := .int a) (y := .int m) (rCB1 (rOp (x := .list [.int a, .int b, .int c]) rfl rfl rfl rfl rfl) rfl rfl) rfl ?_) rfl rfl
      rw [modI h1, hr3]
    · exact rPut (y := .int (a / m)) (rFzD (rOpD (x := .int a) (y := .int m) (rOp (x := .list [.int a, .int b, .int c]) rfl rfl rfl rfl rfl) rfl (divI h1 h2))) rfl rfl rfl rfl rfl (ixN_nat (k := 0) (show 0 < 3 by decide)) rfl
  · have a0 : a = 0 := by omega
    subst a0
    generalize e1 : ((b + 48271 * (c + 1)) * (39373 + (c + 1))) % 2147483647 = once
    generalize e2 : once % 40009 + 7 = far
    generalize e3 : ((once + (c + 1) + b / 1000003) * far) % 2147483629 = twice
    generalize e4 : ((twice * 48271 + once) % 2147483587 / 64) = last
    have q1 : 0 ≤ once % 40009 := Int.emod_nonneg _ (by omega)
    have q2 : once % 40009 < 40009 := Int.emod_lt_of_pos _ (by omega)
    have q3 : 0 ≤ twice := by rw [← e3]; exact Int.emod_nonneg _ (by omega)
    have q4 : twice < 2147483629 := by rw [← e3]; exact Int.emod_lt_of_pos _ (by omega)
    have hr : 0 ≤ last % m := Int.emod_nonneg _ (by omega)
    have hr2 : last % m < m := Int.emod_lt_of_pos _ h1
    obtain ⟨r, hr3⟩ : ∃ r : Nat, last % m = r := ⟨(last % m).toNat, by omega⟩
    refine ⟨r, [.int 0, .int b, .int (c + 1)], ?_, by omega, ⟨_, _, _, rfl, Int.le_refl _, by omega, by omega⟩⟩
    have s0 : sTst (sOp gGt (sOp gIx (sVar 0) (sC (.int 0))) (sC (.int 0))) (rho0 6 [.arg [.int 0, .int b, .int c], .d (.int m)]) = some (false, rho0 6 [.arg [.int 0, .int b, .int c], .d (.int m)]) :=
      rTst (rOpD (x := .int 0) (rOp (x := .list [.int 0, .int b, .int c]) rfl rfl rfl rfl rfl) rfl rfl)
    have ix : ∀ (o f t : Option C) (k : Int) (z : D), gIx (.list [.int 0, .int b, .int (c + 1)]) (.int k) = some (.d z) → sOp gIx (sVar 0) (sC (.int k)) [some (.arg [.int 0, .int b, .int (c + 1)]), some (.d (.int m)), none, o, f, t] = some (.d z, [some (.arg [.int 0, .int b, .int (c + 1)]), some (.d (.int m)), none, o, f, t]) :=
      fun o f t k z hz => rOp (x := .list [.int 0, .int b, .int (c + 1)]) rfl rfl rfl rfl hz
    refine rFn (r := .d (.int r)) (ρ := [some (.arg [.int 0, .int b, .int (c + 1)]), some (.d (.int m)), none, some (.d (.int once)), some (.d (.int far)), some (.d (.int twice))]) rfl (rSeq (rIfF s0 rfl)
      (rSeq (ρ1 := [some (.arg [.int 0, .int b, .int (c + 1)]), some (.d (.int m)), none, none, none, none]) ?_
      (rSeq (ρ1 := [some (.arg [.int 0, .int b, .int (c + 1)]), some (.d (.int m)), none, some (.d (.int once)), none, none]) ?_
      (rSeq (ρ1 := [some (.arg [.int 0, .int b, .int (c + 1)]), some (.d (.int m)), none, some (.d (.int once)), some (.d (.int far)), none]) ?_
      (rSeq (ρ1 := [some (.arg [.int 0, .int b, .int (c + 1)]), some (.d (.int m)), none, some (.d (.int once)), some (.d (.int far)), some (.d (.int twice))]) ?_
      (rRet ?_)))))) rfl rfl
    · exact rPut (y := .int (c + 1)) (rFzD (rOpD (x := .int c) (rOp (x := .list [.int 0, .int b, .int c]) rfl rfl rfl rfl rfl) rfl rfl)) rfl rfl rfl rfl rfl (ixN_nat (k := 2) (show 2 < 3 by decide)) rfl
    · refine rSet (r := .d (.int once)) (rOpD (x := .int ((b + 48271 * (c + 1)) * (39373 + (c + 1)))) (rCB1 (rOpD (rOpD (ix _ _ _ _ _ rfl) (rOpD rfl (ix _ _ _ _ _ rfl) (mulL (by omega))) rfl) (rOpD rfl (ix _ _ _ _ _ rfl) rfl) (mulR (by omega))) rfl rfl) rfl ?_) rfl rfl
      rw [modI (by omega), e1]
    · refine rSet (r := .d (.int far)) (rOpD (x := .int (once % 40009)) (rOpD (x := .int once) (rCB1 rfl rfl rfl) rfl (modI (by omega))) rfl ?_) rfl rfl
      rw [← e2]
      rfl
    · refine rSet (r := .d (.int twice)) (rOpD (x := .int ((once + (c + 1) + b / 1000003) * far)) (rCB1 (rOpD (rOpD (rOpD rfl (ix _ _ _ _ _ rfl) rfl) (rOpD (ix _ _ _ _ _ rfl) rfl (divI (by omega) (by omega))) rfl) rfl (mulR (by omega))) rfl rfl) rfl ?_) rfl rfl
      rw [modI (by omega), e3]
    · refine rOpD (x := .int last) (y := .int m) (rCB1 (rOpD (x := .int ((twice * 48271 + once) % 2147483587)) (rOpD (x := .int (twice * 48271 + once)) (rCB1 (rOpD (rOpD rfl rfl (mulL (by omega))) rfl rfl) rfl rfl) rfl (modI (by omega))) rfl (by rw [divI (by omega) (by omega), e4])) rfl rfl) rfl ?_
      rw [modI h1, hr3]
end G

set_option linter.all false
set_option maxRecDepth 100000
namespace G
open PySem PySem.Spec L2 Pu
theorem set_same {α : Type} : ∀ {l : List α} {j : Nat} {a : α}, l[j]? = some a → l.set j a = l
  | [], j, a, h => rfl
  | x :: l, 0, a, h => by cases h; rfl
  | x :: l, j + 1, a, h => by
    have h : l[j]? = some a := h
    show x :: l.set j a = x :: l
    rw [set_same h]
theorem set_get {α : Type} {l : List α} {j k : Nat} {a b : α} (h : l[j]? = some a) (n : k ≠ j) : (l.set k b)[j]? = some a := by
  rw [List.getElem?_set_ne n]; exact h
theorem var_arg {ρ : Rho} {i : Nat} {xs : List D} (h : ρ[i]? = some (some (.arg xs))) : sVar i ρ = some (.sl i, ρ) := by unfold sVar; rw [h]
theorem var_own {ρ : Rho} {i : Nat} {xs : List D} (h : ρ[i]? = some (some (.own xs))) : sVar i ρ = some (.sl i, ρ) := by unfold sVar; rw [h]
theorem take_at {n : Nat} {ρ : Rho} {t : List D} {e : M R} {m : Int} (h0 : ρ[0]? = some (some (.arg t))) (he : e ρ = some (.d (.int m), ρ)) (hT : T (n + 1) t) (h1 : 0 < m) (h2 : m < 1073741824) :
    ∃ (r : Nat) (ys : List D), sCall f_law_take [true, true] (aCons (sVar 0) (aCons e aNil)) ρ = some (.d (.int r), ρ.set 0 (some (.arg ys))) ∧ (r : Int) < m ∧ T n ys := by
  obtain ⟨r, ys, e1, e2, e3⟩ := take_ok hT h1 h2
  refine ⟨r, ys, rCall (rs := [.sl 0, .d (.int m)]) (rs2 := [.sl 0, .d (.int m)]) (ρ2 := ρ) (rCons (var_arg h0) (rCons he rfl)) rfl (cs := [.arg t, .d (.int m)]) ?_ (by simp [slots]) e1 rfl rfl ?_, e2, e3⟩
  · simp [csOf, cOf, h0]
  · simp [backs, h0, C.put]
inductive Lot : C → List D → Prop
  | arg {xs : List D} : Lot (.arg xs) xs
  | lst {xs : List D} : Lot (.d (.list xs)) xs
  | tup {xs : List D} : Lot (.d (.tuple xs)) xs
theorem of_ok {n : Nat} {t xs : List D} {c : C} (h : T (n + 1) t) (hc : Lot c xs) (h1 : 0 < xs.length) (h2 : xs.length < 1073741824) :
    ∃ (x : D) (ys : List D), f_law_of [.arg t, c] = some (.d x, [.arg ys, c]) ∧ x ∈ xs ∧ T n ys := by
  have hlen : sCB gLenU (aCons (sVar 1) aNil) [some (.arg t), some c] = some (.d (.int xs.length), [some (.arg t), some c]) := by
    cases hc with
    | arg => exact rCB1 rfl rfl rfl
    | lst => exact rCB1 rfl rfl rfl
    | tup => exact rCB1 rfl rfl rfl
  obtain ⟨r, ys, e1, e2, e3⟩ := take_at (ρ := [some (.arg t), some c]) (n := n) rfl hlen h (by omega) (by omega)
  obtain ⟨x, hx⟩ : ∃ x, xs[r]? = some x := ⟨xs[r]'(by omega), List.getElem?_eq_getElem (by omega)⟩
  refine ⟨x, ys, ?_, List.mem_of_getElem? hx, e3⟩
  cases hc with
  | arg => exact rFn (r := .d x) (ρ := [some (.arg ys), some (.arg xs)]) rfl (rRet (rOp (x := .list xs) (y := .int r) rfl e1 rfl rfl (by show (atI xs r).map R.d = _; rw [Pu.atI_nat hx]; rfl))) rfl rfl
  | lst => exact rFn (r := .d x) (ρ := [some (.arg ys), some (.d (.list xs))]) rfl (rRet (rOp (x := .list xs) (y := .int r) rfl e1 rfl rfl (by show (atI xs r).map R.d = _; rw [Pu.atI_nat hx]; rfl))) rfl rfl
  | tup => exact rFn (r := .d x) (ρ := [some (.arg ys), some (.d (.tuple xs))]) rfl (rRet (rOp (x := .tuple xs) (y := .int r) rfl e1 rfl rfl (by show (atI xs r).map R.d = _; rw [Pu.atI_nat hx]; rfl))) rfl rfl
/-- of(tin, lot), lot a slot's own list -/
theorem of_sl {n j : Nat} {ρ : Rho} {t xs : List D} (h0 : ρ[0]? = some (some (.arg t))) (hj : ρ[j]? = some (some (.own xs))) (hT : T (n + 1) t) (h1 : 0 < xs.length) (h2 : xs.length < 1073741824) :
    ∃ (x : D) (ys : List D), sCall f_law_of [true, true] (aCons (sVar 0) (aCons (sVar j) aNil)) ρ = some (.d x, ρ.set 0 (some (.arg ys))) ∧ x ∈ xs ∧ T n ys := by
  obtain ⟨x, ys, e1, e2, e3⟩ := of_ok hT (.arg (xs := xs)) h1 h2
  have jn : 0 ≠ j := by rintro rfl; rw [h0] at hj; cases hj
  refine ⟨x, ys, rCall (rs := [.sl 0, .sl j]) (rs2 := [.sl 0, .sl j]) (ρ2 := ρ) (rCons (var_arg h0) (rCons (var_own hj) rfl)) rfl (cs := [.arg t, .arg xs]) ?_ (by simp [slots]; exact jn) e1 rfl rfl ?_, e2, e3⟩
  · simp [csOf, cOf, h0, hj]
  · simp only [backs, h0, C.put, set_get hj jn]
    exact set_same (set_get hj jn)
/-- of(tin, [..]), a new list | data -/
theorem of_new {n : Nat} {ρ : Rho} {t xs : List D} {e : M R} {r : R} (h0 : ρ[0]? = some (some (.arg t))) (he : e ρ = some (r, ρ)) (hr : r = .own xs ∨ r = .d (.tuple xs) ∨ r = .d (.list xs)) (hT : T (n + 1) t) (h1 : 0 < xs.length) (h2 : xs.length < 1073741824) :
    ∃ (x : D) (ys : List D), sCall f_law_of [true, true] (aCons (sVar 0) (aCons e aNil)) ρ = some (.d x, ρ.set 0 (some (.arg ys))) ∧ x ∈ xs ∧ T n ys := by
  rcases hr with rfl | rfl | rfl
  · obtain ⟨x, ys, e1, e2, e3⟩ := of_ok hT (.arg (xs := xs)) h1 h2
    refine ⟨x, ys, rCall (rs := [.sl 0, .own xs]) (rs2 := [.sl 0, .own xs]) (ρ2 := ρ) (rCons (var_arg h0) (rCons he rfl)) rfl (cs := [.arg t, .arg xs]) ?_ (by simp [slots]) e1 rfl rfl ?_, e2, e3⟩
    · simp [csOf, cOf, h0]
    · simp [backs, h0, C.put]
  · obtain ⟨x, ys, e1, e2, e3⟩ := of_ok hT (.tup (xs := xs)) h1 h2
    refine ⟨x, ys, rCall (rs := [.sl 0, .d (.tuple xs)]) (rs2 := [.sl 0, .d (.tuple xs)]) (ρ2 := ρ) (rCons (var_arg h0) (rCons he rfl)) rfl (cs := [.arg t, .d (.tuple xs)]) ?_ (by simp [slots]) e1 rfl rfl ?_, e2, e3⟩
    · simp [csOf, cOf, h0]
    · simp [backs, h0, C.put]
  · obtain ⟨x, ys, e1, e2, e3⟩ := of_ok hT (.lst (xs := xs)) h1 h2
    refine ⟨x, ys, rCall (rs := [.sl 0, .d (.list xs)]) (rs2 := [.sl 0, .d (.list xs)]) (ρ2 := ρ) (rCons (var_arg h0) (rCons he rfl)) rfl (cs := [.arg t, .d (.list xs)]) ?_ (by simp [slots]) e1 rfl rfl ?_, e2, e3⟩
    · simp [csOf, cOf, h0]
    · simp [backs, h0, C.put]
end G

set_option linter.all false
set_option maxRecDepth 100000
namespace G
open PySem PySem.Spec L2 Pu
theorem rng_len (n : Nat) : (rng 0 n).length = n := by unfold rng; rw [List.length_map, List.length_range]
theorem rng_get {n k : Nat} {x : D} (h : (rng 0 n)[k]? = some x) : x = .int k ∧ k < n := by
  unfold rng at h
  rw [List.getElem?_map] at h
  cases hk : (List.range n)[k]? with
  | none => rw [hk] at h; cases h
  | some i =>
    rw [hk] at h
    have hl : k < n := by
      rcases Nat.lt_or_ge k n with z | z
      · exact z
      · rw [List.getElem?_eq_none (by rw [List.length_range]; exact z)] at hk; cases hk
    rw [List.getElem?_range hl] at hk
    cases hk
    cases h
    exact ⟨by simp, hl⟩
theorem eraseIdx_perm {α : Type} : ∀ {l : List α} {n : Nat} {x : α}, l[n]? = some x → (x :: l.eraseIdx n).Perm l
  | [], n, x, h => by cases h
  | a :: l, 0, x, h => by cases h; exact List.Perm.refl _
  | a :: l, n + 1, x, h => by
    have h : l[n]? = some x := h
    show (x :: a :: l.eraseIdx n).Perm (a :: l)
    exact (List.Perm.swap ..).trans ((eraseIdx_perm h).cons a)
theorem pick_ok {n size : Nat} {t pool : List D} (hT : T (n + size) t) (hs : size ≤ pool.length) (hp : pool.length ≤ 1000) :
    ∃ ys rest t', f_law_pick [.arg t, .arg pool, .d (.int size)] = some (.own ys, [.arg t', .arg pool, .d (.int size)]) ∧ T n t' ∧ ys.length = size ∧ (ys ++ rest).Perm pool := by
  have hmin : sCB gMin2 (aCons (sVar 2) (aCons (sCB gLenU (aCons (sVar 3) aNil)) aNil)) [some (.arg t), some (.arg pool), some (.d (.int size)), some (.own pool), some (.own []), none]
      = some (.d (.int size), [some (.arg t), some (.arg pool), some (.d (.int size)), some (.own pool), some (.own []), none]) := by
    refine rCB (rs := [.d (.int size), .d (.int pool.length)]) (xs := [.int size, .int pool.length]) (rCons rfl (rCons (rCB1 rfl rfl rfl) rfl)) rfl ?_
    show some (R.d (.int _)) = _
    congr 3
    omega
  obtain ⟨ρ', h1, h2⟩ := goFor_inv (g := gN 5) (b := zDrop (sApp 4 (sPop 3 (sCall f_law_take [true, true] (aCons (sVar 0) (aCons (sCB gLenU (aCons (sVar 3) aNil)) aNil))))))
    (fun k ρ => ∃ t' rest lot o, ρ = [some (.arg t'), some (.arg pool), some (.d (.int size)), some (.own rest), some (.own lot), o] ∧ (o = none ∨ ∃ z, o = some (C.d z)) ∧ k ≤ size ∧ T (n + (size - k)) t' ∧ lot.length = k ∧ (lot ++ rest).Perm pool)
    (rng 0 size) 0 [some (.arg t), some (.arg pool), some (.d (.int size)), some (.own pool), some (.own []), none]
    ⟨t, pool, [], none, rfl, .inl rfl, Nat.zero_le _, hT, rfl, List.Perm.refl _⟩ (fun k x hx ρ hρ => by
      obtain ⟨rfl, hk⟩ := rng_get hx
      obtain ⟨t', rest, lot, o, rfl, ho, _, hT', hlot, hperm⟩ := hρ
      rw [Nat.zero_add] at hT' hlot ⊢
      have hg : gN 5 (.int k) [some (.arg t'), some (.arg pool), some (.d (.int size)), some (.own rest), some (.own lot), o] = some [some (.arg t'), some (.arg pool), some (.d (.int size)), some (.own rest), some (.own lot), some (.d (.int k))] := by
        rcases ho with rfl | ⟨z, rfl⟩ <;> rfl
      have hlen : rest.length = pool.length - k := by
        have := hperm.length_eq
        rw [List.length_append] at this
        omega
      obtain ⟨r, ys, e1, e2, e3⟩ := take_at (n := n + (size - (k + 1))) (t := t') (ρ := [some (.arg t'), some (.arg pool), some (.d (.int size)), some (.own rest), some (.own lot), some (.d (.int k))]) (e := sCB gLenU (aCons (sVar 3) aNil)) (m := rest.length) rfl (rCB1 rfl rfl rfl) (hT'.less (by omega)) (by omega) (by omega)
      obtain ⟨x, hx⟩ : ∃ x, rest[r]? = some x := ⟨rest[r]'(by omega), List.getElem?_eq_getElem (by omega)⟩
      refine ⟨_, hg, _, rDrop (rApp (xs := lot) (y := x) rfl rfl (rFz (rPop (n := r) (xs := rest) (y := x) rfl rfl e1 rfl rfl (by omega) hx rfl) rfl) rfl rfl (Nat.lt_of_le_of_lt (show lot.length ≤ 1000 by omega) (by decide)) rfl), ?_⟩
      refine ⟨ys, rest.eraseIdx r, lot ++ [x], some (.d (.int k)), rfl, .inr ⟨_, rfl⟩, by omega, e3, by simp [hlot], ?_⟩
      rw [List.append_assoc]
      exact (List.Perm.append_left lot (eraseIdx_perm hx)).trans hperm)
  obtain ⟨t', rest, lot, o, rfl, ho, _, hT', hlot, hperm⟩ := h2
  rw [rng_len] at hT' hlot
  refine ⟨lot, rest, t', rFn (r := .sl 4) (ρ := [some (.arg t'), some (.arg pool), some (.d (.int size)), some (.own rest), some (.own lot), o]) rfl (rSeq (ρ1 := [some (.arg t), some (.arg pool), some (.d (.int size)), some (.own pool), some (.own []), none]) rfl (rSeq (rFor (xs := rng 0 size) ?_ h1) (rRet rfl))) rfl rfl, hT'.less (by omega), by omega, hperm⟩
  unfold iR1
  rw [hmin]
  simp only []
  rw [if_pos (by omega), Int.toNat_natCast]
end G

set_option linter.all false
set_option maxRecDepth 100000
namespace G
open PySem PySem.Spec L2 Pu
def nA (o : Option C) : Prop := ∀ xs, o ≠ some (.arg xs)
theorem nA_none : nA none := fun _ h => nomatch h
theorem nA_d (x : D) : nA (some (.d x)) := fun _ h => nomatch h
theorem setC_ok {i : Nat} {c : C} {ρ : Rho} {o : Option C} (h : ρ[i]? = some o) (n : nA o) : setC i c ρ = some (ρ.set i (some c)) := by
  unfold setC
  rw [h]
  split
  · rename_i xs e; cases e; exact absurd rfl (n xs)
  · rfl
  · rename_i e; cases e
theorem iR1_ok {m : M R} {ρ ρ1 : Rho} {n : Nat} (h : m ρ = some (.d (.int n), ρ1)) (hn : n ≤ 1000000) : iR1 m ρ = some (rng 0 n, ρ1) := by
  unfold iR1
  rw [h]
  simp only []
  rw [if_pos (by omega), Int.toNat_natCast]
theorem reads_ok {n m : Nat} {t ahead : List D} {o11 : Option C} (c1 c2 c4 c5 c6 c7 c8 c9 c10 c12 c13 c14 c15 c16 : Option C) (hA : nA o11) (hT : T (n + m + 1) t) (hm : 0 < m) (hm2 : m ≤ 1000) (h1 : 0 < ahead.length) (h2 : ahead.length ≤ 1000) :
    ∃ ys t', sLc [11] (iR1 (sCall f_law_take [true, true] (aCons (sVar 0) (aCons (sC (.int m)) aNil)))) (gN 11) (fun ρ => some (true, ρ)) (sCall f_law_of [true, true] (aCons (sVar 0) (aCons (sVar 3) aNil)))
        [some (.arg t), c1, c2, some (.own ahead), c4, c5, c6, c7, c8, c9, c10, o11, c12, c13, c14, c15, c16]
      = some (.own ys, [some (.arg t'), c1, c2, some (.own ahead), c4, c5, c6, c7, c8, c9, c10, none, c12, c13, c14, c15, c16]) ∧ ys.length < m ∧ (∀ y ∈ ys, y ∈ ahead) ∧ T n t' := by
  obtain ⟨r, t1, e1, e2, e3⟩ := take_at (n := n + m) (ρ := [some (.arg t), c1, c2, some (.own ahead), c4, c5, c6, c7, c8, c9, c10, o11, c12, c13, c14, c15, c16]) (e := sC (.int m)) (m := m) rfl rfl hT (by omega) (by omega)
  obtain ⟨ys, ρ', a1, ⟨t', rfl, a2, a3, a4⟩, a5⟩ := goLc_inv (vs := [11]) (g := gN 11) (t := fun ρ => some (true, ρ)) (e := sCall f_law_of [true, true] (aCons (sVar 0) (aCons (sVar 3) aNil)))
    (fun k acc ρ => ∃ t', ρ = [some (.arg t'), c1, c2, some (.own ahead), c4, c5, c6, c7, c8, c9, c10, none, c12, c13, c14, c15, c16] ∧ T (n + m - k) t' ∧ (∀ y ∈ acc, y ∈ ahead) ∧ acc.length = k)
    (rng 0 r) [] 0 [some (.arg t1), c1, c2, some (.own ahead), c4, c5, c6, c7, c8, c9, c10, none, c12, c13, c14, c15, c16] (by rw [rng_len]; exact Nat.le_trans (by simp; omega) b1000)
    ⟨t1, rfl, e3, (fun y hy => nomatch hy), rfl⟩ (fun k x hx acc ρ hρ => by
      rw [Nat.zero_add] at hρ ⊢
      obtain ⟨t', rfl, hT', hacc, hl⟩ := hρ
      have hk : k < m := by
        have := (rng_get hx).2
        omega
      obtain ⟨y, t2, q1, q2, q3⟩ := of_sl (n := n + m - (k + 1)) (j := 3) (xs := ahead) (t := t') (ρ := [some (.arg t'), c1, c2, some (.own ahead), c4, c5, c6, c7, c8, c9, c10, some (.d x), c12, c13, c14, c15, c16]) rfl rfl (hT'.less (by omega)) h1 (by omega)
      refine ⟨_, setC_ok (o := none) rfl nA_none, true, _, rfl, (fun z => nomatch z), fun _ => ⟨y, _, rFzD q1, ⟨t2, rfl, q3, fun z hz => ?_, by simp [hl]⟩⟩⟩
      rcases List.mem_append.mp hz with hz | hz
      · exact hacc z hz
      · rw [List.mem_singleton.mp hz]; exact q2)
  rw [rng_len, Nat.zero_add] at a2 a4
  rw [rng_len] at a5
  exact ⟨ys, t', rLc (ρ1 := [some (.arg t1), c1, c2, some (.own ahead), c4, c5, c6, c7, c8, c9, c10, o11, c12, c13, c14, c15, c16]) (iR1_ok e1 (by omega)) a1, by simp at a5; omega, a3, a2.less (by omega)⟩
end G

set_option linter.all false
set_option maxRecDepth 100000
namespace G
open PySem PySem.Spec L2 Pu
/-! ### names that are drawn -/
abbrev R8 : List Nat := List.range' 97 8
def sg (c : Nat) : Str := ⟨#[c]⟩
def tS (c : Nat) : Str := Str.ofString "t" ++ sg c
def uS (c : Nat) : Str := Str.ofString "u" ++ sg c
def pS (c : Nat) : Str := Str.ofString "p" ++ sg c
def okS (s : Str) : Bool := nameS s && (decide (s.length ≤ 1000) && s.cps.all (· < 0x110000))
def NM (d : D) : Prop := nameB d = true ∧ Fine 0 d
theorem nm_of {s : Str} (h : okS s = true) : NM (.str s) := by
  unfold okS at h
  simp only [Bool.and_eq_true, decide_eq_true_eq] at h
  refine ⟨h.1, ?_⟩
  simp only [Fine]
  exact h.2
theorem okT : ∀ c ∈ R8, okS (tS c) = true ∧ okS (uS c) = true ∧ okS (pS c) = true := by
  have h : R8.all (fun c => okS (tS c) && (okS (uS c) && okS (pS c))) = true := by decide +kernel
  intro c hc
  have := List.all_eq_true.mp h c hc
  simpa [Bool.and_eq_true] using this
theorem distinct8 : ∀ c ∈ R8, ∀ e ∈ R8, (tS c = tS e → c = e) ∧ (uS c = uS e → c = e) ∧ tS c ≠ uS e ∧ uS c ≠ tS e := by
  have h : R8.all (fun c => R8.all fun e => (decide (c = e) || !decide (tS c = tS e)) && ((decide (c = e) || !decide (uS c = uS e)) && (!decide (tS c = uS e) && !decide (uS c = tS e)))) = true := by decide +kernel
  intro c hc e he
  have := List.all_eq_true.mp (List.all_eq_true.mp h c hc) e he
  simp only [Bool.and_eq_true, Bool.or_eq_true, decide_eq_true_eq, Bool.not_eq_true', decide_eq_false_iff_not] at this
  obtain ⟨h1, h2, h3, h4⟩ := this
  exact ⟨fun z => h1.resolve_right fun k => k z, fun z => h2.resolve_right fun k => k z, h3, h4⟩
theorem abc8 : signs (Str.ofString "abcdefgh") = R8.map fun c => .str (sg c) := by
  have : (Str.ofString "abcdefgh").cps.toList = R8 := by decide +kernel
  unfold signs
  rw [this]
  rfl
theorem cat_ok {i j : Str} (h : i.length + j.length ≤ big) : gAddU (.str i) (.str j) = some (.d (.str (i ++ j))) := by
  have e : gCatS (.str i) (.str j) = some (.d (.str (i ++ j))) := (if_pos h : (if i.length + j.length ≤ big then some (R.d (.str (i ++ j))) else none) = _)
  simp [gAddU, orG, gI, e]
/-! ### steps that are drawn -/
def condOk (d : D) : Prop := d = .tuple [] ∨ ∃ f i, d = .tuple [.tuple [f, .int i]] ∧ NM f ∧ (i = 0 ∨ i = 1)
def StepOk (nm : Str) (s : D) : Prop := ∃ tool reads page cond, s = .tuple [.str nm, tool, .tuple reads, page, cond] ∧ NM (.str nm) ∧ NM tool ∧ (∀ r ∈ reads, NM r) ∧ reads.length ≤ 3 ∧ NM page ∧ condOk cond
theorem cond_ok {d : D} (h : condOk d) : condB d = true ∧ Fine 2 d := by
  rcases h with rfl | ⟨f, i, rfl, hf, hi⟩
  · exact ⟨rfl, by simp [Fine]⟩
  · refine ⟨?_, ?_⟩
    · have : bitB (.int i) = true := by rcases hi with rfl | rfl <;> rfl
      show ((demandB (.tuple [f, .int i]) && true) && ascB [f]) = true
      simp [demandB, hf.1, this, ascB, zp]
    · refine fine_tuple (by simp) fun x hx => ?_
      rw [List.mem_singleton.mp hx]
      refine fine_tuple (by simp) fun y hy => ?_
      simp at hy
      rcases hy with rfl | rfl
      · exact hf.2
      · simp [Fine]
theorem step_ok {nm : Str} {s : D} (h : StepOk nm s) : stepB s = true ∧ Fine 3 s ∧ ∃ r, s = .tuple (.str nm :: r) := by
  obtain ⟨tool, reads, page, cond, rfl, h1, h2, h3, h4, h5, h6⟩ := h
  have hc := cond_ok h6
  refine ⟨?_, ?_, _, rfl⟩
  · have : namesB (.tuple reads) = true := List.all_eq_true.mpr fun r hr => (h3 r hr).1
    simp [stepB, h1.1, h2.1, h5.1, this, hc.1]
  · refine fine_tuple (by simp) fun x hx => ?_
    simp at hx
    rcases hx with rfl | rfl | rfl | rfl | rfl
    · exact h1.2.up (by omega)
    · exact h2.2.up (by omega)
    · exact (fine_tuple (by omega) fun r hr => (h3 r hr).2).up (by omega)
    · exact h5.2.up (by omega)
    · exact hc.2
theorem nm_str {d : D} (h : NM d) : ∃ s, d = .str s := nameB_str h.1
theorem alikeAll_strs : ∀ {xs ys : List D}, (∀ x ∈ xs, ∃ s, x = .str s) → (∀ y ∈ ys, ∃ s, y = .str s) → PySem.W.alikeAll xs ys = true
  | [], _, _, _ => by simp [PySem.W.alikeAll]
  | x :: xs, [], _, _ => by simp [PySem.W.alikeAll]
  | x :: xs, y :: ys, hx, hy => by
    obtain ⟨s, rfl⟩ := hx x List.mem_cons_self
    obtain ⟨u, rfl⟩ := hy y List.mem_cons_self
    simp only [PySem.W.alikeAll, PySem.W.alike, Bool.true_and]
    exact alikeAll_strs (fun z hz => hx z (List.mem_cons_of_mem _ hz)) fun z hz => hy z (List.mem_cons_of_mem _ hz)
theorem cond_alike {c e : D} (hc : condOk c) (he : condOk e) : PySem.W.alike c e = true := by
  rcases hc with rfl | ⟨f, i, rfl, hf, _⟩
  · rcases he with rfl | ⟨g, j, rfl, hg, _⟩ <;> simp [PySem.W.alike, PySem.W.alikeAll]
  · rcases he with rfl | ⟨g, j, rfl, hg, _⟩
    · simp [PySem.W.alike, PySem.W.alikeAll]
    · obtain ⟨s, rfl⟩ := nm_str hf
      obtain ⟨u, rfl⟩ := nm_str hg
      simp [PySem.W.alike, PySem.W.alikeAll]
theorem step_alike {a b : Str} {s u : D} (hs : StepOk a s) (hu : StepOk b u) : PySem.W.alike s u = true := by
  obtain ⟨tool, reads, page, cond, rfl, h1, h2, h3, h4, h5, h6⟩ := hs
  obtain ⟨tool', reads', page', cond', rfl, k1, k2, k3, k4, k5, k6⟩ := hu
  obtain ⟨_, rfl⟩ := nm_str h2
  obtain ⟨_, rfl⟩ := nm_str h5
  obtain ⟨_, rfl⟩ := nm_str k2
  obtain ⟨_, rfl⟩ := nm_str k5
  simp [PySem.W.alike, PySem.W.alikeAll, alikeAll_strs (fun r hr => nm_str (h3 r hr)) fun r hr => nm_str (k3 r hr), cond_alike h6 k6]
theorem leD_tup {a b : Str} {r r' : List D} (n : a ≠ b) : leD (.tuple (.str a :: r)) (.tuple (.str b :: r')) = leS a b := by
  have ne : (Sum.inr b.cps.toList : Int ⊕ List Nat) ≠ .inr a.cps.toList := fun e => n (PySem.W.str_of_cps (Sum.inr.inj e)).symm
  have e1 : leD (.tuple (.str a :: r)) (.tuple (.str b :: r')) = !PySem.W.dataLt (.tuple (.str b :: r')) (.tuple (.str a :: r)) := rfl
  have e2 : leS a b = !PySem.W.dataLt (.str b) (.str a) := by rw [← leS_eq]; rfl
  rw [e1, e2]
  congr 1
  unfold PySem.W.dataLt
  simp only [PySem.W.keyToks, PySem.W.keyToksAll, List.cons_append, List.nil_append]
  rw [PyProof.Rows.lex_self (O := PyProof.Rows.itemOrd) (.inl 1 : Int ⊕ List Nat)]
  exact (PyProof.Rows.lex_diff (O := PyProof.Rows.itemOrd) ne).trans (PyProof.Rows.lex_diff (O := PyProof.Rows.itemOrd) ne).symm
/-- the names, one by one, each step's own -/
def Steps : List Str → List D → Prop
  | [], [] => True
  | a :: as, s :: ss => StepOk a s ∧ Steps as ss
  | _, _ => False
theorem Steps.len : ∀ {as : List Str} {ss : List D}, Steps as ss → as.length = ss.length
  | [], [], _ => rfl
  | _ :: _, _ :: _, h => congrArg (· + 1) (Steps.len h.2)
theorem Steps.app : ∀ {as : List Str} {ss : List D} {b : Str} {u : D}, Steps as ss → StepOk b u → Steps (as ++ [b]) (ss ++ [u])
  | [], [], _, _, _, h => ⟨h, trivial⟩
  | _ :: _, _ :: _, _, _, h, k => ⟨h.1, Steps.app h.2 k⟩
theorem Steps.mem : ∀ {as : List Str} {ss : List D}, Steps as ss → ∀ s ∈ ss, ∃ a ∈ as, StepOk a s
  | [], [], _, s, h => nomatch h
  | a :: as, u :: ss, h, s, hs => by
    rcases List.mem_cons.mp hs with rfl | hs
    · exact ⟨a, List.mem_cons_self, h.1⟩
    · obtain ⟨b, hb, k⟩ := Steps.mem h.2 s hs
      exact ⟨b, List.mem_cons_of_mem _ hb, k⟩
theorem Steps.fst : ∀ {as : List Str} {ss : List D}, Steps as ss → ss.map fst = as.map .str
  | [], [], _ => rfl
  | a :: as, u :: ss, h => by
    obtain ⟨r, rfl⟩ := (step_ok h.1).2.2
    show PyData.str a :: _ = _
    rw [Steps.fst h.2]
    rfl
def nmOf : D → Str
  | .tuple (.str a :: _) => a
  | _ => ⟨#[]⟩
theorem Steps.nm : ∀ {as : List Str} {ss : List D}, Steps as ss → ss.map nmOf = as
  | [], [], _ => rfl
  | a :: as, u :: ss, h => by
    obtain ⟨r, rfl⟩ := (step_ok h.1).2.2
    show a :: _ = _
    rw [Steps.nm h.2]
theorem sort_ok {as : List Str} {ss : List D} (h : Steps as ss) (n : as.Nodup) (hl : ss.length ≤ 1000) : gSorted [.list ss] = some (.own (srt ss)) ∧ planB (.tuple (srt ss)) = true ∧ Fine 4 (.tuple (srt ss)) := by
  have hm : ∀ s ∈ srt ss, ∃ a ∈ as, StepOk a s := fun s hs => h.mem s ((List.mergeSort_perm _ _).mem_iff.mp hs)
  have a1 : alikeB ss = true := List.all_eq_true.mpr fun x hx => List.all_eq_true.mpr fun y hy => by
    obtain ⟨_, _, kx⟩ := h.mem x hx
    obtain ⟨_, _, ky⟩ := h.mem y hy
    exact step_alike kx ky
  have a2 : sortB ss = true := by
    unfold sortB
    rw [Bool.or_eq_true]
    refine .inl (List.all_eq_true.mpr fun x hx => ?_)
    obtain ⟨_, _, kx⟩ := h.mem x hx
    obtain ⟨r, rfl⟩ := (step_ok kx).2.2
    rfl
  have a3 : shB ss = true := List.all_eq_true.mpr fun x hx => by
    obtain ⟨_, _, kx⟩ := h.mem x hx
    have := (step_ok kx).2.1.lay.2
    exact decide_eq_true (by omega)
  refine ⟨(if_pos ⟨a1, a2, a3, Nat.le_trans hl b1000⟩ : (if alikeB ss = true ∧ sortB ss = true ∧ shB ss = true ∧ ss.length ≤ big then some (R.own (srt ss)) else none) = _), ?_, ?_⟩
  · have hn : ((srt ss).map nmOf).Nodup := by
      refine ((List.mergeSort_perm ss leD).map nmOf).nodup_iff.mpr ?_
      rw [h.nm]
      exact n
    have hp : ((srt ss).map nmOf).Pairwise ltS := by
      have ps : (srt ss).Pairwise fun x y => leD x y = true := List.pairwise_mergeSort (fun a b c => (PySem.W.sortLe_total _ false _).trans a b c) (fun a b => (Bool.or_eq_true _ _).mpr ((PySem.W.sortLe_total _ false _).total a b)) ss
      refine List.pairwise_map.mpr ?_
      refine List.Pairwise.imp_of_mem ?_ (List.Pairwise.and ps (List.pairwise_map.mp hn))
      intro x y hx hy hxy
      obtain ⟨_, _, kx⟩ := hm x hx
      obtain ⟨_, _, ky⟩ := hm y hy
      obtain ⟨r, rfl⟩ := (step_ok kx).2.2
      obtain ⟨r', rfl⟩ := (step_ok ky).2.2
      have hne := hxy.2
      have hle := hxy.1
      simp only [nmOf] at hne ⊢
      rw [leD_tup hne] at hle
      exact le_ltS hle hne
    have hf : (srt ss).map G.fst = ((srt ss).map nmOf).map .str := by
      rw [List.map_map]
      refine List.map_congr_left fun x hx => ?_
      obtain ⟨_, _, kx⟩ := hm x hx
      obtain ⟨r, rfl⟩ := (step_ok kx).2.2
      rfl
    show ((srt ss).all stepB && ascB ((srt ss).map G.fst)) = true
    rw [hf, (asc_iff _).mpr hp, Bool.and_true]
    exact List.all_eq_true.mpr fun x hx => by
      obtain ⟨_, _, kx⟩ := hm x hx
      exact (step_ok kx).1
  · refine fine_tuple ?_ fun x hx => ?_
    · unfold srt
      rw [List.length_mergeSort]
      exact hl
    · obtain ⟨_, _, kx⟩ := hm x hx
      exact (step_ok kx).2.1
end G

set_option linter.all false
set_option maxRecDepth 100000
set_option maxHeartbeats 2000000
namespace G
open PySem PySem.Spec L2 Pu
theorem rPar {i j : Nat} {m : M (List R)} {ρ ρ1 ρ2 ρ3 : Rho} {x y : D} (h : m ρ = some ([.d x, .d y], ρ1)) (h2 : setC i (.d x) ρ1 = some ρ2) (h3 : setC j (.d y) ρ2 = some ρ3) : zPar i j m ρ = some (.nx ρ3) := by
  unfold zPar
  rw [h]
  simp only [cv, h2, h3]
  rfl
theorem ltU_int (i j : Int) : gLtU (.int i) (.int j) = some (.d (.bool (decide (i < j)))) := rfl
abbrev fl2 : List D := [.str (Str.ofString "fa"), .str (Str.ofString "fb")]
theorem fl_nm : ∀ f ∈ fl2, NM f := by
  intro f hf
  simp at hf
  rcases hf with rfl | rfl <;> exact nm_of (by decide +kernel)
abbrev tools3 : List D := [.str (Str.ofString "ma"), .str (Str.ofString "mb"), .str (Str.ofString "mc")]
abbrev tools2 : List D := [.str (Str.ofString "ma"), .str (Str.ofString "mb")]
theorem tools_nm : ∀ f ∈ tools3, NM f := by
  intro f hf
  simp at hf
  rcases hf with rfl | rfl | rfl <;> exact nm_of (by decide +kernel)
/-- what stands between two turns of law_form's loop -/
structure FI (pages letters : List Nat) (n k : Nat) (t ahead found : List D) : Prop where
  tin : T n t
  ah : ∀ a ∈ ahead, NM a
  ahl : 3 ≤ ahead.length ∧ ahead.length ≤ 3 + k
  steps : ∃ nms, Steps nms found ∧ nms.Nodup ∧ ∀ a ∈ nms, ∃ j c, j < k ∧ letters[j]? = some c ∧ (a = tS c ∨ a = uS c)
  fll : found.length ≤ 6
  fl0 : 0 < k → 0 < found.length
theorem nms_snoc {letters : List Nat} (hR : ∀ c ∈ letters, c ∈ R8) (hN : letters.Nodup) {k c : Nat} (hk : letters[k]? = some c) {nms : List Str} (h : nms.Nodup) (hj : ∀ a ∈ nms, ∃ j c, j < k ∧ letters[j]? = some c ∧ (a = tS c ∨ a = uS c)) :
    tS c ∉ nms ∧ uS c ∉ nms := by
  have hc := hR c (List.mem_of_getElem? hk)
  have key : ∀ j e, j < k → letters[j]? = some e → e ≠ c := fun j e hjk he z => by
    subst z
    have h1 : j < letters.length := by
      rcases Nat.lt_or_ge j letters.length with w | w
      · exact w
      · rw [List.getElem?_eq_none w] at he; cases he
    have h2 : k < letters.length := by
      rcases Nat.lt_or_ge k letters.length with w | w
      · exact w
      · rw [List.getElem?_eq_none w] at hk; cases hk
    rw [List.getElem?_eq_getElem h1] at he
    rw [List.getElem?_eq_getElem h2] at hk
    exact List.pairwise_iff_getElem.mp hN j k h1 h2 hjk ((Option.some.inj he).trans (Option.some.inj hk).symm)
  constructor
  · intro hm
    obtain ⟨j, e, h1, h2, h3⟩ := hj _ hm
    have he := hR e (List.mem_of_getElem? h2)
    rcases h3 with h3 | h3
    · exact key j e h1 h2 ((distinct8 c hc e he).1 h3).symm
    · exact (distinct8 c hc e he).2.2.1 h3
  · intro hm
    obtain ⟨j, e, h1, h2, h3⟩ := hj _ hm
    have he := hR e (List.mem_of_getElem? h2)
    rcases h3 with h3 | h3
    · exact (distinct8 c hc e he).2.2.2 h3
    · exact key j e h1 h2 ((distinct8 c hc e he).2.1 h3).symm
theorem nodup_snoc {α : Type} {l : List α} {a : α} (h : l.Nodup) (n : a ∉ l) : (l ++ [a]).Nodup := by
  rw [List.nodup_append]
  exact ⟨h, by simp, fun x hx y hy => by
    rw [List.mem_singleton] at hy
    subst hy
    exact fun e => n (e ▸ hx)⟩
abbrev FS (t ahead found P L : List D) (k : D) (s8 s9 s10 s11 s12 s13 s14 s15 s16 : Option C) : Rho :=
  [some (.arg t), some (.d (.int 6)), some (.d (.tuple fl2)), some (.own ahead), some (.own found), some (.own P), some (.own L), some (.d k), s8, s9, s10, s11, s12, s13, s14, s15, s16]
theorem small_big {n : Nat} (h : n ≤ 1000) : n ≤ big := Nat.le_trans h b1000
theorem small_lt {n : Nat} (h : n ≤ 1000) : n < big := Nat.lt_of_le_of_lt h (by decide)
theorem catT (c : Nat) : gAddU (.str (Str.ofString "t")) (.str (sg c)) = some (.d (.str (tS c))) := cat_ok (show 1 + 1 ≤ big by decide)
theorem catU (c : Nat) : gAddU (.str (Str.ofString "u")) (.str (sg c)) = some (.d (.str (uS c))) := cat_ok (show 1 + 1 ≤ big by decide)
theorem catP (c : Nat) : gAddU (.str (Str.ofString "p")) (.str (sg c)) = some (.d (.str (pS c))) := cat_ok (show 1 + 1 ≤ big by decide)
theorem form_turn {pages letters : List Nat} (hp : pages.length = 6) (hl : letters.length = 6) (pR : ∀ c ∈ pages, c ∈ R8) (lR : ∀ c ∈ letters, c ∈ R8) (hN : letters.Nodup) {n k : Nat} (hk : k < 6) {t ahead found : List D} (F : FI pages letters (n + 40) k t ahead found)
    (o8 o9 o10 o11 o12 o13 o14 o15 o16 : Option C) (n8 : nA o8) (n9 : nA o9) (n10 : nA o10) (n11 : nA o11) (n12 : nA o12) (n13 : nA o13) (n14 : nA o14) (n15 : nA o15) (n16 : nA o16) :
    ∃ t' ahead' found' p8 p9 p10 p11 p12 p13 p14 p15 p16, (zSeq (zPar 8 9 (aCons (sOp gAddU (sC (.str (Str.ofString "p"))) (sOp gIx (sVar 5) (sVar 7))) (aCons (sOp gIx (sVar 6) (sVar 7)) aNil)))
    (zSeq (zSet 10 (sCB gTupU (aCons (sLc [11] (iR1 (sCall f_law_take [true, true] (aCons (sVar 0) (aCons (sC (.int 4)) aNil)))) (gN 11) (fun ρ => some (true, ρ)) (sCall f_law_of [true, true] (aCons (sVar 0) (aCons (sVar 3) aNil)))) aNil)))
    (zSeq (zPar 12 13 (aCons (sCall f_law_of [true, true] (aCons (sVar 0) (aCons (sLst (aCons (sC (.str (Str.ofString "ma"))) (aCons (sC (.str (Str.ofString "mb"))) (aCons (sC (.str (Str.ofString "mc"))) aNil)))) aNil))) (aCons (sIf (sTst (sOp gNe (sVar 2) (sTup aNil))) (sCall f_law_take [true, true] (aCons (sVar 0) (aCons (sC (.int 4)) aNil))) (sC (.int 3))) aNil)))
    (zIf (sAnd (sTst (sOp gEq (sVar 13) (sC (.int 0)))) (sTst (sOp gLtU (sCB gLenU (aCons (sVar 4) aNil)) (sOp gSubI (sVar 1) (sC (.int 1)))))) (zSeq (zSet 14 (sCall f_law_of [true, true] (aCons (sVar 0) (aCons (sVar 2) aNil))))
    (zSeq (zSet 15 (sCB gTupU (aCons (sLc [11] (iR1 (sCall f_law_take [true, true] (aCons (sVar 0) (aCons (sC (.int 3)) aNil)))) (gN 11) (fun ρ => some (true, ρ)) (sCall f_law_of [true, true] (aCons (sVar 0) (aCons (sVar 3) aNil)))) aNil)))
    (zSeq (zDrop (sApp 4 (sTup (aCons (sOp gAddU (sC (.str (Str.ofString "t"))) (sVar 9)) (aCons (sVar 12) (aCons (sVar 10) (aCons (sVar 8) (aCons (sTup (aCons (sTup (aCons (sVar 14) (aCons (sC (.int 0)) aNil))) aNil)) aNil))))))))
    (zSeq (zDrop (sApp 4 (sTup (aCons (sOp gAddU (sC (.str (Str.ofString "u"))) (sVar 9)) (aCons (sCall f_law_of [true, true] (aCons (sVar 0) (aCons (sLst (aCons (sC (.str (Str.ofString "ma"))) (aCons (sC (.str (Str.ofString "mb"))) aNil))) aNil))) (aCons (sVar 15) (aCons (sVar 8) (aCons (sTup (aCons (sTup (aCons (sVar 14) (aCons (sC (.int 1)) aNil))) aNil)) aNil))))))))
    (zDrop (sApp 3 (sVar 8))))))) (zIf (sTst (sOp gLtU (sCB gLenU (aCons (sVar 4) aNil)) (sVar 1))) (zSeq (zSet 16 (sIf (sTst (sOp gEq (sVar 13) (sC (.int 1)))) (sTup (aCons (sTup (aCons (sCall f_law_of [true, true] (aCons (sVar 0) (aCons (sVar 2) aNil))) (aCons (sCall f_law_take [true, true] (aCons (sVar 0) (aCons (sC (.int 2)) aNil))) aNil))) aNil)) (sTup aNil)))
    (zSeq (zDrop (sApp 4 (sTup (aCons (sOp gAddU (sC (.str (Str.ofString "t"))) (sVar 9)) (aCons (sVar 12) (aCons (sVar 10) (aCons (sVar 8) (aCons (sVar 16) aNil))))))))
    (zDrop (sApp 3 (sVar 8))))) zNext)))))
      [some (.arg t), some (.d (.int 6)), some (.d (.tuple fl2)), some (.own ahead), some (.own found), some (.own (pages.map fun c => .str (sg c))), some (.own (letters.map fun c => .str (sg c))), some (.d (.int k)), o8, o9, o10, o11, o12, o13, o14, o15, o16]
      = some (.nx [some (.arg t'), some (.d (.int 6)), some (.d (.tuple fl2)), some (.own ahead'), some (.own found'), some (.own (pages.map fun c => .str (sg c))), some (.own (letters.map fun c => .str (sg c))), some (.d (.int k)), p8, p9, p10, p11, p12, p13, p14, p15, p16])
      ∧ FI pages letters n (k + 1) t' ahead' found' ∧ (nA p8 ∧ nA p9 ∧ nA p10 ∧ nA p11 ∧ nA p12 ∧ nA p13 ∧ nA p14 ∧ nA p15 ∧ nA p16) := by
  obtain ⟨cp, hcp⟩ : ∃ c, pages[k]? = some c := ⟨pages[k]'(by omega), List.getElem?_eq_getElem (by omega)⟩
  obtain ⟨cl, hcl⟩ : ∃ c, letters[k]? = some c := ⟨letters[k]'(by omega), List.getElem?_eq_getElem (by omega)⟩
  have hpc := pR cp (List.mem_of_getElem? hcp)
  have hlc := lR cl (List.mem_of_getElem? hcl)
  have hpg : NM (.str (pS cp)) := nm_of (okT cp hpc).2.2
  have gp : gIx (.list (pages.map fun c => .str (sg c))) (.int k) = some (.d (.str (sg cp))) := by
    show (atI _ _).map R.d = _
    rw [Pu.atI_nat (x := .str (sg cp)) (by rw [List.getElem?_map, hcp]; rfl)]
    rfl
  have gl : gIx (.list (letters.map fun c => .str (sg c))) (.int k) = some (.d (.str (sg cl))) := by
    show (atI _ _).map R.d = _
    rw [Pu.atI_nat (x := .str (sg cl)) (by rw [List.getElem?_map, hcl]; rfl)]
    rfl
  have hal : 0 < ahead.length ∧ ahead.length ≤ 1000 := ⟨by have := F.ahl.1; omega, by have := F.ahl.2; omega⟩
  -- the reads
  obtain ⟨reads, t1, q1, q2, q3, q4⟩ := reads_ok (n := n + 35) (m := 4) (t := t) (ahead := ahead) (o11 := o11) (some (.d (.int 6))) (some (.d (.tuple fl2))) (some (.own found)) (some (.own (pages.map fun c => .str (sg c)))) (some (.own (letters.map fun c => .str (sg c)))) (some (.d (.int k))) (some (.d (.str (pS cp)))) (some (.d (.str (sg cl)))) o10 o12 o13 o14 o15 o16 n11 F.tin (by omega) (by omega) hal.1 hal.2
  have rNM : ∀ r ∈ reads, NM r := fun r hr => F.ah r (q3 r hr)
  -- the tool, the sort
  obtain ⟨tool, t2, w1, w2, w3⟩ := of_new (n := n + 34) (ρ := [some (.arg t1), some (.d (.int 6)), some (.d (.tuple fl2)), some (.own ahead), some (.own found), some (.own (pages.map fun c => .str (sg c))), some (.own (letters.map fun c => .str (sg c))), some (.d (.int k)), some (.d (.str (pS cp))), some (.d (.str (sg cl))), some (.d (.tuple reads)), none, o12, o13, o14, o15, o16]) (t := t1) (xs := tools3) (e := sLst (aCons (sC (.str (Str.ofString "ma"))) (aCons (sC (.str (Str.ofString "mb"))) (aCons (sC (.str (Str.ofString "mc"))) aNil)))) rfl rfl (.inl rfl) (q4.less (by omega)) (by decide) (by decide)
  have hfne : sTst (sOp gNe (sVar 2) (sTup aNil)) [some (.arg t2), some (.d (.int 6)), some (.d (.tuple fl2)), some (.own ahead), some (.own found), some (.own (pages.map fun c => .str (sg c))), some (.own (letters.map fun c => .str (sg c))), some (.d (.int k)), some (.d (.str (pS cp))), some (.d (.str (sg cl))), some (.d (.tuple reads)), none, o12, o13, o14, o15, o16]
      = some (true, [some (.arg t2), some (.d (.int 6)), some (.d (.tuple fl2)), some (.own ahead), some (.own found), some (.own (pages.map fun c => .str (sg c))), some (.own (letters.map fun c => .str (sg c))), some (.d (.int k)), some (.d (.str (pS cp))), some (.d (.str (sg cl))), some (.d (.tuple reads)), none, o12, o13, o14, o15, o16]) :=
    rTst (rOpD (x := .tuple fl2) (y := .tuple []) rfl rfl (gNe_of ((fine_tuple (k := 0) (by decide) fun x hx => (fl_nm x hx).2).shaped (by decide)) rfl))
  obtain ⟨sort, t3, v1, v2, v3⟩ := take_at (n := n + 33) (ρ := [some (.arg t2), some (.d (.int 6)), some (.d (.tuple fl2)), some (.own ahead), some (.own found), some (.own (pages.map fun c => .str (sg c))), some (.own (letters.map fun c => .str (sg c))), some (.d (.int k)), some (.d (.str (pS cp))), some (.d (.str (sg cl))), some (.d (.tuple reads)), none, o12, o13, o14, o15, o16]) (t := t2) (e := sC (.int 4)) (m := 4) rfl rfl (w3.less (by omega)) (by decide) (by decide)
  have hsort : (sort : Int) < 4 := v2
  have tNM : NM tool := tools_nm tool w2
  have pre : ∀ {o : Option Res} (r : MS), r (FS t3 ahead found (pages.map fun c => .str (sg c)) (letters.map fun c => .str (sg c)) (.int k) (some (.d (.str (pS cp)))) (some (.d (.str (sg cl)))) (some (.d (.tuple reads))) none (some (.d tool)) (some (.d (.int sort))) o14 o15 o16) = o →
      zSeq (zPar 8 9 (aCons (sOp gAddU (sC (.str (Str.ofString "p"))) (sOp gIx (sVar 5) (sVar 7))) (aCons (sOp gIx (sVar 6) (sVar 7)) aNil)))
        (zSeq (zSet 10 (sCB gTupU (aCons (sLc [11] (iR1 (sCall f_law_take [true, true] (aCons (sVar 0) (aCons (sC (.int 4)) aNil)))) (gN 11) (fun ρ => some (true, ρ)) (sCall f_law_of [true, true] (aCons (sVar 0) (aCons (sVar 3) aNil)))) aNil)))
        (zSeq (zPar 12 13 (aCons (sCall f_law_of [true, true] (aCons (sVar 0) (aCons (sLst (aCons (sC (.str (Str.ofString "ma"))) (aCons (sC (.str (Str.ofString "mb"))) (aCons (sC (.str (Str.ofString "mc"))) aNil)))) aNil))) (aCons (sIf (sTst (sOp gNe (sVar 2) (sTup aNil))) (sCall f_law_take [true, true] (aCons (sVar 0) (aCons (sC (.int 4)) aNil))) (sC (.int 3))) aNil))) r))
      (FS t ahead found (pages.map fun c => .str (sg c)) (letters.map fun c => .str (sg c)) (.int k) o8 o9 o10 o11 o12 o13 o14 o15 o16) = o := fun r hr =>
    rSeq (rPar (x := .str (pS cp)) (y := .str (sg cl)) (rCons (rOpD (y := .str (sg cp)) rfl (rOp (x := .list (pages.map fun c => .str (sg c))) (y := .int k) rfl rfl rfl rfl gp) (catP cp)) (rCons (rOp (x := .list (letters.map fun c => .str (sg c))) (y := .int k) rfl rfl rfl rfl gl) rfl)) (setC_ok rfl n8) (setC_ok rfl n9))
      (rSeq (rSet (rCB1 q1 rfl rfl) rfl (setC_ok rfl n10)) (rSeq (rPar (x := tool) (y := .int sort) (rCons w1 (rCons (rIfE hfne (fun _ => v1) fun z => nomatch z) rfl)) (setC_ok rfl n12) (setC_ok rfl n13)) hr))
  refine (fun {X : Prop} (h : X) => h) ?_
  obtain ⟨nms, s1, s2, s3⟩ := F.steps
  have fresh := nms_snoc lR hN hcl s2 s3
  have c1 : sTst (sOp gEq (sVar 13) (sC (.int 0))) (FS t3 ahead found (pages.map fun c => .str (sg c)) (letters.map fun c => .str (sg c)) (.int k) (some (.d (.str (pS cp)))) (some (.d (.str (sg cl)))) (some (.d (.tuple reads))) none (some (.d tool)) (some (.d (.int sort))) o14 o15 o16)
      = some ((sort : Int) == 0, FS t3 ahead found (pages.map fun c => .str (sg c)) (letters.map fun c => .str (sg c)) (.int k) (some (.d (.str (pS cp)))) (some (.d (.str (sg cl)))) (some (.d (.tuple reads))) none (some (.d tool)) (some (.d (.int sort))) o14 o15 o16) := rTst (rOpD rfl rfl (gEq_int _ _))
  have c2 : sTst (sOp gLtU (sCB gLenU (aCons (sVar 4) aNil)) (sOp gSubI (sVar 1) (sC (.int 1)))) (FS t3 ahead found (pages.map fun c => .str (sg c)) (letters.map fun c => .str (sg c)) (.int k) (some (.d (.str (pS cp)))) (some (.d (.str (sg cl)))) (some (.d (.tuple reads))) none (some (.d tool)) (some (.d (.int sort))) o14 o15 o16)
      = some (decide ((found.length : Int) < 5), FS t3 ahead found (pages.map fun c => .str (sg c)) (letters.map fun c => .str (sg c)) (.int k) (some (.d (.str (pS cp)))) (some (.d (.str (sg cl)))) (some (.d (.tuple reads))) none (some (.d tool)) (some (.d (.int sort))) o14 o15 o16) := rTst (rOpD (rCB1 rfl rfl rfl) (rOpD rfl rfl rfl) (ltU_int _ _))
  have c12 := rAnd c1 (fun _ => c2)
  have stT : ∀ {cond : D}, condOk cond → StepOk (tS cl) (.tuple [.str (tS cl), tool, .tuple reads, .str (pS cp), cond]) := fun hc =>
    ⟨tool, reads, .str (pS cp), _, rfl, nm_of (okT cl hlc).1, tNM, rNM, by omega, hpg, hc⟩
  have up : ∀ a ∈ nms, ∃ j c, j < k + 1 ∧ letters[j]? = some c ∧ (a = tS c ∨ a = uS c) := fun a ha => by
    obtain ⟨j, c, h1, h2, h3⟩ := s3 a ha
    exact ⟨j, c, by omega, h2, h3⟩
  cases hb : ((sort : Int) == 0 && decide ((found.length : Int) < 5)) with
  | true =>
    rw [hb] at c12
    have hfl : found.length < 5 := by
      simp only [Bool.and_eq_true, decide_eq_true_eq] at hb
      omega
    obtain ⟨flag, t4, x1, x2, x3⟩ := of_new (n := n + 32) (ρ := FS t3 ahead found (pages.map fun c => .str (sg c)) (letters.map fun c => .str (sg c)) (.int k) (some (.d (.str (pS cp)))) (some (.d (.str (sg cl)))) (some (.d (.tuple reads))) none (some (.d tool)) (some (.d (.int sort))) o14 o15 o16) (t := t3) (xs := fl2) (e := sVar 2) rfl rfl (.inr (.inl rfl)) (v3.less (by omega)) (by decide) (by decide)
    have fNM : NM flag := fl_nm flag x2
    obtain ⟨reads2, t5, y1, y2, y3, y4⟩ := reads_ok (n := n + 28) (m := 3) (t := t4) (ahead := ahead) (o11 := none) (some (.d (.int 6))) (some (.d (.tuple fl2))) (some (.own found)) (some (.own (pages.map fun c => .str (sg c)))) (some (.own (letters.map fun c => .str (sg c)))) (some (.d (.int k))) (some (.d (.str (pS cp)))) (some (.d (.str (sg cl)))) (some (.d (.tuple reads))) (some (.d tool)) (some (.d (.int sort))) (some (.d flag)) o15 o16 nA_none (x3.less (by omega)) (by omega) (by omega) hal.1 hal.2
    obtain ⟨tool2, t6, z1, z2, z3⟩ := of_new (n := n + 27) (ρ := FS t5 ahead (found ++ [.tuple [.str (tS cl), tool, .tuple reads, .str (pS cp), .tuple [.tuple [flag, .int 0]]]]) (pages.map fun c => .str (sg c)) (letters.map fun c => .str (sg c)) (.int k) (some (.d (.str (pS cp)))) (some (.d (.str (sg cl)))) (some (.d (.tuple reads))) none (some (.d tool)) (some (.d (.int sort))) (some (.d flag)) (some (.d (.tuple reads2))) o16) (t := t5) (xs := tools2) (e := sLst (aCons (sC (.str (Str.ofString "ma"))) (aCons (sC (.str (Str.ofString "mb"))) aNil))) rfl rfl (.inl rfl) (y4.less (by omega)) (by decide) (by decide)
    have t2NM : NM tool2 := tools_nm tool2 (by simp at z2 ⊢; rcases z2 with rfl | rfl <;> simp)
    refine ⟨t6, ahead ++ [.str (pS cp)], found ++ [.tuple [.str (tS cl), tool, .tuple reads, .str (pS cp), .tuple [.tuple [flag, .int 0]]]] ++ [.tuple [.str (uS cl), tool2, .tuple reads2, .str (pS cp), .tuple [.tuple [flag, .int 1]]]], _, _, _, _, _, _, _, _, _, pre _ (rIfT c12
      (rSeq (rSet x1 rfl (setC_ok rfl n14)) (rSeq (rSet (rCB1 y1 rfl rfl) rfl (setC_ok rfl n15))
      (rSeq (rDrop (rApp (xs := found) (y := .tuple [.str (tS cl), tool, .tuple reads, .str (pS cp), .tuple [.tuple [flag, .int 0]]]) rfl rfl
        (rFzD (rTup (xs := [.str (tS cl), tool, .tuple reads, .str (pS cp), .tuple [.tuple [flag, .int 0]]]) (rCons (rOpD rfl rfl (catT cl)) (rCons rfl (rCons rfl (rCons rfl (rCons (rTup (xs := [.tuple [flag, .int 0]]) (rCons (rTup (xs := [flag, .int 0]) (rCons rfl (rCons rfl rfl)) rfl (show 2 ≤ big by decide)) rfl) rfl (show 1 ≤ big by decide)) rfl))))) rfl (show 5 ≤ big by decide))) rfl rfl (small_lt (by omega)) rfl))
      (rSeq (rDrop (rApp (xs := found ++ [.tuple [.str (tS cl), tool, .tuple reads, .str (pS cp), .tuple [.tuple [flag, .int 0]]]]) (y := .tuple [.str (uS cl), tool2, .tuple reads2, .str (pS cp), .tuple [.tuple [flag, .int 1]]]) rfl rfl
        (rFzD (rTup (xs := [.str (uS cl), tool2, .tuple reads2, .str (pS cp), .tuple [.tuple [flag, .int 1]]]) (rCons (rOpD rfl rfl (catU cl)) (rCons z1 (rCons rfl (rCons rfl (rCons (rTup (xs := [.tuple [flag, .int 1]]) (rCons (rTup (xs := [flag, .int 1]) (rCons rfl (rCons rfl rfl)) rfl (show 2 ≤ big by decide)) rfl) rfl (show 1 ≤ big by decide)) rfl))))) rfl (show 5 ≤ big by decide))) rfl rfl (small_lt (by rw [List.length_append]; simp; omega)) rfl))
      (rDrop (rApp (xs := ahead) (y := .str (pS cp)) rfl rfl (rFzD rfl) rfl rfl (small_lt hal.2) rfl))))))), ?_, ⟨nA_d _, nA_d _, nA_d _, nA_none, nA_d _, nA_d _, nA_d _, nA_d _, n16⟩⟩
    have u1 : StepOk (uS cl) (.tuple [.str (uS cl), tool2, .tuple reads2, .str (pS cp), .tuple [.tuple [flag, .int 1]]]) := ⟨tool2, reads2, .str (pS cp), _, rfl, nm_of (okT cl hlc).2.1, t2NM, fun r hr => F.ah r (y3 r hr), by omega, hpg, .inr ⟨flag, 1, rfl, fNM, .inr rfl⟩⟩
    refine ⟨z3.less (by omega), fun a ha => ?_, ?_, ⟨nms ++ [tS cl] ++ [uS cl], (s1.app (stT (.inr ⟨flag, 0, rfl, fNM, .inl rfl⟩))).app u1, nodup_snoc (nodup_snoc s2 fresh.1) ?_, fun a ha => ?_⟩, ?_, fun _ => ?_⟩
    · rcases List.mem_append.mp ha with ha | ha
      · exact F.ah a ha
      · rw [List.mem_singleton.mp ha]; exact hpg
    · have := F.ahl
      rw [List.length_append]
      simp
      omega
    · intro hm
      rcases List.mem_append.mp hm with hm | hm
      · exact fresh.2 hm
      · exact (distinct8 cl hlc cl hlc).2.2.2 (List.mem_singleton.mp hm)
    · rcases List.mem_append.mp ha with ha | ha
      · rcases List.mem_append.mp ha with ha | ha
        · exact up a ha
        · exact ⟨k, cl, by omega, hcl, .inl (List.mem_singleton.mp ha)⟩
      · exact ⟨k, cl, by omega, hcl, .inr (List.mem_singleton.mp ha)⟩
    · simp; omega
    · simp
  | false =>
    rw [hb] at c12
    have c3 : sTst (sOp gLtU (sCB gLenU (aCons (sVar 4) aNil)) (sVar 1)) (FS t3 ahead found (pages.map fun c => .str (sg c)) (letters.map fun c => .str (sg c)) (.int k) (some (.d (.str (pS cp)))) (some (.d (.str (sg cl)))) (some (.d (.tuple reads))) none (some (.d tool)) (some (.d (.int sort))) o14 o15 o16)
      = some (decide ((found.length : Int) < 6), FS t3 ahead found (pages.map fun c => .str (sg c)) (letters.map fun c => .str (sg c)) (.int k) (some (.d (.str (pS cp)))) (some (.d (.str (sg cl)))) (some (.d (.tuple reads))) none (some (.d tool)) (some (.d (.int sort))) o14 o15 o16) := rTst (rOpD (rCB1 rfl rfl rfl) rfl (ltU_int _ _))
    by_cases h6 : found.length < 6
    · rw [decide_eq_true (by omega : (found.length : Int) < 6)] at c3
      have c4 : sTst (sOp gEq (sVar 13) (sC (.int 1))) (FS t3 ahead found (pages.map fun c => .str (sg c)) (letters.map fun c => .str (sg c)) (.int k) (some (.d (.str (pS cp)))) (some (.d (.str (sg cl)))) (some (.d (.tuple reads))) none (some (.d tool)) (some (.d (.int sort))) o14 o15 o16)
        = some ((sort : Int) == 1, FS t3 ahead found (pages.map fun c => .str (sg c)) (letters.map fun c => .str (sg c)) (.int k) (some (.d (.str (pS cp)))) (some (.d (.str (sg cl)))) (some (.d (.tuple reads))) none (some (.d tool)) (some (.d (.int sort))) o14 o15 o16) := rTst (rOpD rfl rfl (gEq_int _ _))
      obtain ⟨cond, t4, hcond, e4, hT4⟩ : ∃ cond t4, condOk cond ∧ sIf (sTst (sOp gEq (sVar 13) (sC (.int 1)))) (sTup (aCons (sTup (aCons (sCall f_law_of [true, true] (aCons (sVar 0) (aCons (sVar 2) aNil))) (aCons (sCall f_law_take [true, true] (aCons (sVar 0) (aCons (sC (.int 2)) aNil))) aNil))) aNil)) (sTup aNil)
          (FS t3 ahead found (pages.map fun c => .str (sg c)) (letters.map fun c => .str (sg c)) (.int k) (some (.d (.str (pS cp)))) (some (.d (.str (sg cl)))) (some (.d (.tuple reads))) none (some (.d tool)) (some (.d (.int sort))) o14 o15 o16)
          = some (.d cond, FS t4 ahead found (pages.map fun c => .str (sg c)) (letters.map fun c => .str (sg c)) (.int k) (some (.d (.str (pS cp)))) (some (.d (.str (sg cl)))) (some (.d (.tuple reads))) none (some (.d tool)) (some (.d (.int sort))) o14 o15 o16) ∧ T n t4 := by
        cases h1 : ((sort : Int) == 1) with
        | true =>
          rw [h1] at c4
          obtain ⟨flag, t4, x1, x2, x3⟩ := of_new (n := n + 32) (ρ := FS t3 ahead found (pages.map fun c => .str (sg c)) (letters.map fun c => .str (sg c)) (.int k) (some (.d (.str (pS cp)))) (some (.d (.str (sg cl)))) (some (.d (.tuple reads))) none (some (.d tool)) (some (.d (.int sort))) o14 o15 o16) (t := t3) (xs := fl2) (e := sVar 2) rfl rfl (.inr (.inl rfl)) (v3.less (by omega)) (by decide) (by decide)
          obtain ⟨b, t5, y1, y2, y3⟩ := take_at (n := n + 31) (ρ := FS t4 ahead found (pages.map fun c => .str (sg c)) (letters.map fun c => .str (sg c)) (.int k) (some (.d (.str (pS cp)))) (some (.d (.str (sg cl)))) (some (.d (.tuple reads))) none (some (.d tool)) (some (.d (.int sort))) o14 o15 o16) (t := t4) (e := sC (.int 2)) (m := 2) rfl rfl (x3.less (by omega)) (by decide) (by decide)
          exact ⟨.tuple [.tuple [flag, .int b]], t5, .inr ⟨flag, b, rfl, fl_nm flag x2, by omega⟩, rIfE c4 (fun _ => rTup (xs := [.tuple [flag, .int b]]) (rCons (rTup (xs := [flag, .int b]) (rCons x1 (rCons y1 rfl)) rfl (show 2 ≤ big by decide)) rfl) rfl (show 1 ≤ big by decide)) (fun z => nomatch z), y3.less (by omega)⟩
        | false =>
          rw [h1] at c4
          exact ⟨.tuple [], t3, .inl rfl, rIfE c4 (fun z => nomatch z) (fun _ => rTup rfl rfl (show 0 ≤ big by decide)), v3.less (by omega)⟩
      refine ⟨t4, ahead ++ [.str (pS cp)], found ++ [.tuple [.str (tS cl), tool, .tuple reads, .str (pS cp), cond]], _, _, _, _, _, _, _, _, _, pre _ (rIfF c12 (rIfT c3
        (rSeq (rSet e4 rfl (setC_ok rfl n16))
        (rSeq (rDrop (rApp (xs := found) (y := .tuple [.str (tS cl), tool, .tuple reads, .str (pS cp), cond]) rfl rfl
          (rFzD (rTup (xs := [.str (tS cl), tool, .tuple reads, .str (pS cp), cond]) (rCons (rOpD rfl rfl (catT cl)) (rCons rfl (rCons rfl (rCons rfl (rCons rfl rfl))))) rfl (show 5 ≤ big by decide))) rfl rfl (small_lt (by omega)) rfl))
        (rDrop (rApp (xs := ahead) (y := .str (pS cp)) rfl rfl (rFzD rfl) rfl rfl (small_lt hal.2) rfl)))))), ?_, ⟨nA_d _, nA_d _, nA_d _, nA_none, nA_d _, nA_d _, n14, n15, nA_d _⟩⟩
      refine ⟨hT4, fun a ha => ?_, ?_, ⟨nms ++ [tS cl], s1.app (stT hcond), nodup_snoc s2 fresh.1, fun a ha => ?_⟩, ?_, fun _ => ?_⟩
      · rcases List.mem_append.mp ha with ha | ha
        · exact F.ah a ha
        · rw [List.mem_singleton.mp ha]; exact hpg
      · have := F.ahl
        rw [List.length_append]
        simp
        omega
      · rcases List.mem_append.mp ha with ha | ha
        · exact up a ha
        · exact ⟨k, cl, by omega, hcl, .inl (List.mem_singleton.mp ha)⟩
      · simp; omega
      · simp
    · rw [decide_eq_false (by omega : ¬ (found.length : Int) < 6)] at c3
      exact ⟨t3, ahead, found, _, _, _, _, _, _, _, _, _, pre _ (rIfF c12 (rIfF c3 rfl)), ⟨v3.less (by omega), F.ah, by have := F.ahl; omega, ⟨nms, s1, s2, up⟩, F.fll, fun _ => by omega⟩, ⟨nA_d _, nA_d _, nA_d _, nA_none, nA_d _, nA_d _, n14, n15, n16⟩⟩
end G

set_option linter.all false
set_option maxRecDepth 100000
set_option maxHeartbeats 2000000
namespace G
open PySem PySem.Spec L2 Pu
theorem rPar2 {i j : Nat} {m : M (List R)} {ρ ρ1 ρ2 ρ3 : Rho} {x y : List D} (h : m ρ = some ([.own x, .own y], ρ1)) (h2 : setC i (.own x) ρ1 = some ρ2) (h3 : setC j (.own y) ρ2 = some ρ3) : zPar i j m ρ = some (.nx ρ3) := by
  unfold zPar
  rw [h]
  simp only [cv, h2, h3]
  rfl
theorem picked {ys rest : List D} (h : (ys ++ rest).Perm (R8.map fun c => .str (sg c))) : ∃ cs : List Nat, ys = cs.map (fun c => .str (sg c)) ∧ (∀ c ∈ cs, c ∈ R8) ∧ cs.Nodup := by
  have hm : ∀ y ∈ ys, ∃ c ∈ R8, y = .str (sg c) := fun y hy => by
    obtain ⟨c, hc, rfl⟩ := List.mem_map.mp (h.mem_iff.mp (List.mem_append_left _ hy))
    exact ⟨c, hc, rfl⟩
  have hn : ys.Nodup := by
    have : (R8.map fun c => PyData.str (sg c)).Nodup := by
      refine List.pairwise_map.mpr (List.Pairwise.imp ?_ (List.nodup_range' (s := 97) (n := 8)))
      intro a b n e
      injection e with e
      unfold sg at e
      injection e with e
      simp at e
      exact n e
    exact (List.nodup_append.mp (h.nodup_iff.mpr this)).1
  clear h
  induction ys with
  | nil => exact ⟨[], rfl, (fun c hc => nomatch hc), List.nodup_nil⟩
  | cons y ys ih =>
    obtain ⟨cs, rfl, h1, h2⟩ := ih (fun z hz => hm z (List.mem_cons_of_mem _ hz)) (List.nodup_cons.mp hn).2
    obtain ⟨c, hc, rfl⟩ := hm _ List.mem_cons_self
    refine ⟨c :: cs, rfl, fun e he => ?_, List.nodup_cons.mpr ⟨fun hcs => (List.nodup_cons.mp hn).1 (List.mem_map_of_mem hcs), h2⟩⟩
    rcases List.mem_cons.mp he with rfl | he
    · exact hc
    · exact h1 e he
theorem pick_at {n : Nat} {t : List D} {ρ : Rho} (h0 : ρ[0]? = some (some (.arg t))) (h1 : ρ[1]? = some (some (.d (.int 6)))) (hT : T (n + 6) t) :
    ∃ (cs : List Nat) (t' : List D), sCall f_law_pick [true, true, false] (aCons (sVar 0) (aCons (sCB gListU (aCons (sC (.str (Str.ofString "abcdefgh"))) aNil)) (aCons (sVar 1) aNil))) ρ = some (.own (cs.map fun c => .str (sg c)), ρ.set 0 (some (.arg t'))) ∧ T n t' ∧ cs.length = 6 ∧ (∀ c ∈ cs, c ∈ R8) ∧ cs.Nodup := by
  obtain ⟨ys, rest, t', e1, e2, e3, e4⟩ := pick_ok (n := n) (size := 6) (t := t) (pool := R8.map fun c => .str (sg c)) hT (by decide) (by decide)
  obtain ⟨cs, rfl, k1, k2⟩ := picked e4
  refine ⟨cs, t', rCall (rs := [.sl 0, .own (R8.map fun c => .str (sg c)), .d (.int 6)]) (rs2 := [.sl 0, .own (R8.map fun c => .str (sg c)), .d (.int 6)]) (ρ2 := ρ) (rCons (var_arg h0) (rCons (rCB1 rfl rfl (?_ : gListU [.str (Str.ofString "abcdefgh")] = some (R.own (R8.map fun c => .str (sg c))))) (rCons (rVar h1) rfl))) rfl (cs := [.arg t, .arg (R8.map fun c => .str (sg c)), .d (.int 6)]) ?_ (by simp [slots]) e1 rfl rfl ?_, e2, by rw [List.length_map] at e3; exact e3, k1, k2⟩
  · show (if (Str.ofString "abcdefgh").length ≤ big then some (R.own (signs (Str.ofString "abcdefgh"))) else none) = _
    rw [if_pos (by decide +kernel), abc8]
  · simp [csOf, cOf, h0]
  · simp [backs, h0, C.put]
theorem form_ok {n : Nat} {t : List D} (hT : T (n + 300) t) : ∃ ss t', f_law_form [.arg t, .d (.int 6), .d (.tuple fl2)] = some (.d (.tuple ss), [.arg t', .d (.int 6), .d (.tuple fl2)]) ∧ T n t' ∧ planB (.tuple ss) = true ∧ Fine 4 (.tuple ss) ∧ 0 < ss.length ∧ ss.length ≤ 6 ∧ ∀ s ∈ ss, ∃ nm, StepOk nm s := by
  obtain ⟨P, t1, p1, p2, p3, p4, _⟩ := pick_at (n := n + 290) (ρ := [some (.arg t), some (.d (.int 6)), some (.d (.tuple fl2)), some (.own [.str (Str.ofString "sa"), .str (Str.ofString "sb"), .str (Str.ofString "sc")]), some (.own []), none, none, none, none, none, none, none, none, none, none, none, none]) rfl rfl (hT.less (by omega))
  obtain ⟨L, t2, l1, l2, l3, l4, l5⟩ := pick_at (n := n + 284) (ρ := [some (.arg t1), some (.d (.int 6)), some (.d (.tuple fl2)), some (.own [.str (Str.ofString "sa"), .str (Str.ofString "sb"), .str (Str.ofString "sc")]), some (.own []), none, none, none, none, none, none, none, none, none, none, none, none]) rfl rfl (p2.less (by omega))
  obtain ⟨r, t3, r1, r2, r3⟩ := take_at (n := n + 280) (m := 6) (e := sVar 1) (ρ := [some (.arg t2), some (.d (.int 6)), some (.d (.tuple fl2)), some (.own [.str (Str.ofString "sa"), .str (Str.ofString "sb"), .str (Str.ofString "sc")]), some (.own []), some (.own (P.map fun c => .str (sg c))), some (.own (L.map fun c => .str (sg c))), none, none, none, none, none, none, none, none, none, none]) rfl rfl (l2.less (by omega)) (by decide) (by decide)
  obtain ⟨ρ', f1, f2⟩ := goFor_inv (g := gN 7) (b := (zSeq (zPar 8 9 (aCons (sOp gAddU (sC (.str (Str.ofString "p"))) (sOp gIx (sVar 5) (sVar 7))) (aCons (sOp gIx (sVar 6) (sVar 7)) aNil)))
    (zSeq (zSet 10 (sCB gTupU (aCons (sLc [11] (iR1 (sCall f_law_take [true, true] (aCons (sVar 0) (aCons (sC (.int 4)) aNil)))) (gN 11) (fun ρ => some (true, ρ)) (sCall f_law_of [true, true] (aCons (sVar 0) (aCons (sVar 3) aNil)))) aNil)))
    (zSeq (zPar 12 13 (aCons (sCall f_law_of [true, true] (aCons (sVar 0) (aCons (sLst (aCons (sC (.str (Str.ofString "ma"))) (aCons (sC (.str (Str.ofString "mb"))) (aCons (sC (.str (Str.ofString "mc"))) aNil)))) aNil))) (aCons (sIf (sTst (sOp gNe (sVar 2) (sTup aNil))) (sCall f_law_take [true, true] (aCons (sVar 0) (aCons (sC (.int 4)) aNil))) (sC (.int 3))) aNil)))
    (zIf (sAnd (sTst (sOp gEq (sVar 13) (sC (.int 0)))) (sTst (sOp gLtU (sCB gLenU (aCons (sVar 4) aNil)) (sOp gSubI (sVar 1) (sC (.int 1)))))) (zSeq (zSet 14 (sCall f_law_of [true, true] (aCons (sVar 0) (aCons (sVar 2) aNil))))
    (zSeq (zSet 15 (sCB gTupU (aCons (sLc [11] (iR1 (sCall f_law_take [true, true] (aCons (sVar 0) (aCons (sC (.int 3)) aNil)))) (gN 11) (fun ρ => some (true, ρ)) (sCall f_law_of [true, true] (aCons (sVar 0) (aCons (sVar 3) aNil)))) aNil)))
    (zSeq (zDrop (sApp 4 (sTup (aCons (sOp gAddU (sC (.str (Str.ofString "t"))) (sVar 9)) (aCons (sVar 12) (aCons (sVar 10) (aCons (sVar 8) (aCons (sTup (aCons (sTup (aCons (sVar 14) (aCons (sC (.int 0)) aNil))) aNil)) aNil))))))))
    (zSeq (zDrop (sApp 4 (sTup (aCons (sOp gAddU (sC (.str (Str.ofString "u"))) (sVar 9)) (aCons (sCall f_law_of [true, true] (aCons (sVar 0) (aCons (sLst (aCons (sC (.str (Str.ofString "ma"))) (aCons (sC (.str (Str.ofString "mb"))) aNil))) aNil))) (aCons (sVar 15) (aCons (sVar 8) (aCons (sTup (aCons (sTup (aCons (sVar 14) (aCons (sC (.int 1)) aNil))) aNil)) aNil))))))))
    (zDrop (sApp 3 (sVar 8))))))) (zIf (sTst (sOp gLtU (sCB gLenU (aCons (sVar 4) aNil)) (sVar 1))) (zSeq (zSet 16 (sIf (sTst (sOp gEq (sVar 13) (sC (.int 1)))) (sTup (aCons (sTup (aCons (sCall f_law_of [true, true] (aCons (sVar 0) (aCons (sVar 2) aNil))) (aCons (sCall f_law_take [true, true] (aCons (sVar 0) (aCons (sC (.int 2)) aNil))) aNil))) aNil)) (sTup aNil)))
    (zSeq (zDrop (sApp 4 (sTup (aCons (sOp gAddU (sC (.str (Str.ofString "t"))) (sVar 9)) (aCons (sVar 12) (aCons (sVar 10) (aCons (sVar 8) (aCons (sVar 16) aNil))))))))
    (zDrop (sApp 3 (sVar 8))))) zNext))))))
    (fun k ρ => ∃ t ahead found s7 s8 s9 s10 s11 s12 s13 s14 s15 s16, ρ = [some (.arg t), some (.d (.int 6)), some (.d (.tuple fl2)), some (.own ahead), some (.own found), some (.own (P.map fun c => .str (sg c))), some (.own (L.map fun c => .str (sg c))), s7, s8, s9, s10, s11, s12, s13, s14, s15, s16]
      ∧ FI P L (n + (6 - k) * 40) k t ahead found ∧ nA s7 ∧ nA s8 ∧ nA s9 ∧ nA s10 ∧ nA s11 ∧ nA s12 ∧ nA s13 ∧ nA s14 ∧ nA s15 ∧ nA s16)
    (rng 0 (1 + r)) 0 [some (.arg t3), some (.d (.int 6)), some (.d (.tuple fl2)), some (.own [.str (Str.ofString "sa"), .str (Str.ofString "sb"), .str (Str.ofString "sc")]), some (.own []), some (.own (P.map fun c => .str (sg c))), some (.own (L.map fun c => .str (sg c))), none, none, none, none, none, none, none, none, none, none]
    ⟨t3, _, _, _, _, _, _, _, _, _, _, _, _, rfl, ⟨r3.less (by omega), fun a ha => (by simp at ha; rcases ha with rfl | rfl | rfl <;> exact nm_of (by decide +kernel)), ⟨by simp, by simp⟩, ⟨[], trivial, List.nodup_nil, fun a ha => nomatch ha⟩, by simp, fun h => by omega⟩, nA_none, nA_none, nA_none, nA_none, nA_none, nA_none, nA_none, nA_none, nA_none, nA_none⟩
    (fun k x hx ρ hρ => by
      rw [Nat.zero_add] at hρ ⊢
      obtain ⟨rfl, hk⟩ := rng_get hx
      obtain ⟨t, ahead, found, s7, s8, s9, s10, s11, s12, s13, s14, s15, s16, rfl, F, n7, n8, n9, n10, n11, n12, n13, n14, n15, n16⟩ := hρ
      have hk6 : k < 6 := by omega
      obtain ⟨t', ahead', found', p8, p9, p10, p11, p12, p13, p14, p15, p16, e, F', m8, m9, m10, m11, m12, m13, m14, m15, m16⟩ := form_turn (n := n + (6 - (k + 1)) * 40) (pages := P) (letters := L) p3 l3 p4 l4 l5 hk6 (t := t) (ahead := ahead) (found := found) ⟨F.tin.less (by omega), F.ah, F.ahl, F.steps, F.fll, F.fl0⟩ s8 s9 s10 s11 s12 s13 s14 s15 s16 n8 n9 n10 n11 n12 n13 n14 n15 n16
      exact ⟨_, setC_ok rfl n7, _, e, t', ahead', found', _, _, _, _, _, _, _, _, _, _, rfl, F', nA_d _, m8, m9, m10, m11, m12, m13, m14, m15, m16⟩)
  obtain ⟨t', ahead, found, s7, s8, s9, s10, s11, s12, s13, s14, s15, s16, rfl, F, _⟩ := f2
  rw [rng_len, Nat.zero_add] at F
  obtain ⟨nms, g1, g2, _⟩ := F.steps
  obtain ⟨h1, h2, h3⟩ := sort_ok g1 g2 (Nat.le_trans F.fll (by decide))
  have hm : ∀ s ∈ srt found, ∃ nm, StepOk nm s := fun s hs => by
    obtain ⟨a, _, k⟩ := g1.mem s ((List.mergeSort_perm _ _).mem_iff.mp hs)
    exact ⟨a, k⟩
  have hl : (srt found).length = found.length := by unfold srt; exact List.length_mergeSort _
  refine ⟨srt found, t', rFn (r := .d (.tuple (srt found))) (ρ := [some (.arg t'), some (.d (.int 6)), some (.d (.tuple fl2)), some (.own ahead), some (.own found), some (.own (P.map fun c => .str (sg c))), some (.own (L.map fun c => .str (sg c))), s7, s8, s9, s10, s11, s12, s13, s14, s15, s16]) rfl
    (rSeq (rPar2 (x := [.str (Str.ofString "sa"), .str (Str.ofString "sb"), .str (Str.ofString "sc")]) (y := []) (rCons (rLst (xs := [.str (Str.ofString "sa"), .str (Str.ofString "sb"), .str (Str.ofString "sc")]) rfl rfl (show 3 ≤ big by decide)) (rCons rfl rfl)) rfl rfl)
    (rSeq (rPar2 (rCons p1 (rCons l1 rfl)) rfl rfl) (rSeq (rFor (iR1_ok (n := 1 + r) (rOpD (x := .int 1) (y := .int r) rfl r1 (by show some (R.d (.int (1 + (r : Int)))) = some (R.d (.int ((1 + r : Nat) : Int))); congr 3)) (by omega)) f1) (rRet (rCB1 (rCB1 rfl rfl h1) rfl rfl))))) rfl rfl, F.tin.less (by omega), h2, h3, by rw [hl]; exact F.fl0 (by omega), by rw [hl]; exact F.fll, hm⟩
end G

set_option linter.all false
set_option maxRecDepth 100000
set_option maxHeartbeats 2000000
namespace G
open PySem PySem.Spec L2 Pu
mutual
theorem eqv_refl : ∀ {k : Nat} (d : D), Fine k d → PyData.eqv d d = true
  | k, .none, _ => by simp [PyData.eqv]
  | k, .bool b, _ => by simp [PyData.eqv]
  | k, .int b, _ => by simp [PyData.eqv]
  | k, .str b, _ => by simp [PyData.eqv]
  | k, .list xs, h => by simp only [PyData.eqv]; exact eqvAll_refl xs fun x hx => h.lst.2 x hx
  | k, .tuple xs, h => by simp only [PyData.eqv]; exact eqvAll_refl xs fun x hx => h.tup.2 x hx
  | k, .dict z, h => absurd rfl (h.nodict z)
theorem eqvAll_refl : ∀ {k : Nat} (xs : List D), (∀ x ∈ xs, Fine k x) → PyData.eqvAll xs xs = true
  | k, [], _ => by simp [PyData.eqvAll]
  | k, x :: xs, h => by
    simp only [PyData.eqvAll, Bool.and_eq_true]
    exact ⟨eqv_refl x (h x List.mem_cons_self), eqvAll_refl xs fun y hy => h y (List.mem_cons_of_mem _ hy)⟩
end
theorem in_list {d : D} {ds : List D} (h1 : SeqAt.shaped d = true) (h2 : SeqAt.shaped (.list ds) = true) : gInU d (.list ds) = some (.d (.bool (ds.any fun z => PyData.eqv z d))) := by
  unfold gInU orG gIn
  cases d <;> simp only [] <;> rw [if_pos ⟨h1, h2⟩] <;> rfl
theorem in_tuple {d : D} {ds : List D} (h1 : SeqAt.shaped d = true) (h2 : SeqAt.shaped (.list ds) = true) : gInU d (.tuple ds) = some (.d (.bool (ds.any fun z => PyData.eqv z d))) := by
  unfold gInU orG gIn
  cases d <;> simp only [] <;> rw [if_pos ⟨h1, h2⟩] <;> rfl
theorem notin_list {d : D} {ds : List D} (h1 : SeqAt.shaped d = true) (h2 : SeqAt.shaped (.list ds) = true) : gNotInU d (.list ds) = some (.d (.bool (!ds.any fun z => PyData.eqv z d))) := by
  unfold gNotInU orG gIn
  cases d <;> simp only [] <;> rw [if_pos ⟨h1, h2⟩] <;> rfl
def pageOf : D → D
  | .tuple [_, _, _, p, _] => p
  | _ => .none
def readsOf : D → List D
  | .tuple [_, _, .tuple r, _, _] => r
  | _ => []
def StepD (s : D) : Prop := ∃ nm, StepOk nm s
theorem StepD.page {s : D} (h : StepD s) : NM (pageOf s) := by
  obtain ⟨nm, tool, reads, page, cond, rfl, _, _, _, _, h5, _⟩ := h
  exact h5
theorem StepD.reads {s : D} (h : StepD s) : (∀ r ∈ readsOf s, NM r) ∧ (readsOf s).length ≤ 3 := by
  obtain ⟨nm, tool, reads, page, cond, rfl, _, _, h3, h4, _, _⟩ := h
  exact ⟨h3, h4⟩
theorem StepD.fine {s : D} (h : StepD s) : Fine 3 s := by
  obtain ⟨nm, h⟩ := h
  exact (step_ok h).2.1
theorem StepD.ix3 {s : D} (h : StepD s) : gIx s (.int 3) = some (.d (pageOf s)) := by
  obtain ⟨nm, tool, reads, page, cond, rfl, _⟩ := h
  rfl
theorem StepD.ix2 {s : D} (h : StepD s) : gIx s (.int 2) = some (.d (.tuple (readsOf s))) := by
  obtain ⟨nm, tool, reads, page, cond, rfl, _⟩ := h
  rfl
theorem shL {k : Nat} {xs : List D} (hl : xs.length ≤ 1000) (h : ∀ x ∈ xs, Fine k x) (hk : k ≤ 60) : SeqAt.shaped (.list xs) = true := (fine_list hl h).shaped (by omega)
theorem rSetOwn {i : Nat} {m : M R} {ρ ρ1 π : Rho} {xs : List D} (h : m ρ = some (.own xs, ρ1)) (s : setC i (.own xs) ρ1 = some π) : zSet i m ρ = some (.nx π) := rSet h rfl s
/-- the steps that run where no flag is on -/
theorem on_test {s : D} (h : StepD s) {ss left : List D} : ∃ b, sTst (sOp gEq (sLc [5] (iAny (sOp gIx (sVar 4) (sC (.int 4)))) (gN 5) (sTst (sOp gNe (sOp gInU (sOp gIx (sVar 5) (sC (.int 0))) (sVar 1)) (sOp gEq (sOp gIx (sVar 5) (sC (.int 1))) (sC (.int 1))))) (sVar 5)) (sLst aNil))
    [some (.d (.tuple ss)), some (.d (.tuple [])), some (.own left), some (.own []), some (.d s), none, none, none, none, none]
    = some (b, [some (.d (.tuple ss)), some (.d (.tuple [])), some (.own left), some (.own []), some (.d s), none, none, none, none, none]) := by
  obtain ⟨nm, tool, reads, page, cond, rfl, _, _, _, _, _, hc⟩ := h
  rcases hc with rfl | ⟨f, i, rfl, hf, hi⟩
  · exact ⟨true, rTst (rOp (x := .list []) (y := .list []) (rLc (xs := []) rfl rfl) rfl rfl rfl (gEq_nil rfl))⟩
  · refine ⟨_, rTst (rOp (x := .list (([.tuple [f, .int i]].filter fun x => !PyData.eqv (.bool false) (.bool (i == 1))).map fun x => x)) (y := .list []) (rLc (xs := [.tuple [f, .int i]]) rfl (goLc_pure (p := fun x => !PyData.eqv (.bool false) (.bool (i == 1))) (f := fun x => x) [.tuple [f, .int i]] [] (show 1 ≤ big by decide) fun x hx => ?_)) rfl rfl rfl (gEq_nil (shL (k := 2) ?_ (fun x hx => ?_) (by omega))))⟩
    · rw [List.mem_singleton.mp hx]
      refine ⟨_, rfl, [some (.d (.tuple ss)), some (.d (.tuple [])), some (.own left), some (.own []), some (.d (.tuple [.str nm, tool, .tuple reads, page, .tuple [.tuple [f, .int i]]])), some (.d (.tuple [f, .int i])), none, none, none, none], rTst (rOpD (x := .bool false) (y := .bool (i == 1)) (rOpD (rOpD rfl rfl (gIx0 _ _)) rfl ?_) (rOpD (rOpD rfl rfl (gIx1 _ _ _)) rfl (gEq_int _ _)) (gNe_of rfl rfl)), fun _ => rfl, fun _ => ⟨_, rfl, rfl⟩⟩
      rw [in_tuple (hf.2.shaped (by omega)) rfl]
      rfl
    · exact Nat.le_trans (by rw [List.length_map]; exact List.length_filter_le ..) (show 1 ≤ 1000 by decide)
    · obtain ⟨y, hy, rfl⟩ := List.mem_map.mp hx
      rw [List.mem_singleton.mp (List.mem_filter.mp hy).1]
      exact (fine_tuple (by simp) fun z hz => by
        simp at hz
        rcases hz with rfl | rfl
        · exact hf.2
        · simp [Fine]).up (by omega)
end G

set_option linter.all false
set_option maxRecDepth 100000
set_option maxHeartbeats 2000000
namespace G
open PySem PySem.Spec L2 Pu
theorem rAnyT {m : M R} {ρ ρ1 : Rho} {xs : List D} (h : m ρ = some (.d (.tuple xs), ρ1)) : iAny m ρ = some (xs, ρ1) := by
  unfold iAny iSq sFz
  rw [h]
  rfl
theorem rAnyL {m : M R} {ρ ρ1 : Rho} {xs : List D} (h : m ρ = some (.own xs, ρ1)) : iAny m ρ = some (xs, ρ1) := by
  unfold iAny iSq sFz
  rw [h]
  rfl
theorem rWhT {c : M Bool} {b : MS} {n : Nat} {ρ ρ1 ρ2 : Rho} {o : Option Res} (h : c ρ = some (true, ρ1)) (k : b ρ1 = some (.nx ρ2)) (j : goWh c b n ρ2 = o) : goWh c b (n + 1) ρ = o := by
  unfold goWh; simp only [h, k]; exact j
theorem rWhF {c : M Bool} {b : MS} {n : Nat} {ρ ρ1 : Rho} (h : c ρ = some (false, ρ1)) : goWh c b (n + 1) ρ = some (.nx ρ1) := by
  unfold goWh; simp only [h]
theorem filter_split {α : Type} {p q : α → Bool} {xs : List α} (h : ∀ x ∈ xs, p x = true → q x = false) : (xs.filter q).length + (xs.filter p).length ≤ xs.length := by
  induction xs with
  | nil => simp
  | cons x xs ih =>
    have ih := ih fun y hy => h y (List.mem_cons_of_mem _ hy)
    cases hp : p x
    · rw [List.filter_cons_of_neg (p := p) (by simp [hp])]
      have : (List.filter q (x :: xs)).length ≤ (List.filter q xs).length + 1 := by
        cases hq : q x
        · rw [List.filter_cons_of_neg (p := q) (by simp [hq])]; omega
        · rw [List.filter_cons_of_pos hq]; simp
      simp only [List.length_cons]
      omega
    · rw [List.filter_cons_of_pos (p := p) hp, List.filter_cons_of_neg (p := q) (by simp [h x List.mem_cons_self hp])]
      simp only [List.length_cons]
      omega
abbrev OS (ss : List D) (s2 : Option C) (found : List D) (s4 s5 s6 s7 s8 s9 : Option C) : Rho := [some (.d (.tuple ss)), some (.d (.tuple [])), s2, some (.own found), s4, s5, s6, s7, s8, s9]
abbrev onC : M Bool := sTst (sOp gNe (sVar 2) (sLst aNil))
abbrev onB : MS := (zSeq (zSet 6 (sLc [7] (iAny (sVar 2)) (gN 7) (fun ρ => some (true, ρ)) (sOp gIx (sVar 7) (sC (.int 3)))))
    (zSeq (zSet 8 (sLc [7] (iAny (sVar 2)) (gN 7) (sTst (sOp gEq (sLc [9] (iAny (sOp gIx (sVar 7) (sC (.int 2)))) (gN 9) (sTst (sOp gInU (sVar 9) (sVar 6))) (sVar 9)) (sLst aNil))) (sVar 7)))
    (zSeq (zSet 3 (sOp gAddU (sVar 3) (sVar 8)))
    (zSet 2 (sIf (sTst (sOp gNe (sVar 8) (sLst aNil))) (sLc [7] (iAny (sVar 2)) (gN 7) (sTst (sOp gNotInU (sVar 7) (sVar 8))) (sVar 7)) (sLst aNil))))))
theorem catL {xs ys : List D} (h : xs.length + ys.length ≤ big) : gAddU (.list xs) (.list ys) = some (.own (xs ++ ys)) := by
  have e : gCatL (.list xs) (.list ys) = some (.own (xs ++ ys)) := (if_pos h : (if xs.length + ys.length ≤ big then some (R.own (xs ++ ys)) else none) = _)
  simp [gAddU, orG, gI, gCatS, e]
theorem on_turn {ss left found : List D} (h : ∀ s ∈ ss, StepD s) (hl : left ≠ []) (h1 : ∀ s ∈ left, s ∈ ss) (h2 : ∀ s ∈ found, s ∈ ss) (h3 : left.length + found.length ≤ 6) {o4 o6 o8 : Option C} (n6 : nA o6) (n8 : nA o8) :
    ∃ left' found' p6 p8, onB (OS ss (some (.own left)) found o4 none o6 none o8 none) = some (.nx (OS ss (some (.own left')) found' o4 none p6 none p8 none)) ∧ left'.length < left.length ∧ (∀ s ∈ left', s ∈ ss) ∧ (∀ s ∈ found', s ∈ ss) ∧ left'.length + found'.length ≤ 6 ∧ nA p6 ∧ nA p8 := by
  have hS : ∀ s ∈ left, StepD s := fun s hs => h s (h1 s hs)
  have hlb : ∀ {n : Nat}, n ≤ left.length → ([] : List D).length + n ≤ big := fun z => small_big (by simp; omega)
  -- which are ready
  let inW : D → Bool := fun r => (left.map pageOf).any fun z => PyData.eqv z r
  let rdy : D → Bool := fun x => !(readsOf x).any inW
  have shp : ∀ xs : List D, xs.length ≤ 6 → (∀ x ∈ xs, x ∈ ss) → SeqAt.shaped (.list xs) = true := fun xs a b => shL (k := 3) (by omega) (fun x hx => (h x (b x hx)).fine) (by omega)
  have w6 : sLc [7] (iAny (sVar 2)) (gN 7) (fun ρ => some (true, ρ)) (sOp gIx (sVar 7) (sC (.int 3))) (OS ss (some (.own left)) found o4 none o6 none o8 none)
      = some (.own (left.map pageOf), OS ss (some (.d (.list left))) found o4 none o6 none o8 none) :=
    rLc (xs := left) rfl (goLc_map (f := pageOf) left (small_big (by omega)) fun x hx => ⟨_, rfl, _, rFzD (rOpD rfl rfl (hS x hx).ix3), rfl⟩)
  have w8 : sLc [7] (iAny (sVar 2)) (gN 7) (sTst (sOp gEq (sLc [9] (iAny (sOp gIx (sVar 7) (sC (.int 2)))) (gN 9) (sTst (sOp gInU (sVar 9) (sVar 6))) (sVar 9)) (sLst aNil))) (sVar 7) (OS ss (some (.d (.list left))) found o4 none (some (.own (left.map pageOf))) none o8 none)
      = some (.own (left.filter rdy), OS ss (some (.d (.list left))) found o4 none (some (.own (left.map pageOf))) none o8 none) := by
    refine rLc (xs := left) rfl ((goLc_pure (p := rdy) (f := fun x => x) left [] (hlb (Nat.le_refl _)) fun x hx => ?_).trans (by rw [List.map_id', List.nil_append]; rfl))
    have hr := (hS x hx).reads
    refine ⟨_, rfl, OS ss (some (.d (.list left))) found o4 none (some (.own (left.map pageOf))) (some (.d x)) o8 none, rTst (rOp (x := .list (((readsOf x).filter inW).map fun y => y)) (y := .list []) (rLc (xs := readsOf x) (ρ1 := OS ss (some (.d (.list left))) found o4 none (some (.own (left.map pageOf))) (some (.d x)) o8 none) (rAnyT (rOpD rfl rfl (hS x hx).ix2)) (goLc_pure (p := inW) (f := fun y => y) (readsOf x) [] (small_big (by simp; omega)) fun y hy => ?_)) rfl rfl rfl ?_), fun _ => rfl, fun _ => ⟨_, rfl, rfl⟩⟩
    · refine ⟨_, rfl, OS ss (some (.d (.list left))) found o4 none (some (.own (left.map pageOf))) (some (.d x)) o8 (some (.d y)), rTst (rOp (x := y) (y := .list (left.map pageOf)) rfl rfl rfl rfl (in_list ((hr.1 y hy).2.shaped (by omega)) (shL (k := 0) (by rw [List.length_map]; omega) (fun z hz => ?_) (by omega)))), fun _ => rfl, fun _ => ⟨_, rfl, rfl⟩⟩
      obtain ⟨s, hs, rfl⟩ := List.mem_map.mp hz
      exact (hS s hs).page.2
    · rw [List.map_id', gEq_nil (shL (k := 0) (Nat.le_trans (List.length_filter_le ..) (by omega)) (fun z hz => (hr.1 z (List.mem_filter.mp hz).1).2) (by omega)), isEmpty_filter]
  have hready : (left.filter rdy).length ≤ left.length := List.length_filter_le ..
  have w3 : sOp gAddU (sVar 3) (sVar 8) (OS ss (some (.d (.list left))) found o4 none (some (.own (left.map pageOf))) none (some (.own (left.filter rdy))) none)
      = some (.own (found ++ left.filter rdy), OS ss (some (.d (.list left))) found o4 none (some (.own (left.map pageOf))) none (some (.own (left.filter rdy))) none) :=
    rOp (x := .list found) (y := .list (left.filter rdy)) rfl rfl rfl rfl (catL (small_big (by omega)))
  have hrs : ∀ x ∈ left.filter rdy, x ∈ ss := fun x hx => h1 x (List.mem_filter.mp hx).1
  have w2t : sTst (sOp gNe (sVar 8) (sLst aNil)) (OS ss (some (.d (.list left))) (found ++ left.filter rdy) o4 none (some (.own (left.map pageOf))) none (some (.own (left.filter rdy))) none)
      = some (!(left.filter rdy).isEmpty, OS ss (some (.d (.list left))) (found ++ left.filter rdy) o4 none (some (.own (left.map pageOf))) none (some (.own (left.filter rdy))) none) :=
    rTst (rOp (x := .list (left.filter rdy)) (y := .list []) rfl rfl rfl rfl (gNe_nil (shp _ (by omega) hrs)))
  let out : D → Bool := fun x => !(left.filter rdy).any fun z => PyData.eqv z x
  have w2a : sLc [7] (iAny (sVar 2)) (gN 7) (sTst (sOp gNotInU (sVar 7) (sVar 8))) (sVar 7) (OS ss (some (.d (.list left))) (found ++ left.filter rdy) o4 none (some (.own (left.map pageOf))) none (some (.own (left.filter rdy))) none)
      = some (.own (left.filter out), OS ss (some (.d (.list left))) (found ++ left.filter rdy) o4 none (some (.own (left.map pageOf))) none (some (.own (left.filter rdy))) none) := by
    refine rLc (xs := left) rfl ((goLc_pure (p := out) (f := fun x => x) left [] (hlb (Nat.le_refl _)) fun x hx => ?_).trans (by rw [List.map_id', List.nil_append]; rfl))
    exact ⟨_, rfl, OS ss (some (.d (.list left))) (found ++ left.filter rdy) o4 none (some (.own (left.map pageOf))) (some (.d x)) (some (.own (left.filter rdy))) none, rTst (rOp (x := x) (y := .list (left.filter rdy)) rfl rfl rfl rfl (notin_list ((hS x hx).fine.shaped (by omega)) (shp _ (by omega) hrs))), fun _ => rfl, fun _ => ⟨_, rfl, rfl⟩⟩
  have hsplit : (left.filter out).length + (left.filter rdy).length ≤ left.length := filter_split fun x hx hp => by
    show (!(left.filter rdy).any fun z => PyData.eqv z x) = false
    rw [Bool.not_eq_false', List.any_eq_true]
    exact ⟨x, List.mem_filter.mpr ⟨hx, hp⟩, eqv_refl x (hS x hx).fine⟩
  have hpos : 0 < left.length := List.length_pos_iff.mpr hl
  have fin : ∀ s ∈ found ++ left.filter rdy, s ∈ ss := fun s hs => (List.mem_append.mp hs).elim (h2 s) (hrs s)
  cases he : (left.filter rdy).isEmpty with
  | true =>
    rw [he] at w2t
    have e0 : left.filter rdy = [] := List.isEmpty_iff.mp he
    refine ⟨[], found ++ left.filter rdy, some (.own (left.map pageOf)), some (.own (left.filter rdy)), rSeq (rSetOwn w6 (setC_ok rfl n6)) (rSeq (rSetOwn w8 (setC_ok rfl n8)) (rSeq (rSetOwn w3 rfl) (rSetOwn (rIfE w2t (fun z => nomatch z) fun _ => rfl) rfl))), hpos, (fun s hs => nomatch hs), fin, ?_, (fun _ z => nomatch z), (fun _ z => nomatch z)⟩
    rw [e0]
    simp
    omega
  | false =>
    rw [he] at w2t
    have e1 : 0 < (left.filter rdy).length := by
      rcases Nat.eq_zero_or_pos (left.filter rdy).length with z | z
      · rw [List.length_eq_zero_iff.mp z] at he; cases he
      · exact z
    refine ⟨left.filter out, found ++ left.filter rdy, some (.own (left.map pageOf)), some (.own (left.filter rdy)), rSeq (rSetOwn w6 (setC_ok rfl n6)) (rSeq (rSetOwn w8 (setC_ok rfl n8)) (rSeq (rSetOwn w3 rfl) (rSetOwn (rIfE w2t (fun _ => w2a) (fun z => nomatch z)) rfl))), by omega, (fun s hs => h1 s (List.mem_filter.mp hs).1), fin, ?_, (fun _ z => nomatch z), (fun _ z => nomatch z)⟩
    rw [List.length_append]
    omega
theorem on_while {ss : List D} (h : ∀ s ∈ ss, StepD s) {o4 : Option C} : ∀ (m n : Nat) {left found : List D} {o6 o8 : Option C}, left.length ≤ n → n < m → (∀ s ∈ left, s ∈ ss) → (∀ s ∈ found, s ∈ ss) → left.length + found.length ≤ 6 → nA o6 → nA o8 →
    ∃ found' p2 p6 p8, goWh onC onB m (OS ss (some (.own left)) found o4 none o6 none o8 none) = some (.nx (OS ss p2 found' o4 none p6 none p8 none)) ∧ (∀ s ∈ found', s ∈ ss) ∧ found'.length ≤ 6
  | 0, n, left, found, o6, o8, hn, hm, _, _, _, _, _ => by omega
  | m + 1, n, left, found, o6, o8, hn, hm, h1, h2, h3, n6, n8 => by
    have hc : onC (OS ss (some (.own left)) found o4 none o6 none o8 none) = some (!left.isEmpty, OS ss (some (.own left)) found o4 none o6 none o8 none) :=
      rTst (rOp (x := .list left) (y := .list []) rfl rfl rfl rfl (gNe_nil (shL (k := 3) (by omega) (fun x hx => (h x (h1 x hx)).fine) (by omega))))
    by_cases he : left = []
    · subst he
      exact ⟨found, _, o6, o8, rWhF hc, h2, by omega⟩
    · obtain ⟨left', found', p6, p8, e, a1, a2, a3, a4, a5, a6⟩ := on_turn h he h1 h2 h3 (o4 := o4) n6 n8
      have hc : onC (OS ss (some (.own left)) found o4 none o6 none o8 none) = some (true, OS ss (some (.own left)) found o4 none o6 none o8 none) := by
        rw [hc]
        cases left with
        | nil => exact absurd rfl he
        | cons _ _ => rfl
      obtain ⟨f2, p2, q6, q8, e2, b1, b2⟩ := on_while h (o4 := o4) m (n - 1) (left := left') (found := found') (o6 := p6) (o8 := p8) (by omega) (by omega) a2 a3 a4 a5 a6
      exact ⟨f2, p2, q6, q8, rWhT hc e e2, b1, b2⟩
theorem on_ok {ss : List D} (h : ∀ s ∈ ss, StepD s) (hl : ss.length ≤ 6) : ∃ found, f_law_on [.d (.tuple ss), .d (.tuple [])] = some (.own found, [.d (.tuple ss), .d (.tuple [])]) ∧ (∀ s ∈ found, s ∈ ss) ∧ found.length ≤ 6 := by
  obtain ⟨ρ', f1, f2⟩ := goFor_inv (g := gN 4) (b := zIf (sTst (sOp gEq (sLc [5] (iAny (sOp gIx (sVar 4) (sC (.int 4)))) (gN 5) (sTst (sOp gNe (sOp gInU (sOp gIx (sVar 5) (sC (.int 0))) (sVar 1)) (sOp gEq (sOp gIx (sVar 5) (sC (.int 1))) (sC (.int 1))))) (sVar 5)) (sLst aNil))) (zDrop (sApp 2 (sVar 4))) zNext)
    (fun k ρ => ∃ left o4, ρ = OS ss (some (.own left)) [] o4 none none none none none ∧ nA o4 ∧ (∀ s ∈ left, s ∈ ss) ∧ left.length ≤ k) ss 0 (OS ss (some (.own [])) [] none none none none none none)
    ⟨[], none, rfl, nA_none, (fun s hs => nomatch hs), Nat.le_refl _⟩ (fun k x hx ρ hρ => by
      obtain ⟨left, o4, rfl, n4, a1, a2⟩ := hρ
      have hm : x ∈ ss := List.mem_of_getElem? hx
      have hk : k < ss.length := by
        rcases Nat.lt_or_ge k ss.length with w | w
        · exact w
        · rw [List.getElem?_eq_none w] at hx; cases hx
      obtain ⟨b, hb⟩ := on_test (h x hm) (ss := ss) (left := left)
      cases b with
      | true =>
        exact ⟨_, setC_ok rfl n4, _, rIfT hb (rDrop (rApp (xs := left) (y := x) rfl rfl (rFzD rfl) rfl rfl (small_lt (by omega)) rfl)), left ++ [x], _, rfl, nA_d _, fun s hs => (List.mem_append.mp hs).elim (a1 s) fun z => by rw [List.mem_singleton.mp z]; exact hm, by simp; omega⟩
      | false => exact ⟨_, setC_ok rfl n4, _, rIfF hb rfl, left, _, rfl, nA_d _, a1, by omega⟩)
  obtain ⟨left, o4, rfl, n4, a1, a2⟩ := f2
  obtain ⟨found', p2, p6, p8, e, b1, b2⟩ := on_while h (o4 := o4) 100 6 (left := left) (found := []) (o6 := none) (o8 := none) (by omega) (by omega) a1 (fun s hs => nomatch hs) (by simp; omega) nA_none nA_none
  exact ⟨found', rFn (r := .sl 3) (ρ := OS ss p2 found' o4 none p6 none p8 none) rfl (rSeq (rPar2 (x := []) (y := []) (ρ1 := [some (.d (.tuple ss)), some (.d (.tuple [])), none, none, none, none, none, none, none, none]) rfl rfl rfl) (rSeq (rFor (xs := ss) rfl f1) (rSeq e (rRet rfl)))) rfl rfl, b1, b2⟩
end G

set_option linter.all false
set_option maxRecDepth 100000
set_option maxHeartbeats 2000000
namespace G
open PySem PySem.Spec L2 Pu
theorem of_sla {n j : Nat} {ρ : Rho} {t xs : List D} (h0 : ρ[0]? = some (some (.arg t))) (hj : ρ[j]? = some (some (.arg xs))) (jn : 0 ≠ j) (hT : T (n + 1) t) (h1 : 0 < xs.length) (h2 : xs.length < 1073741824) :
    ∃ (x : D) (ys : List D), sCall f_law_of [true, true] (aCons (sVar 0) (aCons (sVar j) aNil)) ρ = some (.d x, ρ.set 0 (some (.arg ys))) ∧ x ∈ xs ∧ T n ys := by
  obtain ⟨x, ys, e1, e2, e3⟩ := of_ok hT (.arg (xs := xs)) h1 h2
  refine ⟨x, ys, rCall (rs := [.sl 0, .sl j]) (rs2 := [.sl 0, .sl j]) (ρ2 := ρ) (rCons (var_arg h0) (rCons (var_arg hj) rfl)) rfl (cs := [.arg t, .arg xs]) ?_ (by simp [slots]; exact jn) e1 rfl rfl ?_, e2, e3⟩
  · simp [csOf, cOf, h0, hj]
  · simp only [backs, h0, C.put, set_get hj jn]
    exact set_same (set_get hj jn)
abbrev marks2 : List D := [.str (Str.ofString "va"), .str (Str.ofString "vb")]
theorem marks_nm : ∀ f ∈ marks2, NM f := by
  intro f hf
  simp at hf
  rcases hf with rfl | rfl <;> exact nm_of (by decide +kernel)
theorem nm_shL {xs : List D} (hl : xs.length ≤ 1000) (h : ∀ x ∈ xs, NM x) : SeqAt.shaped (.list xs) = true := shL (k := 0) hl (fun x hx => (h x hx).2) (by omega)
abbrev SS (t ss : List D) (s4 s5 s6 s7 s8 : Option C) : Rho := [some (.arg t), some (.d (.tuple ss)), some (.d (.tuple [])), some (.arg marks2), s4, s5, s6, s7, s8]
theorem on_at {t ss : List D} (h : ∀ s ∈ ss, StepD s) (hl : ss.length ≤ 6) {s4 s5 s6 s7 s8 : Option C} : ∃ found, sCall f_law_on [false, true] (aCons (sVar 1) (aCons (sVar 2) aNil)) (SS t ss s4 s5 s6 s7 s8) = some (.own found, SS t ss s4 s5 s6 s7 s8) ∧ (∀ s ∈ found, StepD s) ∧ found.length ≤ 6 := by
  obtain ⟨found, e, a, b⟩ := on_ok h hl
  exact ⟨found, rCall (rs := [.d (.tuple ss), .d (.tuple [])]) (rs2 := [.d (.tuple ss), .d (.tuple [])]) (ρ2 := SS t ss s4 s5 s6 s7 s8) (rCons rfl (rCons rfl rfl)) rfl (cs := [.d (.tuple ss), .d (.tuple [])]) rfl List.nodup_nil e rfl rfl rfl, fun s hs => h s (a s hs), b⟩
theorem sset_pw (ss : List Str) : (sset ss).Pairwise ltS := by
  unfold sset
  have p := List.pairwise_mergeSort leS_trans leS_total (once ss)
  have n : ((once ss).mergeSort leS).Nodup := (List.mergeSort_perm _ _).nodup_iff.mpr (once_nodup ss)
  exact (List.Pairwise.and p n).imp fun {a b} z => le_ltS z.1 z.2
theorem sset_mem {ss : List Str} {s : Str} (h : s ∈ sset ss) : s ∈ ss := (once_mem ss s).mp ((List.mergeSort_perm _ _).mem_iff.mp h)
theorem sset_len (ss : List Str) : (sset ss).length ≤ ss.length := by
  unfold sset
  rw [List.length_mergeSort]
  exact once_len ss
theorem stock_ok {n : Nat} {t ss : List D} (hT : T (n + 40) t) (h : ∀ s ∈ ss, StepD s) (hl : ss.length ≤ 6) :
    ∃ xs t', f_law_stock [.arg t, .d (.tuple ss), .d (.tuple []), .arg marks2] = some (.d (.tuple xs), [.arg t', .d (.tuple ss), .d (.tuple []), .arg marks2]) ∧ T n t' ∧ countsB (.tuple xs) = true ∧ Fine 2 (.tuple xs) ∧ xs.length ≤ 24 ∧ ∀ x ∈ xs, ∃ a b, x = .tuple [a, b] ∧ NM a ∧ NM b := by
  obtain ⟨f1, a1, a2, a3⟩ := on_at (t := t) (s4 := none) (s5 := none) (s6 := none) (s7 := none) (s8 := none) h hl
  -- made
  have b1 : zSet 4 (sLc [5] (iAny (sCall f_law_on [false, true] (aCons (sVar 1) (aCons (sVar 2) aNil)))) (gN 5) (fun ρ => some (true, ρ)) (sOp gIx (sVar 5) (sC (.int 3)))) (SS t ss none none none none none) = some (.nx (SS t ss (some (.own (f1.map pageOf))) none none none none)) :=
    rSetOwn (rLc (xs := f1) (rAnyL a1) (goLc_map (f := pageOf) f1 (small_big (by omega)) fun x hx => ⟨_, rfl, _, rFzD (rOpD rfl rfl (a2 x hx).ix3), rfl⟩)) rfl
  have made_nm : ∀ x ∈ f1.map pageOf, NM x := fun x hx => by
    obtain ⟨s, hs, rfl⟩ := List.mem_map.mp hx
    exact (a2 s hs).page
  have made_l : (f1.map pageOf).length ≤ 6 := by rw [List.length_map]; exact a3
  generalize hmade : f1.map pageOf = made at b1 made_nm made_l
  -- need
  obtain ⟨f2, c1, c2, c3⟩ := on_at (t := t) (s4 := some (.own made)) (s5 := none) (s6 := some (.own [])) (s7 := none) (s8 := none) h hl
  obtain ⟨ρ', g1, g2⟩ := goFor_inv (g := gN 5) (b := zSet 6 (sOp gAddU (sVar 6) (sLc [7] (iAny (sOp gIx (sVar 5) (sC (.int 2)))) (gN 7) (sTst (sOp gNotInU (sVar 7) (sVar 4))) (sVar 7))))
    (fun k ρ => ∃ need o5, ρ = SS t ss (some (.own made)) o5 (some (.own need)) none none ∧ nA o5 ∧ (∀ x ∈ need, NM x) ∧ need.length ≤ 3 * k) f2 0 (SS t ss (some (.own made)) none (some (.own [])) none none)
    ⟨[], none, rfl, nA_none, (fun x hx => nomatch hx), Nat.le_refl _⟩ (fun k x hx ρ hρ => by
      rw [Nat.zero_add] at hρ ⊢
      obtain ⟨need, o5, rfl, n5, d1, d2⟩ := hρ
      have hx2 := c2 x (List.mem_of_getElem? hx)
      have hr := hx2.reads
      have hk : k < 6 := by
        rcases Nat.lt_or_ge k f2.length with w | w
        · omega
        · rw [List.getElem?_eq_none w] at hx; cases hx
      let out : D → Bool := fun r => !made.any fun z => PyData.eqv z r
      refine ⟨_, setC_ok rfl n5, _, rSetOwn (rOp (x := .list need) (y := .list ((readsOf x).filter out)) rfl (rLc (xs := readsOf x) (ρ1 := SS t ss (some (.own made)) (some (.d x)) (some (.own need)) none none) (rAnyT (rOpD rfl rfl hx2.ix2)) ((goLc_pure (p := out) (f := fun y => y) (readsOf x) [] (small_big (by simp; omega)) fun y hy => ?_).trans (by rw [List.map_id', List.nil_append]))) rfl rfl (catL (small_big ?_))) rfl, need ++ (readsOf x).filter out, _, rfl, nA_d _, fun y hy => ?_, ?_⟩
      · exact ⟨_, rfl, SS t ss (some (.own made)) (some (.d x)) (some (.own need)) (some (.d y)) none, rTst (rOp (x := y) (y := .list made) rfl rfl rfl rfl (notin_list ((hr.1 y hy).2.shaped (by omega)) (nm_shL (by omega) made_nm))), fun _ => rfl, fun _ => ⟨_, rfl, rfl⟩⟩
      · have : ((readsOf x).filter out).length ≤ (readsOf x).length := List.length_filter_le ..
        omega
      · exact (List.mem_append.mp hy).elim (d1 y) fun z => hr.1 y (List.mem_filter.mp z).1
      · have : ((readsOf x).filter out).length ≤ (readsOf x).length := List.length_filter_le ..
        rw [List.length_append]
        omega)
  obtain ⟨need, o5, rfl, n5, d1, d2⟩ := g2
  rw [Nat.zero_add] at d2
  -- more
  obtain ⟨more, ρ2, e1, ⟨t2, rfl, e2, e3⟩, e4⟩ := goLc_inv (vs := [7]) (g := gN 7) (t := sTst (sOp gEq (sCall f_law_take [true, true] (aCons (sVar 0) (aCons (sC (.int 5)) aNil))) (sC (.int 0)))) (e := sVar 7)
    (fun k acc ρ => ∃ t', ρ = SS t' ss (some (.d (.list made))) o5 (some (.own need)) none none ∧ T (n + 30 + (made.length - k)) t' ∧ ∀ x ∈ acc, NM x) made [] 0 (SS t ss (some (.d (.list made))) o5 (some (.own need)) none none)
    (small_big (by simp; omega)) ⟨t, rfl, hT.less (by omega), fun x hx => nomatch hx⟩ (fun k x hx acc ρ hρ => by
      rw [Nat.zero_add] at hρ ⊢
      obtain ⟨t', rfl, k1, k2⟩ := hρ
      have hk : k < made.length := by
        rcases Nat.lt_or_ge k made.length with w | w
        · exact w
        · rw [List.getElem?_eq_none w] at hx; cases hx
      obtain ⟨r, t3, r1, r2, r3⟩ := take_at (n := n + 30 + (made.length - (k + 1))) (m := 5) (e := sC (.int 5)) (t := t') (ρ := SS t' ss (some (.d (.list made))) o5 (some (.own need)) (some (.d x)) none) rfl rfl (k1.less (by omega)) (by decide) (by decide)
      refine ⟨_, rfl, _, SS t3 ss (some (.d (.list made))) o5 (some (.own need)) (some (.d x)) none, rTst (rOpD r1 rfl (gEq_int _ _)), fun _ => ⟨t3, rfl, r3, k2⟩, fun _ => ⟨x, _, rfl, t3, rfl, r3, fun y hy => (List.mem_append.mp hy).elim (k2 y) fun z => by rw [List.mem_singleton.mp z]; exact made_nm x (List.mem_of_getElem? hx)⟩⟩)
  have ml : more.length ≤ 6 := by simp at e4; omega
  obtain ⟨as, has⟩ : ∃ as : List Str, need ++ more = as.map .str := strs_of fun x hx => nm_str ((List.mem_append.mp hx).elim (d1 x) (e3 x))
  have asl : as.length ≤ 24 := by
    have := congrArg List.length has
    rw [List.length_append, List.length_map] at this
    omega
  have as_nm : ∀ a ∈ as, NM (.str a) := fun a ha => by
    have : PyData.str a ∈ need ++ more := by rw [has]; exact List.mem_map_of_mem ha
    exact (List.mem_append.mp this).elim (d1 _) (e3 _)
  have sl := sset_len as
  -- the pairs
  obtain ⟨xs, ρ3, p1, ⟨t3, rfl, p2, p3, p4⟩, p5⟩ := goLc_inv (vs := [7]) (g := gN 7) (t := fun ρ => some (true, ρ)) (e := sTup (aCons (sVar 7) (aCons (sCall f_law_of [true, true] (aCons (sVar 0) (aCons (sVar 3) aNil))) aNil)))
    (fun k acc ρ => ∃ t', ρ = SS t' ss (some (.d (.list made))) o5 (some (.own need)) none (some (.own more)) ∧ T (n + ((sset as).length - k)) t' ∧ acc.map fst = ((sset as).take k).map .str ∧ ∀ x ∈ acc, ∃ a b, x = .tuple [a, b] ∧ NM a ∧ NM b) ((sset as).map .str) [] 0 (SS t2 ss (some (.d (.list made))) o5 (some (.own need)) none (some (.own more)))
    (small_big (by simp; omega)) ⟨t2, rfl, e2.less (by omega), rfl, fun x hx => nomatch hx⟩ (fun k x hx acc ρ hρ => by
      rw [Nat.zero_add] at hρ ⊢
      obtain ⟨t', rfl, k1, k2, k3⟩ := hρ
      rw [List.getElem?_map] at hx
      cases hg : (sset as)[k]? with
      | none => rw [hg] at hx; cases hx
      | some a =>
        rw [hg] at hx
        cases hx
        have hk : k < (sset as).length := by
          rcases Nat.lt_or_ge k (sset as).length with w | w
          · exact w
          · rw [List.getElem?_eq_none w] at hg; cases hg
        obtain ⟨m, t4, q1, q2, q3⟩ := of_sla (n := n + ((sset as).length - (k + 1))) (j := 3) (xs := marks2) (t := t') (ρ := SS t' ss (some (.d (.list made))) o5 (some (.own need)) (some (.d (.str a))) (some (.own more))) rfl rfl (by decide) (k1.less (by omega)) (by decide) (by decide)
        refine ⟨_, rfl, true, _, rfl, (fun z => nomatch z), fun _ => ⟨.tuple [.str a, m], _, rFzD (rTup (xs := [.str a, m]) (rCons rfl (rCons q1 rfl)) rfl (show 2 ≤ big by decide)), t4, rfl, q3, ?_, fun y hy => (List.mem_append.mp hy).elim (k3 y) fun z => ?_⟩⟩
        · rw [List.map_append, k2, List.take_add_one, hg, List.map_append]
          rfl
        · rw [List.mem_singleton.mp z]
          exact ⟨_, _, rfl, as_nm a (sset_mem (List.mem_of_getElem? hg)), marks_nm m q2⟩)
  rw [List.length_map, Nat.zero_add] at p2 p3
  rw [List.take_length] at p3
  have xl : xs.length ≤ 24 := by simp at p5; omega
  refine ⟨xs, t3, rFn (r := .d (.tuple xs)) (ρ := SS t3 ss (some (.d (.list made))) o5 (some (.own need)) none (some (.own more))) rfl (rSeq b1 (rSeq (rSetOwn (xs := []) rfl rfl) (rSeq (rFor (rAnyL c1) g1) (rSeq (rSetOwn (rLc (xs := made) (ρ1 := SS t ss (some (.d (.list made))) o5 (some (.own need)) none none) rfl e1) rfl)
    (rRet (rCB1 (rLc (xs := (sset as).map .str) (ρ1 := SS t2 ss (some (.d (.list made))) o5 (some (.own need)) none (some (.own more))) (rAnyL (rSSet (rs := [.own (need ++ more)]) (ss := as) (rCons (rOp (x := .list need) (y := .list more) rfl rfl rfl rfl (catL (small_big (by omega)))) rfl) (by rw [has]; rfl) (by omega))) p1) rfl rfl)))))) rfl rfl, p2.less (by omega), ?_, ?_, xl, p4⟩
  · have hm : xs.all markB = true := List.all_eq_true.mpr fun x hx => by
      obtain ⟨a, b, rfl, ha, hb⟩ := p4 x hx
      simp [markB, ha.1, hb.1]
    show (xs.all markB && ascB (xs.map fst)) = true
    rw [hm, p3, (asc_iff _).mpr (sset_pw as)]
    rfl
  · refine fine_tuple (by omega) fun x hx => ?_
    obtain ⟨a, b, rfl, ha, hb⟩ := p4 x hx
    refine fine_tuple (by simp) fun y hy => ?_
    simp at hy
    rcases hy with rfl | rfl
    · exact ha.2
    · exact hb.2
end G

set_option linter.all false
set_option maxRecDepth 100000
set_option maxHeartbeats 2000000
namespace G
open PySem PySem.Spec L2 Pu
def Sz (L : Nat) : Nat → D → Prop
  | _, .none => True
  | _, .bool _ => True
  | _, .int _ => True
  | _, .str s => s.length ≤ 1000 ∧ s.cps.all (· < 0x110000) = true
  | 0, .list _ => False
  | 0, .tuple _ => False
  | k + 1, .list xs => xs.length ≤ L ∧ ∀ x ∈ xs, Sz L k x
  | k + 1, .tuple xs => xs.length ≤ L ∧ ∀ x ∈ xs, Sz L k x
  | _, .dict _ => False
theorem Sz.fine {L : Nat} (hL : L ≤ 1000) : ∀ {k : Nat} {d : D}, Sz L k d → Fine k d
  | k, .none, h => by simp [Fine]
  | k, .bool _, h => by simp [Fine]
  | k, .int _, h => by simp [Fine]
  | k, .str _, h => by
    cases k <;> (simp only [Sz] at h; simp only [Fine]; exact h)
  | 0, .list _, h => by simp [Sz] at h
  | 0, .tuple _, h => by simp [Sz] at h
  | k + 1, .list xs, h => by
    simp only [Sz] at h
    simp only [Fine]
    exact ⟨by omega, fun x hx => Sz.fine hL (h.2 x hx)⟩
  | k + 1, .tuple xs, h => by
    simp only [Sz] at h
    simp only [Fine]
    exact ⟨by omega, fun x hx => Sz.fine hL (h.2 x hx)⟩
  | k, .dict _, h => by cases k <;> simp [Sz] at h
theorem Sz.mono {L M : Nat} (hL : L ≤ M) : ∀ {k j : Nat} {d : D}, Sz L k d → k ≤ j → Sz M j d
  | k, j, .none, h, _ => by simp [Sz]
  | k, j, .bool _, h, _ => by simp [Sz]
  | k, j, .int _, h, _ => by simp [Sz]
  | k, j, .str _, h, _ => by
    cases k <;> cases j <;> (simp only [Sz] at h ⊢; exact h)
  | 0, j, .list _, h, _ => by simp [Sz] at h
  | 0, j, .tuple _, h, _ => by simp [Sz] at h
  | k + 1, 0, .list _, h, e => by omega
  | k + 1, 0, .tuple _, h, e => by omega
  | k + 1, j + 1, .list xs, h, e => by
    simp only [Sz] at h ⊢
    exact ⟨by omega, fun x hx => Sz.mono hL (h.2 x hx) (by omega)⟩
  | k + 1, j + 1, .tuple xs, h, e => by
    simp only [Sz] at h ⊢
    exact ⟨by omega, fun x hx => Sz.mono hL (h.2 x hx) (by omega)⟩
  | k, j, .dict _, h, _ => by cases k <;> simp [Sz] at h
theorem sz_atom {L : Nat} {d : D} (h : Fine 0 d) : Sz L 0 d := by
  cases d <;> first | (simp [Sz]; done) | (simp [Fine] at h; done) | (simp only [Fine] at h; simp only [Sz]; exact h)
theorem sz_list {L k : Nat} {xs : List D} (hl : xs.length ≤ L) (h : ∀ x ∈ xs, Sz L k x) : Sz L (k + 1) (.list xs) := by simp only [Sz]; exact ⟨hl, h⟩
theorem sz_tuple {L k : Nat} {xs : List D} (hl : xs.length ≤ L) (h : ∀ x ∈ xs, Sz L k x) : Sz L (k + 1) (.tuple xs) := by simp only [Sz]; exact ⟨hl, h⟩
theorem Sz.seq {L k : Nat} {m : D} {xs : List D} (e : m = .list xs ∨ m = .tuple xs) (h : Sz L k m) : xs.length ≤ L ∧ ∃ j, k = j + 1 ∧ ∀ x ∈ xs, Sz L j x := by
  cases k with
  | zero => rcases e with rfl | rfl <;> simp [Sz] at h
  | succ j =>
    rcases e with rfl | rfl <;> (simp only [Sz] at h; exact ⟨h.1, j, rfl, h.2⟩)
theorem step_sz {nm : Str} {s : D} (h : StepOk nm s) : Sz 100 3 s := by
  obtain ⟨tool, reads, page, cond, rfl, h1, h2, h3, h4, h5, h6⟩ := h
  refine sz_tuple (by simp) fun x hx => ?_
  simp at hx
  rcases hx with rfl | rfl | rfl | rfl | rfl
  · exact (sz_atom h1.2).mono (Nat.le_refl _) (by omega)
  · exact (sz_atom h2.2).mono (Nat.le_refl _) (by omega)
  · exact (sz_tuple (by omega) fun r hr => sz_atom (h3 r hr).2 : Sz 100 1 _).mono (Nat.le_refl _) (by omega)
  · exact (sz_atom h5.2).mono (Nat.le_refl _) (by omega)
  · rcases h6 with rfl | ⟨f, i, rfl, hf, hi⟩
    · exact sz_tuple (by simp) fun r hr => nomatch hr
    · refine sz_tuple (by simp) fun x hx => ?_
      rw [List.mem_singleton.mp hx]
      refine sz_tuple (by simp) fun y hy => ?_
      simp at hy
      rcases hy with rfl | rfl
      · exact sz_atom hf.2
      · simp [Sz]
/-- the odd things -/
abbrev odd14 : List D := [.str (Str.ofString "pa"), .str (Str.ofString "sa"), .str (Str.ofString ""), .str (Str.ofString "A"), .none, .int 0, .int 1, .int 2, .bool true, .tuple [], .tuple [.str (Str.ofString "sa")], .tuple [.str (Str.ofString "sa"), .int 1], .tuple [.str (Str.ofString "sa"), .str (Str.ofString "va")], .list []]
abbrev odd15 : D := .tuple [.str (Str.ofString "tz"), .str (Str.ofString "ma"), .tuple [], .str (Str.ofString "pz"), .tuple []]
abbrev odd : List D := odd14 ++ [odd15]
def szB (L : Nat) : Nat → D → Bool
  | _, .none => true
  | _, .bool _ => true
  | _, .int _ => true
  | _, .str s => decide (s.length ≤ 1000) && s.cps.all (· < 0x110000)
  | 0, .list _ => false
  | 0, .tuple _ => false
  | k + 1, .list xs => decide (xs.length ≤ L) && xs.all fun x => szB L k x
  | k + 1, .tuple xs => decide (xs.length ≤ L) && xs.all fun x => szB L k x
  | _, .dict _ => false
theorem szB_ok {L : Nat} : ∀ {k : Nat} {d : D}, szB L k d = true → Sz L k d
  | k, .none, h => by simp [Sz]
  | k, .bool _, h => by simp [Sz]
  | k, .int _, h => by simp [Sz]
  | k, .str s, h => by
    cases k <;> (simp only [szB, Bool.and_eq_true, decide_eq_true_eq] at h; simp only [Sz]; exact h)
  | 0, .list _, h => by simp [szB] at h
  | 0, .tuple _, h => by simp [szB] at h
  | k + 1, .list xs, h => by
    simp only [szB, Bool.and_eq_true, decide_eq_true_eq, List.all_eq_true] at h
    simp only [Sz]
    exact ⟨h.1, fun x hx => szB_ok (h.2 x hx)⟩
  | k + 1, .tuple xs, h => by
    simp only [szB, Bool.and_eq_true, decide_eq_true_eq, List.all_eq_true] at h
    simp only [Sz]
    exact ⟨h.1, fun x hx => szB_ok (h.2 x hx)⟩
  | k, .dict _, h => by cases k <;> simp [szB] at h
theorem odd_sz : ∀ x ∈ odd, Sz 5 2 x := by
  have h : odd.all (fun x => szB 5 2 x) = true := by decide +kernel
  exact fun x hx => szB_ok (List.all_eq_true.mp h x hx)
end G

set_option linter.all false
set_option maxRecDepth 100000
set_option maxHeartbeats 2000000
namespace G
open PySem PySem.Spec L2 Pu
theorem sIx_k {n d k : Nat} (h : k ≤ n) : HT.sIx n d (some (k : Int)) = k := by rw [HT.sIx_nat]; omega
theorem cut_take {xs : List D} {k : Nat} (h : k ≤ xs.length) : cutD xs none (some (k : Int)) = xs.take k := by
  unfold cutD
  rw [HT.sIx_none, sIx_k h, List.drop_zero, Nat.sub_zero]
theorem cut_drop {xs : List D} {k : Nat} (h : k ≤ xs.length) : cutD xs (some (k : Int)) none = xs.drop k := by
  unfold cutD
  rw [HT.sIx_none, sIx_k h]
  exact List.take_of_length_le (by rw [List.length_drop]; exact Nat.le_refl _)
abbrev PS (t : List D) (m : D) (dp : Nat) (s3 s4 s5 s6 : Option C) : Rho := [some (.arg t), some (.d m), some (.d (.int dp)), s3, s4, s5, s6]
theorem sl_take {t : List D} {m : D} {dp : Nat} {s3 s4 s5 : Option C} {rest : List D} {k : Nat} {e : M R} (he : e (PS t m dp s3 s4 s5 (some (.own rest))) = some (.d (.int k), PS t m dp s3 s4 s5 (some (.own rest)))) (h : k ≤ rest.length) :
    sSl gSl (sVar 6) oNone (oSome e) (PS t m dp s3 s4 s5 (some (.own rest))) = some (.own (rest.take k), PS t m dp s3 s4 s5 (some (.own rest))) := by
  refine rSl (x := .list rest) rfl rfl (rOs he) rfl ?_
  show some (R.own (cutD rest none (some (k : Int)))) = _
  rw [cut_take h]
theorem sl_drop {t : List D} {m : D} {dp : Nat} {s3 s4 s5 : Option C} {rest : List D} {k : Nat} {e : M R} (he : e (PS t m dp s3 s4 s5 (some (.own rest))) = some (.d (.int k), PS t m dp s3 s4 s5 (some (.own rest)))) (h : k ≤ rest.length) :
    sSl gSl (sVar 6) (oSome e) oNone (PS t m dp s3 s4 s5 (some (.own rest))) = some (.own (rest.drop k), PS t m dp s3 s4 s5 (some (.own rest))) := by
  refine rSl (x := .list rest) rfl (rOs he) rfl rfl ?_
  show some (R.own (cutD rest (some (k : Int)) none)) = _
  rw [cut_drop h]
/-- what comes of spoiling -/
def Spoilt (L k : Nat) (c : C) (d : D) : Prop := (c = .d d ∨ ∃ xs, c = .own xs ∧ d = .list xs) ∧ Sz L k d
theorem spoilt_ok : ∀ (f : Nat) {n dp k : Nat} {t : List D} {m : D}, dp < f → T (n + 4 * (dp + 1)) t → Sz 100 k m →
    ∃ c d t', f_law_spoilt f [.arg t, .d m, .d (.int dp)] = some (c, [.arg t', .d m, .d (.int dp)]) ∧ Spoilt 101 (k + 3) c d ∧ T n t'
  | 0, n, dp, k, t, m, hf, _, _ => by omega
  | f + 1, n, dp, k, t, m, hf, hT, hm => by
    have a1 : zSet 3 (sLst (aCons (sC (.str (Str.ofString "pa"))) (aCons (sC (.str (Str.ofString "sa"))) (aCons (sC (.str (Str.ofString ""))) (aCons (sC (.str (Str.ofString "A"))) (aCons (sC .none) (aCons (sC (.int 0)) (aCons (sC (.int 1)) (aCons (sC (.int 2)) (aCons (sC (.bool true)) (aCons (sTup aNil) (aCons (sTup (aCons (sC (.str (Str.ofString "sa"))) aNil)) (aCons (sTup (aCons (sC (.str (Str.ofString "sa"))) (aCons (sC (.int 1)) aNil))) (aCons (sTup (aCons (sC (.str (Str.ofString "sa"))) (aCons (sC (.str (Str.ofString "va"))) aNil))) (aCons (sLst aNil) aNil)))))))))))))))
        (PS t m dp none none none none) = some (.nx (PS t m dp (some (.own odd14)) none none none)) := rfl
    have a2 : zDrop (sApp 3 (sTup (aCons (sC (.str (Str.ofString "tz"))) (aCons (sC (.str (Str.ofString "ma"))) (aCons (sTup aNil) (aCons (sC (.str (Str.ofString "pz"))) (aCons (sTup aNil) aNil)))))))
        (PS t m dp (some (.own odd14)) none none none) = some (.nx (PS t m dp (some (.own odd)) none none none)) := rDrop (rApp (xs := odd14) (y := odd15) rfl rfl rfl rfl rfl (show 14 < big by decide) rfl)
    -- the end by an odd thing
    have odds : ∀ {b : MS}, sOr (sTst (sOp gEq (sVar 2) (sC (.int 0)))) (sOr (sNot (sTru (sUn (gIsi2 "list" "tuple") (sVar 1)))) (sTst (sOp gEq (sCB gLenU (aCons (sVar 1) aNil)) (sC (.int 0))))) (PS t m dp (some (.own odd)) none none none) = some (true, PS t m dp (some (.own odd)) none none none) →
        ∃ c d t', f_law_spoilt (f + 1) [.arg t, .d m, .d (.int dp)] = some (c, [.arg t', .d m, .d (.int dp)]) ∧ Spoilt 101 (k + 3) c d ∧ T n t' := fun {b} hc => by
      obtain ⟨x, t', x1, x2, x3⟩ := of_sl (n := n) (j := 3) (xs := odd) (t := t) (ρ := PS t m dp (some (.own odd)) none none none) rfl rfl (hT.less (by omega)) (show 0 < 15 by decide) (show 15 < 1073741824 by decide)
      exact ⟨.d x, x, t', rFn (r := .d x) (ρ := PS t' m dp (some (.own odd)) none none none) rfl (rSeq a1 (rSeq a2 (rSeqR (rIfT hc (rRet x1))))) rfl rfl, ⟨.inl rfl, (odd_sz x x2).mono (by omega) (by omega)⟩, x3⟩
    have h0 : sTst (sOp gEq (sVar 2) (sC (.int 0))) (PS t m dp (some (.own odd)) none none none) = some ((dp : Int) == 0, PS t m dp (some (.own odd)) none none none) := rTst (rOpD rfl rfl (gEq_int _ _))
    cases hd : ((dp : Int) == 0) with
    | true =>
      rw [hd] at h0
      exact odds (b := zNext) (rOr (p := true) (q := false) h0 fun z => nomatch z)
    | false =>
      rw [hd] at h0
      have hdp : 0 < dp := by
        rcases Nat.eq_zero_or_pos dp with z | z
        · subst z; cases hd
        · exact z
      by_cases hseq : ∃ xs, (m = .list xs ∨ m = .tuple xs) ∧ xs ≠ []
      · obtain ⟨xs, hx, hne⟩ := hseq
        have hpos : 0 < xs.length := List.length_pos_iff.mpr hne
        obtain ⟨hl, j, rfl, hj⟩ := hm.seq hx
        have hlen : ∀ (t : List D) (s3 s4 s5 s6 : Option C), sCB gLenU (aCons (sVar 1) aNil) (PS t m dp s3 s4 s5 s6) = some (.d (.int xs.length), PS t m dp s3 s4 s5 s6) := fun _ _ _ _ _ => by
          rcases hx with rfl | rfl <;> exact rCB1 rfl rfl rfl
        have hlst : ∀ (t : List D) (s3 s4 s5 s6 : Option C), sCB gListU (aCons (sVar 1) aNil) (PS t m dp s3 s4 s5 s6) = some (.own xs, PS t m dp s3 s4 s5 s6) := fun _ _ _ _ _ => by
          rcases hx with rfl | rfl <;> exact rCB1 rfl rfl rfl
        have hc : sOr (sTst (sOp gEq (sVar 2) (sC (.int 0)))) (sOr (sNot (sTru (sUn (gIsi2 "list" "tuple") (sVar 1)))) (sTst (sOp gEq (sCB gLenU (aCons (sVar 1) aNil)) (sC (.int 0))))) (PS t m dp (some (.own odd)) none none none) = some (false, PS t m dp (some (.own odd)) none none none) := by
          refine rOr (p := false) (q := false) h0 fun _ => rOr (p := false) (q := false) (rNot (p := true) (by rcases hx with rfl | rfl <;> exact rTruB rfl)) fun _ => ?_
          have : ((xs.length : Int) == 0) = false := by rw [beq_eq_false_iff_ne]; omega
          rw [← this]
          exact rTst (rOpD (hlen _ _ _ _ _) rfl (gEq_int _ _))
        obtain ⟨way, t1, w1, w2, w3⟩ := take_at (n := n + 4 * dp + 3) (m := 7) (e := sC (.int 7)) (t := t) (ρ := PS t m dp (some (.own odd)) none none none) rfl rfl (hT.less (by omega)) (by decide) (by decide)
        obtain ⟨p, t2, p1, p2, p3⟩ := take_at (n := n + 4 * dp + 2) (m := xs.length) (e := sCB gLenU (aCons (sVar 1) aNil)) (t := t1) (ρ := PS t1 m dp (some (.own odd)) none none none) rfl (hlen _ _ _ _ _) w3 (by omega) (by omega)
        have hp : p < xs.length := by omega
        have a3 : zPar 4 5 (aCons (sCall f_law_take [true, true] (aCons (sVar 0) (aCons (sC (.int 7)) aNil))) (aCons (sCall f_law_take [true, true] (aCons (sVar 0) (aCons (sCB gLenU (aCons (sVar 1) aNil)) aNil))) aNil))
            (PS t m dp (some (.own odd)) none none none) = some (.nx (PS t2 m dp (some (.own odd)) (some (.d (.int way))) (some (.d (.int p))) none)) := rPar (rCons w1 (rCons p1 rfl)) rfl rfl
        have a4 : zSet 6 (sCB gListU (aCons (sVar 1) aNil)) (PS t2 m dp (some (.own odd)) (some (.d (.int way))) (some (.d (.int p))) none) = some (.nx (PS t2 m dp (some (.own odd)) (some (.d (.int way))) (some (.d (.int p))) (some (.own xs)))) := rSetOwn (hlst _ _ _ _ _) rfl
        have head : ∀ {o : Option Res} {b : MS}, b (PS t2 m dp (some (.own odd)) (some (.d (.int way))) (some (.d (.int p))) (some (.own xs))) = o →
          zSeq (zSet 3 (sLst (aCons (sC (.str (Str.ofString "pa"))) (aCons (sC (.str (Str.ofString "sa"))) (aCons (sC (.str (Str.ofString ""))) (aCons (sC (.str (Str.ofString "A"))) (aCons (sC .none) (aCons (sC (.int 0)) (aCons (sC (.int 1)) (aCons (sC (.int 2)) (aCons (sC (.bool true)) (aCons (sTup aNil) (aCons (sTup (aCons (sC (.str (Str.ofString "sa"))) aNil)) (aCons (sTup (aCons (sC (.str (Str.ofString "sa"))) (aCons (sC (.int 1)) aNil))) (aCons (sTup (aCons (sC (.str (Str.ofString "sa"))) (aCons (sC (.str (Str.ofString "va"))) aNil))) (aCons (sLst aNil) aNil))))))))))))))))
          (zSeq (zDrop (sApp 3 (sTup (aCons (sC (.str (Str.ofString "tz"))) (aCons (sC (.str (Str.ofString "ma"))) (aCons (sTup aNil) (aCons (sC (.str (Str.ofString "pz"))) (aCons (sTup aNil) aNil))))))))
          (zSeq (zIf (sOr (sTst (sOp gEq (sVar 2) (sC (.int 0)))) (sOr (sNot (sTru (sUn (gIsi2 "list" "tuple") (sVar 1)))) (sTst (sOp gEq (sCB gLenU (aCons (sVar 1) aNil)) (sC (.int 0)))))) (zRet (sCall f_law_of [true, true] (aCons (sVar 0) (aCons (sVar 3) aNil)))) zNext)
          (zSeq (zPar 4 5 (aCons (sCall f_law_take [true, true] (aCons (sVar 0) (aCons (sC (.int 7)) aNil))) (aCons (sCall f_law_take [true, true] (aCons (sVar 0) (aCons (sCB gLenU (aCons (sVar 1) aNil)) aNil))) aNil)))
          (zSeq (zSet 6 (sCB gListU (aCons (sVar 1) aNil))) b)))) (PS t m dp none none none none) = o := fun hb => rSeq a1 (rSeq a2 (rSeq (rIfF hc rfl) (rSeq a3 (rSeq a4 hb))))
        have tst : ∀ i : Int, sTst (sOp gEq (sVar 4) (sC (.int i))) (PS t2 m dp (some (.own odd)) (some (.d (.int way))) (some (.d (.int p))) (some (.own xs))) = some ((way : Int) == i, PS t2 m dp (some (.own odd)) (some (.d (.int way))) (some (.d (.int p))) (some (.own xs))) := fun i => rTst (rOpD rfl rfl (gEq_int _ _))
        have v5 : sVar 5 (PS t2 m dp (some (.own odd)) (some (.d (.int way))) (some (.d (.int p))) (some (.own xs))) = some (.d (.int p), PS t2 m dp (some (.own odd)) (some (.d (.int way))) (some (.d (.int p))) (some (.own xs))) := rfl
        have v51 : sOp gAddU (sVar 5) (sC (.int 1)) (PS t2 m dp (some (.own odd)) (some (.d (.int way))) (some (.d (.int p))) (some (.own xs))) = some (.d (.int ((p + 1 : Nat) : Int)), PS t2 m dp (some (.own odd)) (some (.d (.int way))) (some (.d (.int p))) (some (.own xs))) := rOpD rfl rfl rfl
        have big3 : xs.length + xs.length + 1 ≤ big := small_big (by omega)
        have tup : ∀ ys : List D, ys.length ≤ 101 → (∀ y ∈ ys, Sz 101 (j + 3) y) → Spoilt 101 (j + 1 + 3) (.d (.tuple ys)) (.tuple ys) := fun ys h1 h2 => ⟨.inl rfl, sz_tuple h1 h2⟩
        have hx3 : ∀ y ∈ xs, Sz 101 (j + 3) y := fun y hy => (hj y hy).mono (by omega) (by omega)
        have wcase : way = 0 ∨ way = 1 ∨ way = 2 ∨ way = 3 ∨ way = 4 ∨ way = 5 ∨ way = 6 := by omega
        rcases wcase with h | h | h | h | h | h
        · subst h
          exact ⟨.own xs, .list xs, t2, rFn (r := .own xs) rfl (head (rSeqR (rIfT (tst 0) (rRet (hlst _ _ _ _ _))))) rfl rfl, ⟨.inr ⟨xs, rfl, rfl⟩, sz_list (by omega) hx3⟩, p3.less (by omega)⟩
        · subst h
          exact ⟨.d (.tuple (xs.take p ++ xs.drop (p + 1))), _, t2, rFn (r := .d (.tuple (xs.take p ++ xs.drop (p + 1)))) rfl (head (rSeq (rIfF (tst 0) rfl) (rSeqR (rIfT (tst 1) (rRet (rCB1 (rOp (x := .list (xs.take p)) (y := .list (xs.drop (p + 1))) (sl_take v5 (by omega)) (sl_drop v51 (by omega)) rfl rfl (catL (by simp; omega))) rfl rfl)))))) rfl rfl,
            tup _ (by simp; omega) fun y hy => hx3 y ((List.mem_append.mp hy).elim (List.mem_of_mem_take) (List.mem_of_mem_drop)), p3.less (by omega)⟩
        · subst h
          exact ⟨.d (.tuple (xs.take (p + 1) ++ xs.drop p)), _, t2, rFn (r := .d (.tuple (xs.take (p + 1) ++ xs.drop p))) rfl (head (rSeq (rIfF (tst 0) rfl) (rSeq (rIfF (tst 1) rfl) (rSeqR (rIfT (tst 2) (rRet (rCB1 (rOp (x := .list (xs.take (p + 1))) (y := .list (xs.drop p)) (sl_take v51 (by omega)) (sl_drop v5 (by omega)) rfl rfl (catL (by simp; omega))) rfl rfl))))))) rfl rfl,
            tup _ (by simp; omega) fun y hy => hx3 y ((List.mem_append.mp hy).elim (List.mem_of_mem_take) (List.mem_of_mem_drop)), p3.less (by omega)⟩
        · subst h
          obtain ⟨x, t3, x1, x2, x3⟩ := of_sl (n := n) (j := 3) (xs := odd) (t := t2) (ρ := PS t2 m dp (some (.own odd)) (some (.d (.int (3 : Nat)))) (some (.d (.int p))) (some (.own xs))) rfl rfl (p3.less (by omega)) (show 0 < 15 by decide) (show 15 < 1073741824 by decide)
          exact ⟨.d (.tuple (xs.take p ++ [x] ++ xs.drop p)), _, t3, rFn (r := .d (.tuple (xs.take p ++ [x] ++ xs.drop p))) rfl (head (rSeq (rIfF (tst 0) rfl) (rSeq (rIfF (tst 1) rfl) (rSeq (rIfF (tst 2) rfl) (rSeqR (rIfT (tst 3) (rRet (rCB1 (rOp (x := .list (xs.take p ++ [x])) (y := .list (xs.drop p))
              (rOp (x := .list (xs.take p)) (y := .list [x]) (sl_take v5 (by omega)) (rLst (xs := [x]) (rCons x1 rfl) rfl (show 1 ≤ big by decide)) rfl rfl (catL (by simp; omega))) (sl_drop rfl (by omega)) rfl rfl (catL (by simp; omega))) rfl rfl)))))))) rfl rfl,
            tup _ (by simp; omega) fun y hy => (List.mem_append.mp hy).elim (fun h => (List.mem_append.mp h).elim (fun h => hx3 y (List.mem_of_mem_take h)) fun h => by rw [List.mem_singleton.mp h]; exact (odd_sz x x2).mono (by omega) (by omega)) fun h => hx3 y (List.mem_of_mem_drop h), x3⟩
        · subst h
          exact ⟨.d (.tuple xs.reverse), _, t2, rFn (r := .d (.tuple xs.reverse)) rfl (head (rSeq (rIfF (tst 0) rfl) (rSeq (rIfF (tst 1) rfl) (rSeq (rIfF (tst 2) rfl) (rSeq (rIfF (tst 3) rfl) (rSeqR (rIfT (tst 4) (rRet (rCB1 (r := .own xs.reverse) rfl rfl rfl))))))))) rfl rfl,
            tup _ (by simp; omega) fun y hy => hx3 y (List.mem_reverse.mp hy), p3.less (by omega)⟩
        · have hway : ∀ i : Int, 0 ≤ i → i ≤ 4 → ((way : Int) == i) = false := fun i h1 h2 => by rw [beq_eq_false_iff_ne]; omega
          obtain ⟨y, hy⟩ : ∃ y, xs[p]? = some y := ⟨xs[p], List.getElem?_eq_getElem hp⟩
          have hym := List.mem_of_getElem? hy
          obtain ⟨c, d, t3, c1, ⟨c2, c3⟩, c4⟩ := spoilt_ok f (n := n) (dp := dp - 1) (k := j) (t := t2) (m := y) (by omega) (p3.less (by omega)) (hj y hym)
          have hdi : ((dp - 1 : Nat) : Int) = (dp : Int) - 1 := by omega
          rw [hdi] at c1
          have g6 : sOp gIx (sVar 6) (sVar 5) (PS t2 m dp (some (.own odd)) (some (.d (.int way))) (some (.d (.int p))) (some (.own xs))) = some (.d y, PS t2 m dp (some (.own odd)) (some (.d (.int way))) (some (.d (.int p))) (some (.own xs))) :=
            rOp (x := .list xs) (y := .int p) rfl rfl rfl rfl (by show (atI xs p).map R.d = _; rw [Pu.atI_nat hy]; rfl)
          have call : sCall (f_law_spoilt f) [true, true, true] (aCons (sVar 0) (aCons (sOp gIx (sVar 6) (sVar 5)) (aCons (sOp gSubI (sVar 2) (sC (.int 1))) aNil))) (PS t2 m dp (some (.own odd)) (some (.d (.int way))) (some (.d (.int p))) (some (.own xs))) = some (resOf c, PS t3 m dp (some (.own odd)) (some (.d (.int way))) (some (.d (.int p))) (some (.own xs))) :=
            rCall (rs := [.sl 0, .d y, .d (.int ((dp : Int) - 1))]) (rs2 := [.sl 0, .d y, .d (.int ((dp : Int) - 1))]) (ρ2 := PS t2 m dp (some (.own odd)) (some (.d (.int way))) (some (.d (.int p))) (some (.own xs))) (rCons rfl (rCons g6 (rCons (rOpD rfl rfl rfl) rfl))) rfl (cs := [.arg t2, .d y, .d (.int ((dp : Int) - 1))]) rfl (by simp [slots]) c1 rfl rfl rfl
          have fzc : fz (PS t3 m dp (some (.own odd)) (some (.d (.int way))) (some (.d (.int p))) (some (.own xs))) (resOf c) = some (d, PS t3 m dp (some (.own odd)) (some (.d (.int way))) (some (.d (.int p))) (some (.own xs))) := by
            rcases c2 with rfl | ⟨zs, rfl, rfl⟩ <;> rfl
          have no : ∀ (i : Int) (a : MS), 0 ≤ i → i ≤ 4 → zIf (sTst (sOp gEq (sVar 4) (sC (.int i)))) a zNext (PS t2 m dp (some (.own odd)) (some (.d (.int way))) (some (.d (.int p))) (some (.own xs))) = some (.nx (PS t2 m dp (some (.own odd)) (some (.d (.int way))) (some (.d (.int p))) (some (.own xs)))) := fun i a h1 h2 => by
            have := tst i
            rw [hway i h1 h2] at this
            exact rIfF this rfl
          exact ⟨.d (.tuple (xs.set p d)), _, t3, rFn (r := .d (.tuple (xs.set p d))) rfl (head (rSeq (no 0 _ (by decide) (by decide)) (rSeq (no 1 _ (by decide) (by decide)) (rSeq (no 2 _ (by decide) (by decide)) (rSeq (no 3 _ (by decide) (by decide)) (rSeq (no 4 _ (by decide) (by decide))
              (rSeq (rPut (i := 6) (ρ1 := PS t3 m dp (some (.own odd)) (some (.d (.int way))) (some (.d (.int p))) (some (.own xs))) (ρ2 := PS t3 m dp (some (.own odd)) (some (.d (.int way))) (some (.d (.int p))) (some (.own xs))) (xs := xs) (xs' := xs) (y := d) (c := .own xs) (c' := .own xs) (rFz call fzc) rfl rfl rfl rfl rfl (ixN_nat hp) rfl)
              (rRet (rCB1 (x := .list (xs.set p d)) (t := .d (.tuple (xs.set p d))) rfl rfl rfl))))))))) rfl rfl,
            tup _ (by rw [List.length_set]; omega) fun z hz => (List.mem_or_eq_of_mem_set hz).elim (hx3 z) fun e => by rw [e]; exact c3, c4⟩
      · refine odds (b := zNext) ?_
        refine rOr (p := false) (q := true) h0 fun _ => ?_
        cases m with
        | dict z => cases k <;> simp [Sz] at hm
        | list xs =>
          have : xs = [] := Classical.byContradiction fun h => hseq ⟨xs, .inl rfl, h⟩
          subst this
          rfl
        | tuple xs =>
          have : xs = [] := Classical.byContradiction fun h => hseq ⟨xs, .inr rfl, h⟩
          subst this
          rfl
        | _ => rfl
end G

set_option linter.all false
set_option maxRecDepth 100000
set_option maxHeartbeats 4000000
namespace G
open PySem PySem.Spec L2 Pu
theorem hand_ok : f_law_hand_right [] = some (.d (.bool true), []) := by
  set_option maxRecDepth 1000000 in
  kernel_rfl
theorem same_bool (n : Nat) (b : Bool) : f_law_same (n + 1) [.d (.bool b), .d (.bool b)] = some (.d (.bool true), [.d (.bool b), .d (.bool b)]) := by
  cases b <;> rfl
theorem same_ok {bs : List Bool} (hl : bs.length ≤ 1000) : f_law_same 64 [.d (.list (bs.map .bool)), .d (.list (bs.map .bool))] = some (.d (.bool true), [.d (.list (bs.map .bool)), .d (.list (bs.map .bool))]) := by
  have hz : ∀ x ∈ zp (bs.map PyData.bool) (bs.map PyData.bool), ∃ b, x = .tuple [.bool b, .bool b] := fun x hx => by
    unfold zp at hx
    rw [List.zip_map', List.map_map] at hx
    obtain ⟨b, hb, rfl⟩ := List.mem_map.mp hx
    exact ⟨b, rfl⟩
  have hzl : (zp (bs.map PyData.bool) (bs.map PyData.bool)).length ≤ 1000 := by
    unfold zp
    rw [List.length_map, List.length_zip, List.length_map]
    omega
  have body : sCB gAll (aCons (sLc [2, 3] (iZp (aCons (sVar 0) (aCons (sVar 1) aNil))) (gT 2 (gsCons (gN 2) (gsCons (gN 3) gsNil))) (fun ρ => some (true, ρ)) (sCall (f_law_same 63) [false, false] (aCons (sVar 2) (aCons (sVar 3) aNil)))) aNil) (rho0 5 [.d (.list (bs.map .bool)), .d (.list (bs.map .bool))])
      = some (.d (.bool true), rho0 5 [.d (.list (bs.map .bool)), .d (.list (bs.map .bool))]) := by
    refine rCB1 (rLc (xs := zp (bs.map PyData.bool) (bs.map PyData.bool)) rfl (goLc_map (f := fun _ => .bool true) _ (small_big hzl) fun x hx => ?_)) rfl ((gAll_map (fun _ => true) _).trans (by simp))
    obtain ⟨b, rfl⟩ := hz x hx
    exact ⟨_, rfl, _, rFzD (rCall (rs := [.d (.bool b), .d (.bool b)]) (rs2 := [.d (.bool b), .d (.bool b)]) (cs := [.d (.bool b), .d (.bool b)]) (rCons rfl (rCons rfl rfl)) rfl rfl List.nodup_nil (same_bool 62 b) rfl rfl rfl), rfl⟩
  refine rFn (r := .d (.bool true)) (ρ := rho0 5 [.d (.list (bs.map .bool)), .d (.list (bs.map .bool))]) rfl (rSeqR (rIfT (rTruB rfl) (rSeq (rIfF (rOr (p := false) (q := false) (rTst rfl) fun _ => rTst rfl) rfl) (rRet (rAndV (p := true) (q := true) ?_ fun _ => body))))) rfl rfl
  refine rOpD (rCB1 rfl rfl rfl) (rCB1 rfl rfl rfl) ?_
  rw [gEq_int]
  simp
end G

set_option linter.all false
set_option maxRecDepth 100000
set_option maxHeartbeats 4000000
namespace G
open PySem PySem.Spec L2 Pu
/-- a result that reads as d, and may be a new list -/
def RSp (k : Nat) (r : R) (d : D) : Prop := (r = .d d ∨ ∃ xs, r = .own xs ∧ d = .list xs) ∧ Sz 101 k d
/-- a slot's content that does -/
def CSp (c : C) (d : D) : Prop := c = .d d ∨ ∃ xs, c = .own xs ∧ d = .list xs
theorem spoil_at {n k dp : Nat} {ρ ρ1 : Rho} {t0 t : List D} {m : D} {e : M R} (h0 : ρ[0]? = some (some (.arg t0))) (he : e ρ = some (.d m, ρ1)) (h1 : ρ1[0]? = some (some (.arg t))) (hd : dp ≤ 10) (hT : T (n + 44) t) (hm : Sz 100 k m) :
    ∃ r d t', sCall (f_law_spoilt 64) [true, true, true] (aCons (sVar 0) (aCons e (aCons (sC (.int dp)) aNil))) ρ = some (r, ρ1.set 0 (some (.arg t'))) ∧ RSp (k + 3) r d ∧ T n t' := by
  obtain ⟨c, d, t', e1, ⟨e2, e3⟩, e4⟩ := spoilt_ok 64 (n := n) (dp := dp) (t := t) (m := m) (by omega) (hT.less (by omega)) hm
  refine ⟨resOf c, d, t', rCall (rs := [.sl 0, .d m, .d (.int dp)]) (rs2 := [.sl 0, .d m, .d (.int dp)]) (ρ2 := ρ1) (rCons (var_arg h0) (rCons he rfl)) rfl (cs := [.arg t, .d m, .d (.int dp)]) ?_ (by simp [slots]) e1 rfl rfl ?_, ⟨?_, e3⟩, e4⟩
  · simp [csOf, cOf, h1]
  · simp [backs, h1, C.put]
  · rcases e2 with rfl | ⟨xs, rfl, rfl⟩
    · exact .inl rfl
    · exact .inr ⟨xs, rfl, rfl⟩
theorem set_sp {i k : Nat} {m : M R} {ρ ρ1 : Rho} {r : R} {d : D} {o : Option C} (h : m ρ = some (r, ρ1)) (hr : RSp k r d) (ho : ρ1[i]? = some o) (hn : nA o) : ∃ c, zSet i m ρ = some (.nx (ρ1.set i (some c))) ∧ CSp c d ∧ nA (some c) := by
  rcases hr.1 with rfl | ⟨xs, rfl, rfl⟩
  · exact ⟨.d d, rSet h rfl (setC_ok ho hn), .inl rfl, nA_d _⟩
  · exact ⟨.own xs, rSet h rfl (setC_ok ho hn), .inr ⟨xs, rfl, rfl⟩, fun _ z => nomatch z⟩
/-- a call that takes a slot for good -/
theorem call_sp {f : FnM} {i : Nat} {ρ : Rho} {c : C} {d y : D} (h : ρ[i]? = some (some c)) (hc : CSp c d) (e : f [.d d] = some (.d y, [.d d])) : sCall f [false] (aCons (sVar i) aNil) ρ = some (.d y, ρ.set i (some (.d d))) := by
  rcases hc with rfl | ⟨xs, rfl, rfl⟩
  · rw [set_same h]
    exact rCall1f (rVar h) rfl e
  · refine rCall1f (var_own h) ?_ e
    simp only [fz, h]
abbrev RS (t : List D) (s1 s2 s3 s4 s5 s6 s7 s8 s9 : Option C) : Rho := [some (.arg t), s1, s2, s3, s4, s5, s6, s7, s8, s9]
abbrev on2 : D := .tuple [.tuple [.str (Str.ofString "fa"), .int 1], .tuple [.str (Str.ofString "fb"), .int 0]]
theorem on2_sz : Sz 100 2 on2 := szB_ok (by decide +kernel)
theorem gt_int (i j : Int) : gGt (.int i) (.int j) = some (.d (.bool (decide (j < i)))) := rfl
/-- spoilt, or as it is -/
theorem maybe_sp {n k dp j : Nat} {ρ : Rho} {t : List D} {m : D} (h0 : ρ[0]? = some (some (.arg t))) (hj : ρ[j]? = some (some (.d m))) (jn : 0 ≠ j) (hd : dp ≤ 10) (hT : T (n + 45) t) (hm : Sz 100 k m) :
    ∃ r d t', sIf (sTst (sOp gGt (sCall f_law_take [true, true] (aCons (sVar 0) (aCons (sC (.int 3)) aNil))) (sC (.int 0)))) (sCall (f_law_spoilt 64) [true, true, true] (aCons (sVar 0) (aCons (sVar j) (aCons (sC (.int dp)) aNil)))) (sVar j) ρ = some (r, ρ.set 0 (some (.arg t'))) ∧ RSp (k + 3) r d ∧ T n t' := by
  obtain ⟨q, t1, a1, a2, a3⟩ := take_at (n := n + 44) (m := 3) (e := sC (.int 3)) (ρ := ρ) h0 rfl (hT.less (by omega)) (by decide) (by decide)
  have hl : 0 < ρ.length := by
    cases ρ with
    | nil => cases h0
    | cons _ _ => simp
  have h1 : (ρ.set 0 (some (.arg t1)))[0]? = some (some (.arg t1)) := by
    rw [List.getElem?_set_self hl]
  have hj1 : (ρ.set 0 (some (.arg t1)))[j]? = some (some (.d m)) := set_get hj jn
  have c := rTst (p := decide ((0 : Int) < q)) (rOpD (b := sC (.int 0)) a1 rfl (gt_int q 0))
  cases hq : decide ((0 : Int) < q) with
  | true =>
    rw [hq] at c
    obtain ⟨r, d, t', b1, b2, b3⟩ := spoil_at (n := n) (k := k) (dp := dp) (e := sVar j) h1 (rVar hj1) h1 hd a3 hm
    exact ⟨r, d, t', rIfE c (fun _ => by rw [b1, List.set_set]) (fun z => nomatch z), b2, b3⟩
  | false =>
    rw [hq] at c
    exact ⟨.d m, m, t1, rIfE c (fun z => nomatch z) (fun _ => rVar hj1), ⟨.inl rfl, hm.mono (by omega) (by omega)⟩, a3.less (by omega)⟩
abbrev rightB : MS := (zSeq (zSet 2 (sCall f_law_form [true, false, true] (aCons (sVar 0) (aCons (sC (.int 6)) (aCons (sTup (aCons (sC (.str (Str.ofString "fa"))) (aCons (sC (.str (Str.ofString "fb"))) aNil))) aNil)))))
    (zSeq (zSet 3 (sCall f_law_stock [true, false, true, true] (aCons (sVar 0) (aCons (sVar 2) (aCons (sTup aNil) (aCons (sLst (aCons (sC (.str (Str.ofString "va"))) (aCons (sC (.str (Str.ofString "vb"))) aNil))) aNil))))))
    (zSeq (zSet 4 (sIf (sTst (sOp gGt (sCall f_law_take [true, true] (aCons (sVar 0) (aCons (sC (.int 3)) aNil))) (sC (.int 0)))) (sCall (f_law_spoilt 64) [true, true, true] (aCons (sVar 0) (aCons (sVar 2) (aCons (sC (.int 4)) aNil)))) (sVar 2)))
    (zSeq (zSet 5 (sIf (sTst (sOp gGt (sCall f_law_take [true, true] (aCons (sVar 0) (aCons (sC (.int 3)) aNil))) (sC (.int 0)))) (sCall (f_law_spoilt 64) [true, true, true] (aCons (sVar 0) (aCons (sVar 3) (aCons (sC (.int 3)) aNil)))) (sVar 3)))
    (zSeq (zSet 6 (sCall (f_law_spoilt 64) [true, true, true] (aCons (sVar 0) (aCons (sCall f_law_of [true, true] (aCons (sVar 0) (aCons (sVar 2) aNil))) (aCons (sC (.int 3)) aNil)))))
    (zSeq (zSet 7 (sCall (f_law_spoilt 64) [true, true, true] (aCons (sVar 0) (aCons (sTup (aCons (sTup (aCons (sC (.str (Str.ofString "fa"))) (aCons (sC (.int 1)) aNil))) (aCons (sTup (aCons (sC (.str (Str.ofString "fb"))) (aCons (sC (.int 0)) aNil))) aNil))) (aCons (sC (.int 2)) aNil)))))
    (zSeq (zSet 8 (sLst (aCons (sCall f_is_plan [false] (aCons (sVar 4) aNil)) (aCons (sCall f_is_plan [false] (aCons (sVar 2) aNil)) (aCons (sCall f_is_counts [false] (aCons (sVar 5) aNil)) (aCons (sCall f_is_counts [false] (aCons (sVar 3) aNil)) (aCons (sCall f_is_step [false] (aCons (sVar 6) aNil)) aNil)))))))
    (zSeq (zDrop (sApp 8 (sCall f_is_condition [false] (aCons (sVar 7) aNil))))
    (zSeq (zSet 9 (sLst (aCons (sCall f_law_is_form [false] (aCons (sVar 4) aNil)) (aCons (sC (.bool true)) (aCons (sCall f_law_is_stock [false] (aCons (sVar 5) aNil)) (aCons (sC (.bool true)) (aCons (sCall f_law_is_bit [true] (aCons (sVar 6) aNil)) aNil)))))))
    (zSeq (zDrop (sApp 9 (sCall f_law_is_on [false] (aCons (sVar 7) aNil))))
    (zIf (sNot (sTru (sCall (f_law_same 64) [false, false] (aCons (sVar 8) (aCons (sVar 9) aNil))))) (zRet (sC (.bool false))) zNext)))))))))))
theorem right_turn {n : Nat} {t : List D} {s1 s2 s3 s4 s5 s6 s7 s8 s9 : Option C} (hT : T (n + 1000) t) (n2 : nA s2) (n3 : nA s3) (n4 : nA s4) (n5 : nA s5) (n6 : nA s6) (n7 : nA s7) (n8 : nA s8) (n9 : nA s9) :
    ∃ t' p2 p3 p4 p5 p6 p7 p8 p9, rightB (RS t s1 s2 s3 s4 s5 s6 s7 s8 s9) = some (.nx (RS t' s1 p2 p3 p4 p5 p6 p7 p8 p9)) ∧ T n t' ∧ nA p2 ∧ nA p3 ∧ nA p4 ∧ nA p5 ∧ nA p6 ∧ nA p7 ∧ nA p8 ∧ nA p9 := by
  obtain ⟨ss, t1, a1, a2, a3, a4, a5, a6, a7⟩ := form_ok (n := n + 700) (hT.less (by omega))
  have ssz : Sz 100 4 (.tuple ss) := sz_tuple (by omega) fun s hs => by
    obtain ⟨nm, h⟩ := a7 s hs
    exact step_sz h
  obtain ⟨xs, t2, b1, b2, b3, b4, b5, b6⟩ := stock_ok (n := n + 600) (t := t1) (ss := ss) (a2.less (by omega)) a7 a6
  have xsz : Sz 100 2 (.tuple xs) := sz_tuple (by omega) fun x hx => by
    obtain ⟨a, b, rfl, ha, hb⟩ := b6 x hx
    refine sz_tuple (by simp) fun y hy => ?_
    simp at hy
    rcases hy with rfl | rfl
    · exact sz_atom ha.2
    · exact sz_atom hb.2
  have c1 : zSet 2 (sCall f_law_form [true, false, true] (aCons (sVar 0) (aCons (sC (.int 6)) (aCons (sTup (aCons (sC (.str (Str.ofString "fa"))) (aCons (sC (.str (Str.ofString "fb"))) aNil))) aNil)))) (RS t s1 s2 s3 s4 s5 s6 s7 s8 s9) = some (.nx (RS t1 s1 (some (.d (.tuple ss))) s3 s4 s5 s6 s7 s8 s9)) :=
    rSet (rCall (rs := [.sl 0, .d (.int 6), .d (.tuple fl2)]) (rs2 := [.sl 0, .d (.int 6), .d (.tuple fl2)]) (ρ2 := RS t s1 s2 s3 s4 s5 s6 s7 s8 s9) rfl rfl (cs := [.arg t, .d (.int 6), .d (.tuple fl2)]) rfl (by simp [slots]) a1 rfl rfl rfl) rfl (setC_ok rfl n2)
  have c2 : zSet 3 (sCall f_law_stock [true, false, true, true] (aCons (sVar 0) (aCons (sVar 2) (aCons (sTup aNil) (aCons (sLst (aCons (sC (.str (Str.ofString "va"))) (aCons (sC (.str (Str.ofString "vb"))) aNil))) aNil))))) (RS t1 s1 (some (.d (.tuple ss))) s3 s4 s5 s6 s7 s8 s9) = some (.nx (RS t2 s1 (some (.d (.tuple ss))) (some (.d (.tuple xs))) s4 s5 s6 s7 s8 s9)) :=
    rSet (rCall (rs := [.sl 0, .d (.tuple ss), .d (.tuple []), .own marks2]) (rs2 := [.sl 0, .d (.tuple ss), .d (.tuple []), .own marks2]) (ρ2 := RS t1 s1 (some (.d (.tuple ss))) s3 s4 s5 s6 s7 s8 s9) rfl rfl (cs := [.arg t1, .d (.tuple ss), .d (.tuple []), .arg marks2]) rfl (by simp [slots]) b1 rfl rfl rfl) rfl (setC_ok rfl n3)
  obtain ⟨r4, d4, t3, e1, e2, e3⟩ := maybe_sp (n := n + 500) (k := 4) (dp := 4) (j := 2) (ρ := RS t2 s1 (some (.d (.tuple ss))) (some (.d (.tuple xs))) s4 s5 s6 s7 s8 s9) rfl rfl (by decide) (by decide) (b2.less (by omega)) ssz
  obtain ⟨q4, c3, g4, m4⟩ := set_sp (i := 4) (o := s4) e1 e2 rfl n4
  obtain ⟨r5, d5, t4, f1, f2, f3⟩ := maybe_sp (n := n + 400) (k := 2) (dp := 3) (j := 3) (ρ := RS t3 s1 (some (.d (.tuple ss))) (some (.d (.tuple xs))) (some q4) s5 s6 s7 s8 s9) rfl rfl (by decide) (by decide) (e3.less (by omega)) xsz
  obtain ⟨q5, c4, g5, m5⟩ := set_sp (i := 5) (o := s5) f1 f2 rfl n5
  obtain ⟨st, t5, h1, h2, h3⟩ := of_new (n := n + 390) (ρ := RS t4 s1 (some (.d (.tuple ss))) (some (.d (.tuple xs))) (some q4) (some q5) s6 s7 s8 s9) (t := t4) (xs := ss) (e := sVar 2) rfl rfl (.inr (.inl rfl)) (f3.less (by omega)) a5 (by omega)
  have stz : Sz 100 3 st := by
    obtain ⟨nm, h⟩ := a7 st h2
    exact step_sz h
  obtain ⟨r6, d6, t6, i1, i2, i3⟩ := spoil_at (n := n + 300) (k := 3) (dp := 3) (ρ := RS t4 s1 (some (.d (.tuple ss))) (some (.d (.tuple xs))) (some q4) (some q5) s6 s7 s8 s9) (t := t5) (m := st) rfl h1 rfl (by decide) (h3.less (by omega)) stz
  obtain ⟨q6, c5, g6, m6⟩ := set_sp (i := 6) (o := s6) i1 i2 rfl n6
  obtain ⟨r7, d7, t7, j1, j2, j3⟩ := spoil_at (n := n + 200) (k := 2) (dp := 2) (ρ := RS t6 s1 (some (.d (.tuple ss))) (some (.d (.tuple xs))) (some q4) (some q5) (some q6) s7 s8 s9) (t := t6) (m := on2) (e := sTup (aCons (sTup (aCons (sC (.str (Str.ofString "fa"))) (aCons (sC (.int 1)) aNil))) (aCons (sTup (aCons (sC (.str (Str.ofString "fb"))) (aCons (sC (.int 0)) aNil))) aNil))) rfl rfl rfl (by decide) (i3.less (by omega)) on2_sz
  obtain ⟨q7, c6, g7, m7⟩ := set_sp (i := 7) (o := s7) j1 j2 rfl n7
  have z4 : Fine 7 d4 := e2.2.fine (by omega)
  have z5 : Fine 5 d5 := f2.2.fine (by omega)
  have z6 : Fine 6 d6 := i2.2.fine (by omega)
  have z7 : Fine 5 d7 := j2.2.fine (by omega)
  have c7 : zSet 8 (sLst (aCons (sCall f_is_plan [false] (aCons (sVar 4) aNil)) (aCons (sCall f_is_plan [false] (aCons (sVar 2) aNil)) (aCons (sCall f_is_counts [false] (aCons (sVar 5) aNil)) (aCons (sCall f_is_counts [false] (aCons (sVar 3) aNil)) (aCons (sCall f_is_step [false] (aCons (sVar 6) aNil)) aNil))))))
      (RS t7 s1 (some (.d (.tuple ss))) (some (.d (.tuple xs))) (some q4) (some q5) (some q6) (some q7) s8 s9)
      = some (.nx (RS t7 s1 (some (.d (.tuple ss))) (some (.d (.tuple xs))) (some (.d d4)) (some (.d d5)) (some (.d d6)) (some q7) (some (.own [.bool (planB d4), .bool true, .bool (countsB d5), .bool true, .bool (stepB d6)])) s9)) := by
    refine rSetOwn (rLst (xs := [.bool (planB d4), .bool true, .bool (countsB d5), .bool true, .bool (stepB d6)]) (rCons (call_sp (i := 4) (c := q4) (d := d4) rfl g4 (plan_eq d4 z4)) (rCons (call_sp (i := 2) (c := .d (.tuple ss)) (d := .tuple ss) rfl (.inl rfl) (by rw [plan_eq _ a4, a3])) (rCons (call_sp (i := 5) (c := q5) (d := d5) rfl g5 (counts_eq d5 z5)) (rCons (call_sp (i := 3) (c := .d (.tuple xs)) (d := .tuple xs) rfl (.inl rfl) (by rw [counts_eq _ b4, b3])) (rCons (call_sp (i := 6) (c := q6) (d := d6) rfl g6 (step_eq d6 z6)) rfl))))) rfl (show 5 ≤ big by decide)) (setC_ok rfl n8)
  have c8 : zDrop (sApp 8 (sCall f_is_condition [false] (aCons (sVar 7) aNil))) (RS t7 s1 (some (.d (.tuple ss))) (some (.d (.tuple xs))) (some (.d d4)) (some (.d d5)) (some (.d d6)) (some q7) (some (.own [.bool (planB d4), .bool true, .bool (countsB d5), .bool true, .bool (stepB d6)])) s9)
      = some (.nx (RS t7 s1 (some (.d (.tuple ss))) (some (.d (.tuple xs))) (some (.d d4)) (some (.d d5)) (some (.d d6)) (some (.d d7)) (some (.own [.bool (planB d4), .bool true, .bool (countsB d5), .bool true, .bool (stepB d6), .bool (condB d7)])) s9)) :=
    rDrop (rApp (xs := [.bool (planB d4), .bool true, .bool (countsB d5), .bool true, .bool (stepB d6)]) (y := .bool (condB d7)) rfl rfl (rFz (call_sp (i := 7) (c := q7) (d := d7) rfl g7 (cond_eq d7 z7)) rfl) rfl rfl (show 5 < big by decide) rfl)
  have c9 : zSet 9 (sLst (aCons (sCall f_law_is_form [false] (aCons (sVar 4) aNil)) (aCons (sC (.bool true)) (aCons (sCall f_law_is_stock [false] (aCons (sVar 5) aNil)) (aCons (sC (.bool true)) (aCons (sCall f_law_is_bit [true] (aCons (sVar 6) aNil)) aNil))))))
      (RS t7 s1 (some (.d (.tuple ss))) (some (.d (.tuple xs))) (some (.d d4)) (some (.d d5)) (some (.d d6)) (some (.d d7)) (some (.own [.bool (planB d4), .bool true, .bool (countsB d5), .bool true, .bool (stepB d6), .bool (condB d7)])) s9)
      = some (.nx (RS t7 s1 (some (.d (.tuple ss))) (some (.d (.tuple xs))) (some (.d d4)) (some (.d d5)) (some (.d d6)) (some (.d d7)) (some (.own [.bool (planB d4), .bool true, .bool (countsB d5), .bool true, .bool (stepB d6), .bool (condB d7)])) (some (.own [.bool (planB d4), .bool true, .bool (countsB d5), .bool true, .bool (stepB d6)])))) := by
    refine rSetOwn (rLst (xs := [.bool (planB d4), .bool true, .bool (countsB d5), .bool true, .bool (stepB d6)]) (rCons (rCall1f rfl rfl (form_eq d4 z4 (by omega))) (rCons rfl (rCons (rCall1f rfl rfl (stock_eq d5 z5 (by omega))) (rCons rfl (rCons (rCall1 rfl (bit_eq d6 z6 (by omega))) rfl))))) rfl (show 5 ≤ big by decide)) (setC_ok rfl n9)
  have c10 : zDrop (sApp 9 (sCall f_law_is_on [false] (aCons (sVar 7) aNil))) (RS t7 s1 (some (.d (.tuple ss))) (some (.d (.tuple xs))) (some (.d d4)) (some (.d d5)) (some (.d d6)) (some (.d d7)) (some (.own [.bool (planB d4), .bool true, .bool (countsB d5), .bool true, .bool (stepB d6), .bool (condB d7)])) (some (.own [.bool (planB d4), .bool true, .bool (countsB d5), .bool true, .bool (stepB d6)])))
      = some (.nx (RS t7 s1 (some (.d (.tuple ss))) (some (.d (.tuple xs))) (some (.d d4)) (some (.d d5)) (some (.d d6)) (some (.d d7)) (some (.own [.bool (planB d4), .bool true, .bool (countsB d5), .bool true, .bool (stepB d6), .bool (condB d7)])) (some (.own [.bool (planB d4), .bool true, .bool (countsB d5), .bool true, .bool (stepB d6), .bool (condB d7)])))) :=
    rDrop (rApp (xs := [.bool (planB d4), .bool true, .bool (countsB d5), .bool true, .bool (stepB d6)]) (y := .bool (condB d7)) rfl rfl (rFzD (rCall1f rfl rfl (on_eq d7 z7 (by omega)))) rfl rfl (show 5 < big by decide) rfl)
  have same := same_ok (bs := [planB d4, true, countsB d5, true, stepB d6, condB d7]) (show 6 ≤ 1000 by decide)
  exact ⟨t7, _, _, _, _, _, _, _, _, rSeq c1 (rSeq c2 (rSeq c3 (rSeq c4 (rSeq c5 (rSeq c6 (rSeq c7 (rSeq c8 (rSeq c9 (rSeq c10 (rIfF (rNot (p := true) (rTruB (rCall (rs := [.sl 8, .sl 9]) (rs2 := [.d (.list [.bool (planB d4), .bool true, .bool (countsB d5), .bool true, .bool (stepB d6), .bool (condB d7)]), .d (.list [.bool (planB d4), .bool true, .bool (countsB d5), .bool true, .bool (stepB d6), .bool (condB d7)])])
      rfl rfl (cs := [.d (.list [.bool (planB d4), .bool true, .bool (countsB d5), .bool true, .bool (stepB d6), .bool (condB d7)]), .d (.list [.bool (planB d4), .bool true, .bool (countsB d5), .bool true, .bool (stepB d6), .bool (condB d7)])]) rfl (by simp [slots]) same rfl rfl rfl))) rfl)))))))))),
    j3.less (by omega), nA_d _, nA_d _, nA_d _, nA_d _, nA_d _, nA_d _, nA_d _, nA_d _⟩
end G

set_option linter.all false
set_option maxRecDepth 100000
set_option maxHeartbeats 4000000
namespace G
open PySem PySem.Spec L2 Pu
theorem right_ok {t : List D} (hT : T 6000 t) : ∃ t', f_law_right [.arg t] = some (.d (.bool true), [.arg t']) := by
  obtain ⟨ρ', f1, f2⟩ := goFor_inv (g := gN 1) (b := rightB) (fun k ρ => ∃ t s1 s2 s3 s4 s5 s6 s7 s8 s9, ρ = RS t s1 s2 s3 s4 s5 s6 s7 s8 s9 ∧ T ((6 - k) * 1000) t ∧ nA s1 ∧ nA s2 ∧ nA s3 ∧ nA s4 ∧ nA s5 ∧ nA s6 ∧ nA s7 ∧ nA s8 ∧ nA s9)
    (rng 0 6) 0 (RS t none none none none none none none none none) ⟨t, _, _, _, _, _, _, _, _, _, rfl, hT, nA_none, nA_none, nA_none, nA_none, nA_none, nA_none, nA_none, nA_none, nA_none⟩ (fun k x hx ρ hρ => by
      rw [Nat.zero_add] at hρ ⊢
      obtain ⟨rfl, hk⟩ := rng_get hx
      obtain ⟨t, s1, s2, s3, s4, s5, s6, s7, s8, s9, rfl, hT, n1, n2, n3, n4, n5, n6, n7, n8, n9⟩ := hρ
      obtain ⟨t', p2, p3, p4, p5, p6, p7, p8, p9, e, hT', m2, m3, m4, m5, m6, m7, m8, m9⟩ := right_turn (n := (6 - (k + 1)) * 1000) (t := t) (s1 := some (.d (.int k))) (hT.less (by omega)) n2 n3 n4 n5 n6 n7 n8 n9
      exact ⟨_, setC_ok rfl n1, _, e, t', _, p2, p3, p4, p5, p6, p7, p8, p9, rfl, hT', nA_d _, m2, m3, m4, m5, m6, m7, m8, m9⟩)
  obtain ⟨t', s1, s2, s3, s4, s5, s6, s7, s8, s9, rfl, _⟩ := f2
  exact ⟨t', rFn (r := .d (.bool true)) (ρ := RS t' s1 s2 s3 s4 s5 s6 s7 s8 s9) rfl (rSeq (rFor (xs := rng 0 6) (iR1_ok (n := 6) rfl (by decide)) f1) (rRet rfl)) rfl rfl⟩
theorem box_ok {cells : List D} {k : Nat} {x : Int} (hx : cells[k]? = some (.int x)) (hl : cells.length ≤ 1000) : ∃ t, f_law_box [.arg cells, .d (.int k)] = some (.own t, [.arg cells, .d (.int k)]) ∧ T 6000 t := by
  have hk : k < cells.length := by
    rcases Nat.lt_or_ge k cells.length with w | w
    · exact w
    · rw [List.getElem?_eq_none w] at hx; cases hx
  obtain ⟨A, hA, hA0⟩ : ∃ A : Int, gAbs [.int x] = some (.d (.int A)) ∧ 0 ≤ A := ⟨if x < 0 then -x else x, rfl, by split <;> omega⟩
  obtain ⟨b, hb1, hb⟩ : ∃ b : Int, gInt [.bool (decide ((10 : Int) ^ 18 ≤ A))] = some (.d (.int b)) ∧ (b = 0 ∨ b = 1) := by
    cases decide ((10 : Int) ^ 18 ≤ A)
    · exact ⟨0, rfl, .inl rfl⟩
    · exact ⟨1, rfl, .inr rfl⟩
  have c0 : sTst (sOp gLtU (sVar 1) (sCB gLenU (aCons (sVar 0) aNil))) (rho0 3 [.arg cells, .d (.int k)]) = some (true, rho0 3 [.arg cells, .d (.int k)]) := by
    refine rTst (rOpD rfl (rCB1 rfl rfl rfl) ?_)
    rw [ltU_int, decide_eq_true (by omega)]
  have c1 : zSet 2 (sIf (sTst (sOp gLtU (sVar 1) (sCB gLenU (aCons (sVar 0) aNil)))) (sOp gIx (sVar 0) (sVar 1)) (sC (.int 0))) (rho0 3 [.arg cells, .d (.int k)]) = some (.nx [some (.arg cells), some (.d (.int k)), some (.d (.int x))]) :=
    rSet (rIfE c0 (fun _ => rOp (x := .list cells) (y := .int k) rfl rfl rfl rfl (by show (atI cells k).map R.d = _; rw [Pu.atI_nat hx]; rfl)) (fun z => nomatch z)) rfl rfl
  refine ⟨[.int (A * b), .int (x % 2305843009213693951 + 39373 * (k : Int) + 831), .int 0], rFn (r := .own [.int (A * b), .int (x % 2305843009213693951 + 39373 * (k : Int) + 831), .int 0]) (ρ := [some (.arg cells), some (.d (.int k)), some (.d (.int x))]) rfl
    (rSeq c1 (rRet (rLst (xs := [.int (A * b), .int (x % 2305843009213693951 + 39373 * (k : Int) + 831), .int 0]) (rCons (rOpD (x := .int A) (y := .int b) (rCB1 rfl rfl hA) (rCB1 (x := .bool (decide ((10 : Int) ^ 18 ≤ A))) (rOpD (x := .int A) (y := .int ((10 : Int) ^ 18)) (rCB1 rfl rfl hA) (rOpD rfl rfl rfl) rfl) rfl hb1) (mulR (by omega)))
      (rCons (rOpD (x := .int (x % 2305843009213693951 + 39373 * (k : Int))) (rOpD (x := .int (x % 2305843009213693951)) (y := .int (39373 * (k : Int))) (rOpD (x := .int x) (rCB1 rfl rfl rfl) rfl (modI (by omega))) (rOpD rfl rfl (mulL (by omega))) rfl) rfl rfl) (rCons rfl rfl))) rfl (show 3 ≤ big by decide)))) rfl rfl, ⟨_, _, _, rfl, ?_, Int.le_refl _, by omega⟩⟩
  rcases hb with h | h <;> rw [h] <;> omega
theorem gT2 {i j : Nat} {a b : D} {ρ ρ1 ρ2 : Rho} (h : setC i (.d a) ρ = some ρ1) (h2 : setC j (.d b) ρ1 = some ρ2) : gT 2 (gsCons (gN i) (gsCons (gN j) gsNil)) (.tuple [a, b]) ρ = some ρ2 := by
  simp [gT, gsCons, gsNil, gN, h, h2]
theorem cut_mem {xs : List D} {lo hi : Option Int} {x : D} (h : x ∈ cutD xs lo hi) : x ∈ xs := by
  unfold cutD at h
  exact List.mem_of_mem_drop (List.mem_of_mem_take h)
theorem cut3 (xs : List D) : cutD xs none (some 3) = xs.take 3 := by
  unfold cutD
  rw [HT.sIx_none, List.drop_zero, Nat.sub_zero, show HT.sIx xs.length xs.length (some 3) = min 3 xs.length from HT.sIx_nat _ _ 3]
  rcases Nat.le_total 3 xs.length with h | h
  · rw [Nat.min_eq_left h]
  · rw [Nat.min_eq_right h, List.take_of_length_le (Nat.le_refl _), List.take_of_length_le h]
theorem cut363 (xs : List D) (h : xs.length ≤ 3) : cutD xs (some 3) (some 63) = [] := by
  unfold cutD
  rw [show HT.sIx xs.length 0 (some 3) = min 3 xs.length from HT.sIx_nat _ _ 3, Nat.min_eq_right h, List.drop_length]
  simp
theorem rEn {m : M R} {ρ ρ1 : Rho} {xs : List D} (h : m ρ = some (.own xs, ρ1)) : iEn m ρ = some (enm xs, ρ1) := by
  unfold iEn sFz
  rw [h]
  rfl
theorem cells_ok (ns : List Int) (hns : ns.length ≤ 63) : ∃ cs : List Int, f_law_cells [.d (.list (ns.map .int)), .d (.int 3)] = some (.own (cs.map .int), [.d (.list (ns.map .int)), .d (.int 3)]) ∧ cs.length ≤ 3 := by
  obtain ⟨c0, h0, h1, h2⟩ : ∃ c0 : List Int, zSet 2 (sOrV (sCB gListU (aCons (sSl gSl (sVar 0) oNone (oSome (sVar 1))) aNil)) (sLst (aCons (sC (.int 0)) aNil))) (rho0 6 [.d (.list (ns.map .int)), .d (.int 3)])
      = some (.nx [some (.d (.list (ns.map .int))), some (.d (.int 3)), some (.own (c0.map .int)), none, none, none]) ∧ c0.length ≤ 3 ∧ (3 < ns.length → c0.length = 3) := by
    cases ns with
    | nil => exact ⟨[0], rfl, by decide, fun h => by simp at h⟩
    | cons a r =>
      refine ⟨(a :: r).take 3, ?_, by rw [List.length_take]; omega, fun h => by rw [List.length_take]; omega⟩
      have : sSl gSl (sVar 0) oNone (oSome (sVar 1)) (rho0 6 [.d (.list ((a :: r).map .int)), .d (.int 3)]) = some (.own (((a :: r).take 3).map .int), rho0 6 [.d (.list ((a :: r).map .int)), .d (.int 3)]) := by
        refine rSl (x := .list ((a :: r).map .int)) rfl rfl (rOs rfl) rfl ?_
        show some (R.own (cutD ((a :: r).map .int) none (some 3))) = _
        rw [cut3, List.map_take]
      have hl : sCB gListU (aCons (sSl gSl (sVar 0) oNone (oSome (sVar 1))) aNil) (rho0 6 [.d (.list ((a :: r).map .int)), .d (.int 3)]) = some (.own (((a :: r).take 3).map .int), rho0 6 [.d (.list ((a :: r).map .int)), .d (.int 3)]) := rCB1 this rfl rfl
      refine rSetOwn (ρ1 := rho0 6 [.d (.list ((a :: r).map .int)), .d (.int 3)]) (xs := ((a :: r).take 3).map .int) ?_ rfl
      unfold sOrV
      rw [hl]
      rfl
  have hmem : ∀ y ∈ cutD (ns.map .int) (some 3) (some 63), ∃ g : Int, y = .int g := fun y hy => by
    obtain ⟨g, hg, rfl⟩ := List.mem_map.mp (cut_mem hy)
    exact ⟨g, rfl⟩
  obtain ⟨ρ', f1, f2⟩ := goFor_inv (g := gT 2 (gsCons (gN 3) (gsCons (gN 4) gsNil))) (b := zSeq (zSet 5 (sOp gMod (sCB gInt (aCons (sVar 3) aNil)) (sVar 1))) (zPut 2 (sVar 5) (sOp gAddU (sOp gIx (sVar 2) (sVar 5)) (sOp gMulU (sVar 4) (sOp gAddU (sVar 3) (sC (.int 2)))))))
    (fun k ρ => ∃ (cs : List Int) (o3 o4 o5 : Option C), ρ = [some (.d (.list (ns.map .int))), some (.d (.int 3)), some (.own (cs.map .int)), o3, o4, o5] ∧ nA o3 ∧ nA o4 ∧ nA o5 ∧ cs.length = c0.length) (enm (cutD (ns.map .int) (some 3) (some 63))) 0
    [some (.d (.list (ns.map .int))), some (.d (.int 3)), some (.own (c0.map .int)), none, none, none] ⟨c0, none, none, none, rfl, nA_none, nA_none, nA_none, rfl⟩ (fun k x hx ρ hρ => by
      obtain ⟨cs, o3, o4, o5, rfl, n3, n4, n5, hl⟩ := hρ
      obtain ⟨y, hy, rfl⟩ := enm_get hx
      obtain ⟨g, rfl⟩ := hmem y (List.mem_of_getElem? hy)
      have h3 : 3 < ns.length := by
        rcases Nat.lt_or_ge 3 ns.length with w | w
        · exact w
        · rw [cut363 _ (by rw [List.length_map]; exact w)] at hy; cases hy
      have hk : k < 1000 := by
        have h1 : k < (cutD (ns.map PyData.int) (some 3) (some 63)).length := by
          rcases Nat.lt_or_ge k (cutD (ns.map PyData.int) (some 3) (some 63)).length with w | w
          · exact w
          · rw [List.getElem?_eq_none w] at hy; cases hy
        have h2 : (cutD (ns.map PyData.int) (some 3) (some 63)).length ≤ ns.length := by
          unfold cutD
          rw [List.length_take, List.length_drop, List.length_map]
          omega
        omega
      have hc3 : cs.length = 3 := by rw [hl]; exact h2 h3
      obtain ⟨at_, hat, hat3⟩ : ∃ a : Nat, (k : Int) % 3 = a ∧ a < 3 := ⟨k % 3, by omega, by omega⟩
      obtain ⟨c, hc⟩ : ∃ c, cs[at_]? = some c := ⟨cs[at_]'(by omega), List.getElem?_eq_getElem (by omega)⟩
      refine ⟨_, gT2 (setC_ok rfl n3) (setC_ok rfl n4), _, rSeq (ρ1 := [some (.d (.list (ns.map .int))), some (.d (.int 3)), some (.own (cs.map .int)), some (.d (.int k)), some (.d (.int g)), some (.d (.int at_))]) (rSet (rOpD (x := .int k) (y := .int 3) (t := .d (.int at_)) (rCB1 rfl rfl rfl) rfl (by rw [modI (by omega), hat])) rfl (setC_ok rfl n5))
        (rPut (y := .int (c + g * (k + 2))) (c := .own (cs.map .int)) (c' := .own (cs.map .int)) (xs := cs.map .int) (xs' := cs.map .int) (n := at_) (k := at_) (rFzD (rOpD (x := .int c) (y := .int (g * (k + 2)))
          (rOp (x := .list (cs.map .int)) (y := .int at_) rfl rfl rfl rfl (by show (atI (cs.map PyData.int) at_).map R.d = _; rw [Pu.atI_nat (x := .int c) (by rw [List.getElem?_map, hc]; rfl)]; rfl)) (rOpD (x := .int g) (y := .int (k + 2)) rfl (rOpD rfl rfl rfl) (mulR (by omega))) rfl)) rfl rfl rfl rfl rfl (ixN_nat (by rw [List.length_map]; omega)) rfl),
        cs.set at_ (c + g * (k + 2)), some (.d (.int k)), some (.d (.int g)), some (.d (.int at_)), ?_, nA_d _, nA_d _, nA_d _, by rw [List.length_set]; exact hl⟩
      rw [List.map_set]
      rfl)
  obtain ⟨cs, o3, o4, o5, rfl, _, _, _, hl⟩ := f2
  refine ⟨cs, rFn (r := .sl 2) (ρ := [some (.d (.list (ns.map .int))), some (.d (.int 3)), some (.own (cs.map .int)), o3, o4, o5]) rfl (rSeq h0 (rSeq (rFor (rEn (ρ1 := [some (.d (.list (ns.map .int))), some (.d (.int 3)), some (.own (c0.map .int)), none, none, none]) (rSl (x := .list (ns.map .int)) (lo := some 3) (hi := some 63) rfl (rOs rfl) (rOs rfl) rfl rfl)) f1) (rRet rfl))) rfl rfl, by omega⟩
theorem law_true (ns : List Int) (hl : ns.length ≤ 63) : f_law [.d (.list (ns.map .int))] = some (.d (.bool true), [.d (.list (ns.map .int))]) := by
  obtain ⟨cs, c1, c2⟩ := cells_ok ns hl
  have a1 : sNot (sTru (sCall f_law_hand_right [] aNil)) (rho0 3 [.d (.list (ns.map .int))]) = some (false, rho0 3 [.d (.list (ns.map .int))]) :=
    rNot (p := true) (rTruB (rCall (rs := []) (rs2 := []) (cs := []) rfl rfl rfl List.nodup_nil hand_ok rfl rfl rfl))
  have a2 : zSet 1 (sCall f_law_cells [true, false] (aCons (sVar 0) (aCons (sC (.int 3)) aNil))) (rho0 3 [.d (.list (ns.map .int))]) = some (.nx [some (.d (.list (ns.map .int))), some (.own (cs.map .int)), none]) :=
    rSetOwn (rCall (rs := [.d (.list (ns.map .int)), .d (.int 3)]) (rs2 := [.d (.list (ns.map .int)), .d (.int 3)]) (cs := [.d (.list (ns.map .int)), .d (.int 3)]) rfl rfl rfl List.nodup_nil c1 rfl rfl rfl) rfl
  refine rFn1 (rSeq (rIfF a1 rfl) (rSeq a2 (rRet (rCB1 (rLc (xs := rng 0 cs.length) (ρ1 := [some (.d (.list (ns.map .int))), some (.own (cs.map .int)), none]) (iR1_ok (n := cs.length) (rCB1 rfl rfl (by show some (R.d (.int ((cs.map PyData.int).length : Int))) = _; rw [List.length_map])) (by omega))
    (goLc_map (f := fun _ => .bool true) _ (small_big (by rw [rng_len]; omega)) fun x hx => ?_)) rfl ((gAll_map (fun _ => true) _).trans (by simp))))))
  obtain ⟨k, hk0⟩ := List.getElem?_of_mem hx
  obtain ⟨rfl, hk⟩ := rng_get hk0
  obtain ⟨t, b1, b2⟩ := box_ok (cells := cs.map .int) (k := k) (x := cs[k]) (by rw [List.getElem?_map, List.getElem?_eq_getElem hk]; rfl) (by rw [List.length_map]; omega)
  obtain ⟨t', r1⟩ := right_ok b2
  exact ⟨_, rfl, _, rFzD (rCall (rs := [.own t]) (rs2 := [.own t]) (cs := [.arg t]) (ρ2 := [some (.d (.list (ns.map .int))), some (.own (cs.map .int)), some (.d (.int k))])
    (rCons (rCall (rs := [.sl 1, .d (.int k)]) (rs2 := [.sl 1, .d (.int k)]) (cs := [.arg (cs.map .int), .d (.int k)]) (ρ2 := [some (.d (.list (ns.map .int))), some (.own (cs.map .int)), some (.d (.int k))]) rfl rfl rfl (by simp [slots]) b1 rfl rfl rfl) rfl) rfl rfl List.nodup_nil r1 rfl rfl rfl), rfl⟩
end G

open PySem PySem.W PyProof.Rows
set_option maxHeartbeats 0 in
theorem PySem.Challenge.cw_reportalike_k00_steps_plans_counts_or_no_holds : PySem.Challenge.rw_reportalike_k00_steps_plans_counts_or_no.Holds := by
  w_on; o_law; k_head; (case hw => w_witness2)
  k_fill
  refine L2.walk_ofB (l := PySem.Challenge.rw_reportalike_k00_steps_plans_counts_or_no) (n := 63) (k := 69) (x := "_law_script") (CX := fun _ => L2.CX0) (sp := fun w => Pu.spF G.f_law) rfl (by decide) rfl ⟨rfl, by decide, by decide⟩ (fun w h Y => PySem.W.kIn_of Y) ?F ?hsp (fun _ _ _ _ _ h => h)
  case F =>
    intro w mg fa h KX GX hmg
    obtain ⟨x, T, rfl, hb⟩ : ∃ x : G.Tx, G.Tp _ mg x ∧ x.a_law = fa ∧ ∀ (s : Shared) (u : Value), BindsTo s x.d_law ⟨[u], []⟩ [("_law_script", u)] := by
      refine' G.all_mk KX GX hmg ?a0 ?l0 ?c0 ?k0 ?a1 ?l1 ?c1 ?k1 ?a2 ?l2 ?c2 ?k2 ?a3 ?l3 ?c3 ?k3 ?a4 ?l4 ?c4 ?k4 ?a5 ?l5 ?c5 ?k5 ?a6 ?l6 ?c6 ?k6 ?a7 ?l7 ?c7 ?k7 ?a8 ?l8 ?c8 ?k8 ?a9 ?l9 ?c9 ?k9 ?a10 ?l10 ?c10 ?k10 ?a11 ?l11 ?c11 ?k11 ?a12 ?l12 ?c12 ?k12 ?a13 ?l13 ?c13 ?k13 ?a14 ?l14 ?c14 ?k14 ?a15 ?l15 ?c15 ?k15 ?a16 ?l16 ?c16 ?k16 ?a17 ?l17 ?c17 ?k17 ?a18 ?l18 ?c18 ?k18 ?a19 ?l19 ?c19 ?k19 ?a20 ?l20 ?c20 ?k20 ?a21 ?l21 ?c21 ?k21 ?a22 ?l22 ?c22 ?k22 ?a23 ?l23 ?c23 ?k23 ?a24 ?l24 ?c24 ?k24 ?a25 ?l25 ?c25 ?k25 ?a26 ?l26 ?c26 ?k26 ?a27 ?l27 ?c27 ?k27 ?a28 ?l28 ?c28 ?k28 ?a29 ?l29 ?c29 ?k29 ?a30 ?l30 ?c30 ?k30 ?z_isinstance ?z_int ?z_bool ?z_str ?z_len ?z_tuple ?z_all ?z_zip ?z_abs ?z_enumerate ?z_list ?z_range ?z_min ?z_dict ?z_sorted ?z_set
      (case a0 => k_is); (case l0 => k_is); (case c0 => k_is); (case k0 => k_is); (case a1 => k_is); (case l1 => k_is); (case c1 => k_is); (case k1 => k_is); (case a2 => k_is); (case l2 => k_is); (case c2 => k_is); (case k2 => k_is); (case a3 => k_is); (case l3 => k_is); (case c3 => k_is); (case k3 => k_is); (case a4 => k_is); (case l4 => k_is); (case c4 => k_is); (case k4 => k_is); (case a5 => k_is); (case l5 => k_is); (case c5 => k_is); (case k5 => k_is); (case a6 => k_is); (case l6 => k_is); (case c6 => k_is); (case k6 => k_is); (case a7 => k_is); (case l7 => k_is); (case c7 => k_is); (case k7 => k_is); (case a8 => k_is); (case l8 => k_is); (case c8 => k_is); (case k8 => k_is); (case a9 => k_is); (case l9 => k_is); (case c9 => k_is); (case k9 => k_is); (case a10 => k_is); (case l10 => k_is); (case c10 => k_is); (case k10 => k_is); (case a11 => k_is); (case l11 => k_is); (case c11 => k_is); (case k11 => k_is); (case a12 => k_is); (case l12 => k_is); (case c12 => k_is); (case k12 => k_is); (case a13 => k_is); (case l13 => k_is); (case c13 => k_is); (case k13 => k_is); (case a14 => k_is); (case l14 => k_is); (case c14 => k_is); (case k14 => k_is); (case a15 => k_is); (case l15 => k_is); (case c15 => k_is); (case k15 => k_is); (case a16 => k_is); (case l16 => k_is); (case c16 => k_is); (case k16 => k_is); (case a17 => k_is); (case l17 => k_is); (case c17 => k_is); (case k17 => k_is); (case a18 => k_is); (case l18 => k_is); (case c18 => k_is); (case k18 => k_is); (case a19 => k_is); (case l19 => k_is); (case c19 => k_is); (case k19 => k_is); (case a20 => k_is); (case l20 => k_is); (case c20 => k_is); (case k20 => k_is); (case a21 => k_is); (case l21 => k_is); (case c21 => k_is); (case k21 => k_is); (case a22 => k_is); (case l22 => k_is); (case c22 => k_is); (case k22 => k_is); (case a23 => k_is); (case l23 => k_is); (case c23 => k_is); (case k23 => k_is); (case a24 => k_is); (case l24 => k_is); (case c24 => k_is); (case k24 => k_is); (case a25 => k_is); (case l25 => k_is); (case c25 => k_is); (case k25 => k_is); (case a26 => k_is); (case l26 => k_is); (case c26 => k_is); (case k26 => k_is); (case a27 => k_is); (case l27 => k_is); (case c27 => k_is); (case k27 => k_is); (case a28 => k_is); (case l28 => k_is); (case c28 => k_is); (case k28 => k_is); (case a29 => k_is); (case l29 => k_is); (case c29 => k_is); (case k29 => k_is); (case a30 => k_is); (case l30 => k_is); (case c30 => k_is); (case k30 => k_is); (case z_isinstance => k_is); (case z_int => k_is); (case z_bool => k_is); (case z_str => k_is); (case z_len => k_is); (case z_tuple => k_is); (case z_all => k_is); (case z_zip => k_is); (case z_abs => k_is); (case z_enumerate => k_is); (case z_list => k_is); (case z_range => k_is); (case z_min => k_is); (case z_dict => k_is); (case z_sorted => k_is); (case z_set => k_is)
    exact ⟨_, hb, fun base _ _ => G.ok_law (k := 0) T⟩
  case hsp => exact fun w H a ns hl hb hO hS => Pu.script_spK hS (by kernel_rfl) (G.law_true ns hl)
