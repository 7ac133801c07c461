import PyProof.Rows.All
import Wide.All
import OpenK.AllK
import Wide.FinOn
import HandS.ForMost
import HandS.ForExc
import HandS.IsInst
import HandS.ExcIs
import HandS.Style
import HandS.TupAny
import HandS.TupMul
import HandS.Wide
import HandS.More
import HandS.WideBits
import KE.BitLaws
import KE.KExcSuper
import HandS.Exc
import HandS.ExcInit
import PyProof.FString
import HandS.Sort
import HandS.SetFor
import HandS.TupLe
import HandS.Strs
import PyProof.FString5
import KE.KSuperObj
import HandS.Iter
import KE.KExcIs
import PyProof.EnumMake
import HandS.Defaults
import HandS.MakeKw
import HandS.ExcValue
import HandS.Conv
import HandS.Zip
import HandS.Deep
import PySem.Challenge.RW_plugtree_k22_journals_looked_at
set_option Elab.async false
set_option maxRecDepth 100000
set_option maxHeartbeats 4000000
set_option linter.all false
namespace My
open PySem PySem.Spec PyProof.Rows L2

/-! ### readings by short names -/
abbrev rAddI : R2 := rI0 fun i j => .int (i + j)
abbrev rSubI : R2 := rI0 fun i j => .int (i - j)
abbrev rMulI : R2 := rI CMul fun i j => .int (i * j)
abbrev rModI : R2 := rI (fun _ j => 0 < j) fun i j => .int (i % j)
abbrev rDivW : R2 := rI CDivW fun i j => .int (i / j)
abbrev rPowI : R2 := rI CPow fun i j => .int (i ^ j.toNat)
abbrev rShlI : R2 := rI CPow fun i j => .int (i * 2 ^ j.toNat)
abbrev rShrI : R2 := rI (fun _ j => 0 ≤ j) fun i j => .int (i / 2 ^ j.toNat)
abbrev rAndI : R2 := rI0 fun i j => .int (Builtin.bitAnd i j)
abbrev rOrI : R2 := rI0 fun i j => .int (Builtin.bitOr i j)
abbrev rXorI : R2 := rI0 fun i j => .int (Builtin.bitXor i j)
abbrev rLtI : R2 := rI0 fun i j => .bl (decide (i < j))
abbrev rLeI : R2 := rI0 fun i j => .bl (decide (i ≤ j))
abbrev rGtI : R2 := rI0 fun i j => .bl (decide (j < i))
abbrev rGeI : R2 := rI0 fun i j => .bl (decide (j ≤ i))
abbrev rNegI : V → Hp → VK → Prop := rU fun i => .int (-i)
abbrev rIsN : R2 := fun x y H Q => y = .non ∧ Q (.bl (decide (x = .non))) H
abbrev rNotN : R2 := fun x y H Q => y = .non ∧ Q (.bl (!decide (x = .non))) H
abbrev rAddStr : R2 := fun x y H Q => ∃ i j, x = .str i ∧ y = .str j ∧ i.length + j.length ≤ sizeLine ∧ Q (.str (i ++ j)) H
abbrev rLenQ (K : PySem.W.Frag) : List V → Hp → VK → Prop := fun xs H Q => ∃ p ys, xs = [.ref p] ∧ (SqL K H p ys ∨ SqT K H p ys) ∧ Q (.int ys.length) H
abbrev rListOf (K : PySem.W.Frag) : List V → Hp → VK → Prop := fun xs H Q => ∃ p ys, xs = [.ref p] ∧ (SqL K H p ys ∨ SqT K H p ys) ∧ ∀ l, H l = none → Q (.ref l) (upd H l (.lst ys))
abbrev rTupleOf (K : PySem.W.Frag) : List V → Hp → VK → Prop := fun xs H Q => ∃ p ys, xs = [.ref p] ∧ ((SqL K H p ys ∧ ∀ l, H l = none → Q (.ref l) (upd H l (.tup ys))) ∨ (SqT K H p ys ∧ Q (.ref p) H))
abbrev rStrInt : List V → Hp → VK → Prop := fun xs H Q => ∃ i, xs = [.int i] ∧ i.natAbs.log2 < 1920 ∧ Q (.str (toString i)) H
def tRaiseC (C : Addr) (E : XK) : TS := fun _ _ H => E (.ref C) none H

/-! ### what stays -/
abbrev Ex (H H' : Hp) : Prop := Same H H'
theorem Ex.new {H : Hp} {p : Addr} {o : HO} (h : H p = none) : Ex H (upd H p o) := fun a u e => by
  rw [upd_ne (ne_of_none e h)]
  exact e
theorem Ex.mut {H H' : Hp} {p : Addr} {o : HO} (e : Ex H H') (h : H p = none) : Ex H (upd H' p o) := fun a u ha => by
  rw [upd_ne (ne_of_none ha h)]
  exact e a u ha
theorem Ex.sqL {K : PySem.W.Frag} {H H' : Hp} {a : Addr} {xs : List V} (e : Ex H H') (h : SqL K H a xs) : SqL K H' a xs := by
  rcases h with (h | ⟨o, h⟩) | h
  · exact .inl (.inl (e _ _ h))
  · exact .inl (.inr ⟨o, e _ _ h⟩)
  · exact .inr h
theorem Ex.sqT {K : PySem.W.Frag} {H H' : Hp} {a : Addr} {xs : List V} (e : Ex H H') (h : SqT K H a xs) : SqT K H' a xs := by
  rcases h with (h | ⟨o, h⟩) | h
  · exact .inl (.inl (e _ _ h))
  · exact .inl (.inr ⟨o, e _ _ h⟩)
  · exact .inr h
mutual
theorem Ex.dp {K : PySem.W.Frag} {H H' : Hp} (e : Ex H H') : ∀ (d : PyData) (v : V), Dp K H v d → Dp K H' v d
  | .none, _, h => by cases h; exact .non
  | .bool b, _, h => by cases h; exact .bl b
  | .int i, _, h => by cases h; exact .int i
  | .str x, _, h => by cases h; exact .str x
  | .list ds, _, h => by
    cases h with
    | lst hs ha => exact .lst (e.sqL hs) (Ex.dpAll e ds _ ha)
  | .tuple ds, _, h => by
    cases h with
    | tup hs ha => exact .tup (e.sqT hs) (Ex.dpAll e ds _ ha)
  | .dict _, _, h => by cases h
theorem Ex.dpAll {K : PySem.W.Frag} {H H' : Hp} (e : Ex H H') : ∀ (ds : List PyData) (vs : List V), DpAll K H vs ds → DpAll K H' vs ds
  | [], _, h => by cases h; exact .nil
  | d :: ds, _, h => by
    cases h with
    | cons h1 h2 => exact .cons (Ex.dp e d _ h1) (Ex.dpAll e ds _ h2)
end
theorem DpAll.len {K : PySem.W.Frag} {H : Hp} : ∀ {ds : List PyData} {vs : List V}, DpAll K H vs ds → vs.length = ds.length
  | [], _, h => by cases h; rfl
  | d :: ds, _, h => by
    cases h with
    | cons h1 h2 => rw [List.length_cons, List.length_cons, DpAll.len h2]
theorem DpAll.get {K : PySem.W.Frag} {H : Hp} : ∀ {ds : List PyData} {vs : List V} {i : Nat} {d : PyData}, DpAll K H vs ds → ds[i]? = some d → ∃ v, vs[i]? = some v ∧ Dp K H v d
  | [], _, i, d, h, e => by simp at e
  | x :: ds, _, 0, d, h, e => by
    cases h with
    | cons h1 h2 =>
      simp at e
      subst e
      exact ⟨_, rfl, h1⟩
  | x :: ds, _, i + 1, d, h, e => by
    cases h with
    | cons h1 h2 =>
      obtain ⟨v, e1, e2⟩ := DpAll.get (i := i) (d := d) h2 (by simpa using e)
      exact ⟨v, by simpa using e1, e2⟩
theorem DpAll.ints {K : PySem.W.Frag} {H : Hp} : ∀ ns : List Int, DpAll K H (ns.map V.int) (ns.map PyData.int)
  | [] => .nil
  | n :: ns => .cons (.int n) (DpAll.ints ns)
theorem Dp.ints {K : PySem.W.Frag} {H : Hp} {p : Addr} {ns : List Int} (h : SqL K H p (ns.map V.int)) : Dp K H (.ref p) (.list (ns.map PyData.int)) := .lst h (DpAll.ints ns)
theorem Dp.intsT {K : PySem.W.Frag} {H : Hp} {p : Addr} {ns : List Int} (h : SqT K H p (ns.map V.int)) : Dp K H (.ref p) (.tuple (ns.map PyData.int)) := .tup h (DpAll.ints ns)

/-! ### isinstance of data -/
def tyName : PyData → String
  | .none => "NoneType" | .bool _ => "bool" | .int _ => "int" | .str _ => "str" | .list _ => "list" | .tuple _ => "tuple" | .dict _ => "dict"
theorem Dp.ty {K : PySem.W.Frag} {H : Hp} {d : PyData} {v : V} (h : Dp K H v d) : TyX K H v (.type (tyName d)) := by
  cases h with
  | non => exact .base .non
  | bl b => exact .base (.bl b)
  | int i => exact .base (.int i)
  | str x => exact .base (.str x)
  | lst hs _ =>
    rcases hs with (e | ⟨o, e⟩) | ⟨o, its, n, e, c, _⟩
    · exact .base (.lst e)
    · exact .base (.frz e)
    · exact .kList e c
  | tup hs _ =>
    rcases hs with (e | ⟨o, e⟩) | ⟨o, its, n, e, c, _⟩
    · exact .base (.tup e)
    · exact .fTuple e
    · exact .kTuple e c
def isTypN (n T : String) : Bool := n == T || (n == "bool" && T == "int")
def isTyp (d : PyData) (T : String) : Bool := isTypN (tyName d) T
theorem kitNames : ∀ n ∈ ["NoneType", "int", "bool", "str", "list", "tuple"], ∀ T ∈ ["int", "bool", "str", "list", "tuple"], kitB n T = some (isTypN n T) := by decide +kernel
/-- isinstance(x, T), T one of the five -/
theorem isi {K : PySem.W.Frag} {H : Hp} {d : PyData} {v : V} {T : String} {Q : VK} (h : Dp K H v d) (hT : T ∈ ["int", "bool", "str", "list", "tuple"]) (q : Q (.bl (isTyp d T)) H) :
    rIsi K [v, .ty T] H Q := by
  refine ⟨v, .ty T, _, _, isTyp d T, rfl, .ty T, Dp.ty h, kit_ty (kitNames _ ?_ _ hT), q⟩
  cases h <;> simp [tyName]

/-! ### going on -/
theorem iteB {c : Bool} {A B : Prop} (h1 : c = true → A) (h2 : c = false → B) : if c = true then A else B := by
  cases c with
  | true => rw [if_pos rfl]; exact h1 rfl
  | false => rw [if_neg Bool.false_ne_true]; exact h2 rfl
theorem iteP {p : Prop} [Decidable p] {A B : Prop} (h1 : p → A) (h2 : ¬ p → B) : if decide p = true then A else B :=
  iteB (fun h => h1 (of_decide_eq_true h)) (fun h => h2 (of_decide_eq_false h))
theorem iteNP {p : Prop} [Decidable p] {A B : Prop} (h1 : ¬ p → A) (h2 : p → B) : if (!decide p) = true then A else B := by
  by_cases h : p
  · rw [decide_eq_true h]
    exact iteF (h2 h)
  · rw [decide_eq_false h]
    exact iteT (h1 h)
theorem cmulR {i j : Int} (h : -(2 ^ 64) < j ∧ j < 2 ^ 64) : CMul i j := .inr h
theorem cmulL {i j : Int} (h : -(2 ^ 64) < i ∧ i < 2 ^ 64) : CMul i j := .inl h
theorem cdivS {i j : Int} (h : 0 < j) (h2 : j < 2 ^ 1000) : CDivW i j := wide_div (b := 1000) h (by omega) (by decide) (by decide)
/-! ### loops -/
theorem forL {K : PySem.W.Frag} {tl : TE} {g : TG} {tb : TS} {D : Ends} {σ : L2.St} {H : Hp} {a : Addr} {xs : List V} (i : Nat) (Pv : Nat → L2.St → Hp → Prop) (ht : ∀ R : VK, R (.ref a) H → tl σ H R) (hS : SqL K H a xs) (h0 : Pv 0 σ H)
    (hl : ∀ j σ H, Pv j σ H → SqL K H a xs) (hs : ∀ j x σ H, xs[j]? = some x → Pv j σ H → tb { D with nx := Pv (j + 1), ct := Pv (j + 1), bk := D.nx } (σ.set i (some x)) H) (hd : ∀ σ H, Pv xs.length σ H → D.nx σ H)
    (hg : g = gName i := by rfl) : tFor (iList K tl) g tb D σ H := by
  subst hg
  exact ht _ ⟨a, rfl, ⟨xs, hS⟩, for_list (xs := xs) Pv h0 (fun j σ H _ p => hl j σ H p) (fun j x σ H e p => hs j x σ H e p) hd⟩
theorem forT {K : PySem.W.Frag} {tl : TE} {g : TG} {tb : TS} {D : Ends} {σ : L2.St} {H : Hp} {a : Addr} {xs : List V} (i : Nat) (Pv : Nat → L2.St → Hp → Prop) (ht : ∀ R : VK, R (.ref a) H → tl σ H R) (hS : SqT K H a xs) (h0 : Pv 0 σ H)
    (hl : ∀ j σ H, Pv j σ H → SqT K H a xs) (hs : ∀ j x σ H, xs[j]? = some x → Pv j σ H → tb { D with nx := Pv (j + 1), ct := Pv (j + 1), bk := D.nx } (σ.set i (some x)) H) (hd : ∀ σ H, Pv xs.length σ H → D.nx σ H)
    (hg : g = gName i := by rfl) : tFor (iTup K tl) g tb D σ H := by
  subst hg
  exact ht _ ⟨a, rfl, ⟨xs, hS⟩, for_tup (xs := xs) Pv h0 (fun j σ H _ p => hl j σ H p) (fun j x σ H e p => hs j x σ H e p) hd⟩
theorem forR {ta : TA} {g : TG} {tb : TS} {D : Ends} {σ : L2.St} {H : Hp} {n : Int} (i : Nat) (Pv : Nat → L2.St → Hp → Prop) (ht : ∀ R : List V → Hp → Prop, R [.int n] H → ta σ H R) (hn : n ≤ 2 ^ 60) (hn0 : -(2 ^ 60) ≤ n) (h0 : Pv 0 σ H)
    (hs : ∀ (j : Nat) σ H, (j : Int) < n → Pv j σ H → tb { D with nx := Pv (j + 1), ct := Pv (j + 1), bk := D.nx } (σ.set i (some (.int (j : Nat)))) H) (hd : ∀ σ H, Pv n.toNat σ H → D.nx σ H)
    (hg : g = gName i := by rfl) : tFor (iRng1 ta) g tb D σ H := by
  subst hg
  refine ht _ ⟨n, rfl, by omega, by omega, for_range (lo := 0) (n := n.toNat) Pv h0 (fun j σ H hj p => ?_) hd⟩
  have e : (0 : Int) + (j : Nat) = (j : Nat) := Int.zero_add _
  rw [e]
  exact hs j σ H (by omega) p
theorem forE {K : PySem.W.Frag} {ta : TA} {g : TG} {tb : TS} {D : Ends} {σ : L2.St} {H : Hp} {a : Addr} {xs : List V} (i1 i2 : Nat) (Pv : Nat → L2.St → Hp → Prop) (ht : ∀ R : List V → Hp → Prop, R [.ref a] H → ta σ H R) (hS : SqL K H a xs) (h0 : Pv 0 σ H)
    (hl : ∀ j σ H, Pv j σ H → SqL K H a xs) (hx : ∀ j σ H T o, Pv j σ H → H T = none → Pv j σ (upd H T o))
    (hs : ∀ j x σ H, xs[j]? = some x → Pv j σ H → tb { D with nx := Pv (j + 1), ct := Pv (j + 1), bk := D.nx } ((σ.set i1 (some (.int (j : Nat)))).set i2 (some x)) H) (hd : ∀ σ H, Pv xs.length σ H → D.nx σ H)
    (hg : g = gTup K 2 (gCons (gName i1) (gCons (gName i2) gNil)) := by rfl) : tFor (iEnum K ta) g tb D σ H := by
  subst hg
  refine ht _ ⟨a, xs, rfl, hS, fun i m σ H => m = xs.length - i ∧ i ≤ xs.length ∧ Pv i σ H, ⟨xs.length, by simp, Nat.zero_le _, h0⟩, ?_⟩
  rintro i m σ H ⟨rfl, hi, p⟩
  have q := hl i σ H p
  by_cases hlt : i < xs.length
  · refine .inr ⟨⟨xs, xs[i], q, by simp [hlt]⟩, Pv (i + 1), fun σ' H' p' => ⟨xs.length - (i + 1), by omega, rfl, hlt, p'⟩, fun x H' y => ?_⟩
    obtain ⟨T, x', rfl, hT, rfl, hq⟩ := y
    exact ⟨T, _, rfl, SqT.of upd_same, rfl, _, _, rfl, _, _, rfl, rfl, hs i x' σ _ (hq xs q) (hx i σ H T _ p hT)⟩
  · have e : i = xs.length := by omega
    subst e
    exact .inl ⟨⟨xs, q, Nat.le_refl _⟩, hd σ H p⟩
/-- what a comprehension makes: item by item -/
def Made (n : Nat) (P : Nat → V → Hp → Prop) (ys : List V) (H : Hp) : Prop := ys.length = n ∧ ∀ j, j < n → ∃ v, ys[j]? = some v ∧ P j v H
theorem Made.more {n : Nat} {P : Nat → V → Hp → Prop} {ys : List V} {H H' : Hp} {v : V} (h : Made n P ys H) (hP : ∀ j v, P j v H → P j v H') (hv : P n v H') : Made (n + 1) P (ys ++ [v]) H' := by
  obtain ⟨h1, h2⟩ := h
  refine ⟨by rw [List.length_append, h1]; rfl, fun j hj => ?_⟩
  by_cases e : j < n
  · obtain ⟨u, e1, e2⟩ := h2 j e
    exact ⟨u, by rw [List.getElem?_append_left (by omega)]; exact e1, hP _ _ e2⟩
  · have e' : j = n := by omega
    subst e'
    exact ⟨v, by rw [List.getElem?_append_right (by omega), h1, Nat.sub_self]; rfl, hv⟩
theorem Made.ints {n : Nat} {f : Nat → Int} {ys : List V} {H : Hp} (h : Made n (fun j v _ => v = .int (f j)) ys H) : ys = ((List.range n).map f).map V.int := by
  obtain ⟨h1, h2⟩ := h
  apply List.ext_getElem?
  intro j
  by_cases hj : j < n
  · obtain ⟨v, e1, e2⟩ := h2 j hj
    rw [e1, e2, List.map_map, List.getElem?_map, List.getElem?_range hj]
    rfl
  · rw [List.getElem?_eq_none (by omega), List.getElem?_eq_none (by simp; omega)]
theorem Made.bls {n : Nat} {f : Nat → Bool} {ys : List V} {H : Hp} (h : Made n (fun j v _ => v = .bl (f j)) ys H) : ys = ((List.range n).map f).map V.bl := by
  obtain ⟨h1, h2⟩ := h
  apply List.ext_getElem?
  intro j
  by_cases hj : j < n
  · obtain ⟨v, e1, e2⟩ := h2 j hj
    rw [e1, e2, List.map_map, List.getElem?_map, List.getElem?_range hj]
    rfl
  · rw [List.getElem?_eq_none (by omega), List.getElem?_eq_none (by simp; omega)]
theorem Made.all {K : PySem.W.Frag} {H : Hp} : ∀ {n : Nat} {ds : List PyData} {ys : List V}, Made n (fun j v H => ∃ d, ds[j]? = some d ∧ Dp K H v d) ys H → ds.length = n → DpAll K H ys ds
  | _, [], ys, h, e => by
    obtain ⟨h1, _⟩ := h
    have : ys = [] := List.length_eq_zero_iff.mp (by rw [h1, ← e]; rfl)
    subst this
    exact .nil
  | n, d :: ds, ys, h, e => by
    obtain ⟨h1, h2⟩ := h
    subst e
    cases ys with
    | nil => simp at h1
    | cons y ys =>
      obtain ⟨v, e1, d', e2, e3⟩ := h2 0 (by simp)
      simp at e1 e2
      subst e1 e2
      refine .cons e3 (Made.all (n := ds.length) ⟨by simpa using h1, fun j hj => ?_⟩ rfl)
      obtain ⟨v, e1, e2⟩ := h2 (j + 1) (by simp; omega)
      exact ⟨v, by simpa using e1, by simpa using e2⟩
/-! ### a heap without some objects -/
def wo (B : List Addr) (H : Hp) : Hp := fun b => if b ∈ B then none else H b
theorem wo_get {B : List Addr} {H : Hp} {b : Addr} (h : b ∉ B) : wo B H b = H b := if_neg h
theorem wo_nil {H : Hp} : wo [] H = H := funext fun _ => if_neg (List.not_mem_nil)
theorem wo_ex {B : List Addr} {H : Hp} : Ex (wo B H) H := fun b o h => by
  unfold wo at h
  split at h
  · cases h
  · exact h
theorem Ex.wo {B : List Addr} {H H' : Hp} (e : Ex H H') : Ex (wo B H) (wo B H') := fun b o h => by
  unfold My.wo at h ⊢
  split at h
  · cases h
  · rename_i z
    rw [if_neg z]
    exact e b o h
theorem Ex.woN {B : List Addr} {H H' : Hp} (e : Ex H H') (h : ∀ b, b ∈ B → H b = none) : Ex H (My.wo B H') := fun b o hb => by
  rw [wo_get (fun z => by rw [h b z] at hb; cases hb)]
  exact e b o hb
theorem wo_upd {B : List Addr} {H : Hp} {p : Addr} {o : HO} (h : p ∈ B) : wo B (upd H p o) = wo B H := funext fun b => by
  unfold wo
  split
  · rfl
  · rename_i z
    exact upd_ne fun e => z (e ▸ h)
theorem wo_wo {B C : List Addr} {H : Hp} : wo B (wo C H) = wo (C ++ B) H := funext fun b => by
  unfold wo
  by_cases h1 : b ∈ B <;> by_cases h2 : b ∈ C <;> simp [h1, h2]
theorem wo_mono {B C : List Addr} {H : Hp} (h : ∀ b, b ∈ C → b ∈ B) : Ex (wo B H) (wo C H) := fun b o hb => by
  unfold wo at hb ⊢
  split at hb
  · cases hb
  · rename_i z
    rw [if_neg fun q => z (h b q)]
    exact hb
theorem there_not {B : List Addr} {H : Hp} (h : ∀ b, b ∈ B → H b ≠ none) {p : Addr} (hp : H p = none) : p ∉ B := fun z => h p z hp
theorem Ex.there {H H' : Hp} (e : Ex H H') {b : Addr} (h : H b ≠ none) : H' b ≠ none := by
  cases q : H b with
  | none => exact absurd q h
  | some o =>
    rw [e b o q]
    exact fun z => by cases z
/-- [e for i in range(n)]: the new list at D; what an item is told of is not D -/
theorem lcR {ta : TA} {g : TG} {tt : TT} {te : TE} {vs : List Nat} {σ : L2.St} {H : Hp} {Q : VK} {n : Int} (i : Nat) (P : Nat → V → Hp → Prop) (ht : ∀ R : List V → Hp → Prop, R [.int n] H → ta σ H R) (hn0 : 0 ≤ n) (hn : n ≤ 100000)
    (hP : ∀ j v H H', Ex H H' → P j v H → P j v H')
    (hw : ∀ x, wipe ((wipe σ vs).set i (some x)) vs = wipe σ vs)
    (he : ∀ (j : Nat) D H1 (Q1 : VK), (j : Int) < n → H D = none → H1 D ≠ none → Ex H (wo [D] H1) → (∀ v H2, Ex H1 H2 → P j v (wo [D] H2) → Q1 v H2) → te ((wipe σ vs).set i (some (.int (j : Nat)))) H1 Q1)
    (k : ∀ D H' ys, H D = none → Ex H (wo [D] H') → H' D = some (.lst ys) → Made n.toNat P ys (wo [D] H') → Q (.ref D) H')
    (hg : g = gName i := by rfl) (htt : tt = tYes := by rfl) : tLc (iRng1 ta) g tt te vs σ H Q := by
  subst hg htt
  refine ht _ ⟨n, rfl, by omega, by omega, fun D hD => ?_⟩
  refine lc_range (lo := 0) (n := n.toNat) (fun j H' => Ex H (wo [D] H') ∧ ∃ ys, H' D = some (.lst ys) ∧ Made j P ys (wo [D] H')) ⟨?_, [], upd_same, rfl, fun j hj => absurd hj (Nat.not_lt_zero j)⟩ (fun j H' hj p => ?_) (fun H' p => ?_)
  · exact (Ex.new hD).woN fun b hb => by rw [List.mem_singleton.mp hb]; exact hD
  · obtain ⟨e, ys, hy, hm⟩ := p
    have e0 : (0 : Int) + (j : Nat) = (j : Nat) := Int.zero_add _
    rw [e0]
    refine ⟨hw _, ?_⟩
    simp only [tYes, if_true]
    refine he j D H' _ (by omega) hD (by rw [hy]; exact fun z => by cases z) e (fun v H2 e2 hv => ⟨ys, e2 _ _ hy, ?_, ?_, ys ++ [v], upd_same, ?_⟩)
    · rw [hm.1]
      exact Nat.lt_of_lt_of_le (show j < 100000 by omega) (by decide)
    · rw [wo_upd (List.mem_singleton.mpr rfl)]
      exact e.trans e2.wo
    · rw [wo_upd (List.mem_singleton.mpr rfl)]
      exact hm.more (fun j u hu => hP _ _ _ _ e2.wo hu) hv
  · obtain ⟨e, ys, hy, hm⟩ := p
    exact k D H' ys hD e hy hm
/-- [e for x in t], t a tuple -/
theorem lcT {K : PySem.W.Frag} {tl : TE} {g : TG} {tt : TT} {te : TE} {vs : List Nat} {σ : L2.St} {H : Hp} {Q : VK} {a : Addr} {xs : List V} (i : Nat) (P : Nat → V → Hp → Prop) (ht : ∀ R : VK, R (.ref a) H → tl σ H R) (hS : SqT K H a xs) (hn : xs.length ≤ 100000)
    (hP : ∀ j v H H', Ex H H' → P j v H → P j v H')
    (hw : ∀ x, wipe ((wipe σ vs).set i (some x)) vs = wipe σ vs)
    (he : ∀ (j : Nat) x D H1 (Q1 : VK), xs[j]? = some x → H D = none → H1 D ≠ none → Ex H (wo [D] H1) → (∀ v H2, Ex H1 H2 → P j v (wo [D] H2) → Q1 v H2) → te ((wipe σ vs).set i (some x)) H1 Q1)
    (k : ∀ D H' ys, H D = none → Ex H (wo [D] H') → H' D = some (.lst ys) → Made xs.length P ys (wo [D] H') → Q (.ref D) H')
    (hg : g = gName i := by rfl) (htt : tt = tYes := by rfl) : tLc (iTup K tl) g tt te vs σ H Q := by
  subst hg htt
  refine ht _ ⟨a, rfl, ⟨xs, hS⟩, fun D hD => ?_⟩
  refine lc_tup (xs := xs) (fun j H' => j ≤ xs.length ∧ Ex H (wo [D] H') ∧ ∃ ys, H' D = some (.lst ys) ∧ Made j P ys (wo [D] H')) ⟨Nat.zero_le _, ?_, [], upd_same, rfl, fun j hj => absurd hj (Nat.not_lt_zero j)⟩ (fun j H' _ p => ?_) (fun j x H' hx p => ?_) (fun H' p => ?_)
  · exact (Ex.new hD).woN fun b hb => by rw [List.mem_singleton.mp hb]; exact hD
  · exact Ex.sqT (Same.trans p.2.1 wo_ex) hS
  · obtain ⟨hj, e, ys, hy, hm⟩ := p
    have hjl : j < xs.length := (List.getElem?_eq_some_iff.mp hx).1
    refine ⟨hw _, ?_⟩
    simp only [tYes, if_true]
    refine he j x D H' _ hx hD (by rw [hy]; exact fun z => by cases z) e (fun v H2 e2 hv => ⟨ys, e2 _ _ hy, ?_, hjl, ?_, ys ++ [v], upd_same, ?_⟩)
    · rw [hm.1]
      exact Nat.lt_of_lt_of_le (show j < 100000 by omega) (by decide)
    · rw [wo_upd (List.mem_singleton.mpr rfl)]
      exact e.trans e2.wo
    · rw [wo_upd (List.mem_singleton.mpr rfl)]
      exact hm.more (fun j u hu => hP _ _ _ _ e2.wo hu) hv
  · obtain ⟨_, e, ys, hy, hm⟩ := p
    exact k D H' ys hD e hy hm
/-- [e for x in l], l a list; what tl makes on the way stands in H0 -/
theorem lcL {K : PySem.W.Frag} {tl : TE} {g : TG} {tt : TT} {te : TE} {vs : List Nat} {σ : L2.St} {H0 H : Hp} {Q : VK} {a : Addr} {xs : List V} (i : Nat) (P : Nat → V → Hp → Prop) (ht : ∀ R : VK, R (.ref a) H → tl σ H0 R) (hS : SqL K H a xs) (hn : xs.length ≤ 100000)
    (hP : ∀ j v H H', Ex H H' → P j v H → P j v H')
    (hw : ∀ x, wipe ((wipe σ vs).set i (some x)) vs = wipe σ vs)
    (he : ∀ (j : Nat) x D H1 (Q1 : VK), xs[j]? = some x → H D = none → H1 D ≠ none → Ex H (wo [D] H1) → (∀ v H2, Ex H1 H2 → P j v (wo [D] H2) → Q1 v H2) → te ((wipe σ vs).set i (some x)) H1 Q1)
    (k : ∀ D H' ys, H D = none → Ex H (wo [D] H') → H' D = some (.lst ys) → Made xs.length P ys (wo [D] H') → Q (.ref D) H')
    (hg : g = gName i := by rfl) (htt : tt = tYes := by rfl) : tLc (iList K tl) g tt te vs σ H0 Q := by
  subst hg htt
  refine ht _ ⟨a, rfl, ⟨xs, hS⟩, fun D hD => ?_⟩
  refine lc_list (xs := xs) (fun j H' => j ≤ xs.length ∧ Ex H (wo [D] H') ∧ ∃ ys, H' D = some (.lst ys) ∧ Made j P ys (wo [D] H')) ⟨Nat.zero_le _, ?_, [], upd_same, rfl, fun j hj => absurd hj (Nat.not_lt_zero j)⟩ (fun j H' _ p => ?_) (fun j x H' hx p => ?_) (fun H' p => ?_)
  · exact (Ex.new hD).woN fun b hb => by rw [List.mem_singleton.mp hb]; exact hD
  · exact Ex.sqL (Same.trans p.2.1 wo_ex) hS
  · obtain ⟨hj, e, ys, hy, hm⟩ := p
    have hjl : j < xs.length := (List.getElem?_eq_some_iff.mp hx).1
    refine ⟨hw _, ?_⟩
    simp only [tYes, if_true]
    refine he j x D H' _ hx hD (by rw [hy]; exact fun z => by cases z) e (fun v H2 e2 hv => ⟨ys, e2 _ _ hy, ?_, hjl, ?_, ys ++ [v], upd_same, ?_⟩)
    · rw [hm.1]
      exact Nat.lt_of_lt_of_le (show j < 100000 by omega) (by decide)
    · rw [wo_upd (List.mem_singleton.mpr rfl)]
      exact e.trans e2.wo
    · rw [wo_upd (List.mem_singleton.mpr rfl)]
      exact hm.more (fun j u hu => hP _ _ _ _ e2.wo hu) hv
  · obtain ⟨_, e, ys, hy, hm⟩ := p
    exact k D H' ys hD e hy hm
/-- [e for x in l], l a new list -/
theorem lcLN {K : PySem.W.Frag} {tl : TE} {g : TG} {tt : TT} {te : TE} {vs : List Nat} {σ : L2.St} {H0 : Hp} {Q : VK} {xs : List V} (i : Nat) (P : Nat → V → Hp → Prop) (ht : ∀ R : VK, (∀ a, H0 a = none → R (.ref a) (upd H0 a (.lst xs))) → tl σ H0 R) (hn : xs.length ≤ 100000)
    (hP : ∀ j v H H', Ex H H' → P j v H → P j v H')
    (hw : ∀ x, wipe ((wipe σ vs).set i (some x)) vs = wipe σ vs)
    (he : ∀ (j : Nat) x D H1 (Q1 : VK), xs[j]? = some x → H0 D = none → H1 D ≠ none → Ex H0 (wo [D] H1) → (∀ v H2, Ex H1 H2 → P j v (wo [D] H2) → Q1 v H2) → te ((wipe σ vs).set i (some x)) H1 Q1)
    (k : ∀ D H' ys, H0 D = none → Ex H0 (wo [D] H') → H' D = some (.lst ys) → Made xs.length P ys (wo [D] H') → Q (.ref D) H')
    (hg : g = gName i := by rfl) (htt : tt = tYes := by rfl) : tLc (iList K tl) g tt te vs σ H0 Q := by
  subst hg htt
  refine ht _ fun a ha => ⟨a, rfl, ⟨xs, SqL.of upd_same⟩, fun D hD => ?_⟩
  have hS : SqL K (upd H0 a (.lst xs)) a xs := SqL.of upd_same
  have eH : Ex H0 (upd H0 a (.lst xs)) := Ex.new ha
  have hD0 : H0 D = none := eH.free hD
  generalize upd H0 a (.lst xs) = H at hS hD eH
  refine lc_list (xs := xs) (fun j H' => j ≤ xs.length ∧ Ex H (wo [D] H') ∧ ∃ ys, H' D = some (.lst ys) ∧ Made j P ys (wo [D] H')) ⟨Nat.zero_le _, ?_, [], upd_same, rfl, fun j hj => absurd hj (Nat.not_lt_zero j)⟩ (fun j H' _ p => ?_) (fun j x H' hx p => ?_) (fun H' p => ?_)
  · exact (Ex.new hD).woN fun b hb => by rw [List.mem_singleton.mp hb]; exact hD
  · exact Ex.sqL (Same.trans p.2.1 wo_ex) hS
  · obtain ⟨hj, e, ys, hy, hm⟩ := p
    have hjl : j < xs.length := (List.getElem?_eq_some_iff.mp hx).1
    refine ⟨hw _, ?_⟩
    simp only [tYes, if_true]
    refine he j x D H' _ hx hD0 (by rw [hy]; exact fun z => by cases z) (eH.trans e) (fun v H2 e2 hv => ⟨ys, e2 _ _ hy, ?_, hjl, ?_, ys ++ [v], upd_same, ?_⟩)
    · rw [hm.1]
      exact Nat.lt_of_lt_of_le (show j < 100000 by omega) (by decide)
    · rw [wo_upd (List.mem_singleton.mpr rfl)]
      exact e.trans e2.wo
    · rw [wo_upd (List.mem_singleton.mpr rfl)]
      exact hm.more (fun j u hu => hP _ _ _ _ e2.wo hu) hv
  · obtain ⟨_, e, ys, hy, hm⟩ := p
    exact k D H' ys hD0 (eH.trans e) hy hm
theorem wo_off {H : Hp} {D : Addr} (h : H D = none) : wo [D] H = H := funext fun b => by
  unfold wo
  split
  · rename_i z
    rw [List.mem_singleton.mp z, h]
  · rfl
theorem wo_comm {B C : List Addr} {H : Hp} : wo B (wo C H) = wo C (wo B H) := funext fun b => by
  unfold wo
  by_cases h1 : b ∈ B <;> by_cases h2 : b ∈ C <;> simp [h1, h2]
/-- [e for i in range(n)], where e may change the objects of B; J is what holds of them -/
theorem lcRB {ta : TA} {g : TG} {tt : TT} {te : TE} {vs : List Nat} {σ : L2.St} {H : Hp} {Q : VK} {n : Int} (i : Nat) (B : List Addr) (J : Hp → Prop) (P : Nat → V → Hp → Prop) (ht : ∀ R : List V → Hp → Prop, R [.int n] H → ta σ H R) (hn0 : 0 ≤ n) (hn : n ≤ 100000)
    (hP : ∀ j v H H', Ex H H' → P j v H → P j v H')
    (hw : ∀ x, wipe ((wipe σ vs).set i (some x)) vs = wipe σ vs) (hJ : J H)
    (he : ∀ (j : Nat) D H1 (Q1 : VK), (j : Int) < n → H D = none → H1 D ≠ none → Ex (wo B H) (wo B (wo [D] H1)) → J (wo [D] H1) →
      (∀ v H2, H2 D = H1 D → Ex (wo B (wo [D] H1)) (wo B (wo [D] H2)) → J (wo [D] H2) → P j v (wo B (wo [D] H2)) → Q1 v H2) → te ((wipe σ vs).set i (some (.int (j : Nat)))) H1 Q1)
    (k : ∀ D H' ys, H D = none → Ex (wo B H) (wo B (wo [D] H')) → J (wo [D] H') → H' D = some (.lst ys) → Made n.toNat P ys (wo B (wo [D] H')) → Q (.ref D) H')
    (hg : g = gName i := by rfl) (htt : tt = tYes := by rfl) : tLc (iRng1 ta) g tt te vs σ H Q := by
  subst hg htt
  refine ht _ ⟨n, rfl, by omega, by omega, fun D hD => ?_⟩
  refine lc_range (lo := 0) (n := n.toNat) (fun j H' => Ex (wo B H) (wo B (wo [D] H')) ∧ J (wo [D] H') ∧ ∃ ys, H' D = some (.lst ys) ∧ Made j P ys (wo B (wo [D] H'))) ⟨?_, ?_, [], upd_same, rfl, fun j hj => absurd hj (Nat.not_lt_zero j)⟩ (fun j H' hj p => ?_) (fun H' p => ?_)
  · rw [wo_upd (List.mem_singleton.mpr rfl), wo_off hD]
    exact Same.refl _
  · rw [wo_upd (List.mem_singleton.mpr rfl), wo_off hD]
    exact hJ
  · obtain ⟨e, hj1, ys, hy, hm⟩ := p
    have e0 : (0 : Int) + (j : Nat) = (j : Nat) := Int.zero_add _
    rw [e0]
    refine ⟨hw _, ?_⟩
    simp only [tYes, if_true]
    refine he j D H' _ (by omega) hD (by rw [hy]; exact fun z => by cases z) e hj1 (fun v H2 hD2 e2 hj2 hv => ⟨ys, hD2.trans hy, ?_, ?_, ?_, ys ++ [v], upd_same, ?_⟩)
    · rw [hm.1]
      exact Nat.lt_of_lt_of_le (show j < 100000 by omega) (by decide)
    · rw [wo_upd (List.mem_singleton.mpr rfl)]
      exact e.trans e2
    · rw [wo_upd (List.mem_singleton.mpr rfl)]
      exact hj2
    · rw [wo_upd (List.mem_singleton.mpr rfl)]
      exact hm.more (fun j u hu => hP _ _ _ _ e2 hu) hv
  · obtain ⟨e, hj1, ys, hy, hm⟩ := p
    exact k D H' ys hD e hj1 hy hm
/-! ### isinstance of the exception that a suite holds -/
def rIsE2 (K : PySem.W.Frag) (D a : Addr) (cls : Value) (d : Option Addr) : List V → Hp → VK → Prop := fun xs H Q => cls = .ref D ∧ d = none ∧ rIsE K D a xs H Q
theorem call_isE2 {X : Cx} {a D : Addr} {oe : Obj} {pn : List (Addr × Obj)} {cls : Value} {d : Option Addr} (C : ExcC X.K D) (hz : Zc cls d oe) (hf : ∃ vs, oe.data = .fields vs) :
    CallR (X.suite a ((a, oe) :: pn)) (.builtin "isinstance") (rIsE2 X.K D a cls d) := by
  intro pins s σ H xs us Q I r h
  obtain ⟨rfl, rfl, h⟩ := h
  exact call_isE C hz hf pins s σ H xs us Q I r h
end My

namespace My
open PySem PySem.Spec PyProof.Rows L2
theorem tuple_mul1 (l : Addr) (items : Array Value) (n : Nat) (dd : Option Addr) (sl : Array (Option Value)) (u : Tok) :
    Meets (Builtin.«tuple.__mul__» ⟨[.ref l, .int 1 u], []⟩) (fun _ R s => s.heap.get? l = some { cls := .type "tuple", dict := dd, data := .seq items n, slots := sl } ∧ R (.ok (.ret (Value.ref l))) s) :=
  .of_wp fun prog w A R s h => by
    obtain ⟨hp, g, d, tk, os⟩ := s
    obtain ⟨hl, h⟩ := h
    have f1 := AutoSeq1.idx_int
    have c1 : (items.isEmpty || (1 : Int) == 1) = true := by simp
    wp_walk using wpAny_loadPart' hl
    repeat (first
      | (refine wpAny_ite_true (by rw [c1]) ?_; wp_walk using wpAny_loadPart' hl)
      | (refine wpAny_ite_true (decide_eq_true (by rw [c1])) ?_; wp_walk using wpAny_loadPart' hl))
    exact ⟨_, rfl, h⟩
theorem tuple_mul0 (l : Addr) (items : Array Value) (n : Nat) (dd : Option Addr) (sl : Array (Option Value)) (u : Tok) (hn : items.isEmpty = false) :
    Meets (Builtin.«tuple.__mul__» ⟨[.ref l, .int 0 u], []⟩) (fun _ R s => s.heap.get? l = some { cls := .type "tuple", dict := dd, data := .seq items n, slots := sl } ∧
      R (.ok (.ret (Value.ref s.heap.objs.size))) { s with heap := s.heap.push { cls := Value.type "tuple", data := Data.seq #[] }, toks := s.toks }) :=
  .of_wp fun prog w A R s h => by
    obtain ⟨hp, g, d, tk, os⟩ := s
    obtain ⟨hl, h⟩ := h
    have f1 := AutoSeq1.idx_int
    have c1 : (items.isEmpty || (0 : Int) == 1) = false := by rw [hn]; rfl
    wp_walk using wpAny_loadPart' hl
    exact ⟨_, rfl, h⟩
/-- t * k, k not below 0: once is t itself -/
def rRepT2 (K : PySem.W.Frag) : R2 := fun x y H Q => ∃ l k xs, x = .ref l ∧ y = .int k ∧ SqT K H l xs ∧ xs ≠ [] ∧ 0 ≤ k ∧ k ≤ 1000 ∧ xs.length ≤ 1000 ∧ (k = 1 → Q (.ref l) H) ∧ (k ≠ 1 → ∀ p, H p = none → Q (.ref p) (upd H p (.tup (List.replicate k.toNat xs).flatten)))
theorem op_repT2 {X : Cx} : OpR X (binaryOp .Mult) (rRepT2 X.K) := by
  intro pins s σ H x y v u Q I rx ry h
  obtain ⟨l, k, xs, rfl, rfl, hT, hne, h1, h2, hz, q1, q2⟩ := h
  by_cases k1 : k = 1
  · subst k1
    cases rx
    obtain ⟨t, rfl⟩ := ry
    obtain ⟨its, r, ⟨⟨cls, dd, data, sl⟩, ho, hc, n, hd⟩, hs⟩ := I.tuple hT
    simp only at hc hd
    subst hc hd
    exact wpAny_binaryOp_repeat_ref (T := "tuple") (U := "int") (by decide) ⟨_, ho, rfl⟩ (fun s' => typeIs_int s' 1 t) noFill_tuple_mul F.fills_int_mul F.slot_int_rmul repeat_tuple F.slot_int_index.lookup
      (call_meets F.slot_int_rmul (typeIs_int s 1 t) F.entry_int_rmul (F.args_int_rmul_2 _ _) (int_rmul_tuple 1 t l its.toArray n dd sl)
        ⟨ho, rfl, ⟨_, ho, rfl⟩, call_meets F.slot_tuple_mul ⟨_, ho, rfl⟩ F.entry_tuple_mul (F.args_tuple_mul_2 _ _) (tuple_mul1 l its.toArray n dd sl t) ⟨ho, ⟨.ref l, H, I, rfl, q1 rfl⟩⟩⟩)
  · by_cases k0 : k = 0
    · subst k0
      cases rx
      obtain ⟨t, rfl⟩ := ry
      obtain ⟨its, r, ⟨⟨cls, dd, data, sl⟩, ho, hc, n, hd⟩, hs⟩ := I.tuple hT
      simp only at hc hd
      subst hc hd
      have hi : its.toArray.isEmpty = false := by
        cases its with
        | nil =>
          cases r
          exact absurd rfl hne
        | cons a b => rfl
      exact wpAny_binaryOp_repeat_ref (T := "tuple") (U := "int") (by decide) ⟨_, ho, rfl⟩ (fun s' => typeIs_int s' 0 t) noFill_tuple_mul F.fills_int_mul F.slot_int_rmul repeat_tuple F.slot_int_index.lookup
        (call_meets F.slot_int_rmul (typeIs_int s 0 t) F.entry_int_rmul (F.args_int_rmul_2 _ _) (int_rmul_tuple 0 t l its.toArray n dd sl)
          ⟨ho, rfl, ⟨_, ho, rfl⟩, call_meets F.slot_tuple_mul ⟨_, ho, rfl⟩ F.entry_tuple_mul (F.args_tuple_mul_2 _ _) (tuple_mul0 l its.toArray n dd sl t hi)
            ⟨ho, ⟨.ref s.heap.objs.size, _, I.laid (t' := s.toks) (o := .tup []) (fun b ob q => Heap.get?_push_of_some _ q) (Nat.le_refl _) ⟨by show 0 ≤ sizeLine; decide, [], .nil, IsTup.new _ _⟩, rfl, q2 k1 _ (I.hok.fresh (Nat.le_refl _))⟩⟩⟩)
    · exact op_repT pins s σ H _ _ v u Q I rx ry ⟨l, k, xs, rfl, rfl, hT, hne, by omega, h2, hz, q2 k1⟩
/-! ### tuples and dicts of the written part -/
def TupObj (o : Obj) (xs : List V) : Prop := o.cls = .type "tuple" ∧ ∃ (its : Array Value) (n : Nat), o.data = .seq its n ∧ its.size ≤ sizeLine ∧ Vals xs its.toList
def KTup (K : PySem.W.Frag) (a : Addr) (xs : List V) : Prop := ∃ o, K.lookup a = some o ∧ TupObj o xs
theorem KTup.sq {K : PySem.W.Frag} {a : Addr} {xs : List V} (h : KTup K a xs) (H : Hp) : SqT K H a xs := by
  obtain ⟨o, h1, h2, its, n, h3, h4, h5⟩ := h
  exact .inr ⟨o, its, n, h1, h2, h3, h4, h5⟩
def KeyOrd : List DictEntry → List Str → Prop
  | [], [] => True
  | e :: r, x :: xs => (∃ t, e.key = .str x t) ∧ KeyOrd r xs
  | _, _ => False
theorem KeyOrd.get : ∀ {es : List DictEntry} {ks : List Str} {i : Nat} {x : Str}, KeyOrd es ks → ks[i]? = some x → ∃ e t, es[i]? = some e ∧ e.key = .str x t
  | [], [], i, x, _, h => by simp at h
  | e :: r, y :: ys, 0, x, h, q => by
    obtain ⟨⟨t, h1⟩, _⟩ := h
    have e1 : y = x := Option.some.inj q
    subst e1
    exact ⟨e, t, rfl, h1⟩
  | e :: r, y :: ys, i + 1, x, h, q => by
    obtain ⟨e', t, h1, h2⟩ := KeyOrd.get (es := r) (ks := ys) (i := i) (x := x) h.2 (by simpa using q)
    exact ⟨e', t, by simpa using h1, h2⟩
  | [], _ :: _, _, _, h, _ => h.elim
  | _ :: _, [], _, _, h, _ => h.elim
theorem KeyOrd.len : ∀ {es : List DictEntry} {ks : List Str}, KeyOrd es ks → es.length = ks.length
  | [], [], _ => rfl
  | e :: r, y :: ys, h => by rw [List.length_cons, List.length_cons, KeyOrd.len h.2]
  | [], _ :: _, h => h.elim
  | _ :: _, [], h => h.elim
structure KDt (K : PySem.W.Frag) (w : World) (d : Addr) (kvs : List (Str × Int)) : Prop where
  all : ∀ p ∈ kvs, KDct K w d p.1 (.int p.2)
  keys : ∃ es n, K.lookup d = some ⟨.type "dict", none, .dict es n, #[]⟩ ∧ (d == sysModules) = false ∧ KeyOrd es.toList (kvs.map (·.1))
/-- the keys of a written dict, in their order -/
def KKeys (K : PySem.W.Frag) (d : Addr) (ks : List Str) : Prop := ∃ es n, K.lookup d = some ⟨.type "dict", none, .dict es n, #[]⟩ ∧ (d == sysModules) = false ∧ KeyOrd es.toList ks
def Itkk (ks : List Str) : It := ⟨fun i _ => i < ks.length, fun i H x H' => H' = H ∧ ∃ k, ks[i]? = some k ∧ x = .str k, fun i _ => ks.length ≤ i⟩
theorem turn_kkeys {P : Program} {w : World} {K : PySem.W.Frag} {tg : Expr} {d : Addr} {ks : List Str} {es : Array DictEntry} {n : Nat} (it : Addr) (hl : K.lookup d = some ⟨.type "dict", none, .dict es n, #[]⟩) (ho : KeyOrd es.toList ks) :
    Turn P w K tg (Itkk ks) [it] it (fun i h => h.IsKeyIter it d i ks.length n) where
  mem := by simp
  obj := fun i h st b hb => by
    have e : b = it := by simpa using hb
    subst e
    obtain ⟨oi, e, c, dd⟩ := st
    exact ⟨oi, e, fun v z => by rw [dd] at z; cases z⟩
  keep := fun i h h' st k => st.at fun oi e => k it (by simp) oi e
  item := by
    intro X hP hw hK hc i pins s σ H E I hf st hg
    subst hP hw hK
    obtain ⟨f0, f1, f2, f3, f4, f5⟩ := hf it (by simp)
    have hgd := I.kIn _ _ hl
    have hks : ks[i]? = some ks[i] := List.getElem?_eq_getElem hg
    obtain ⟨en, t, hen, hkey⟩ := ho.get hks
    have hsz : es.size = ks.length := by
      have := ho.len
      simpa using this
    refine next_key_item st hgd rfl hsz (en := en) (by simpa using hen) fun h' st' sb => ?_
    have I1 : Inv X pins σ H { s with heap := h' } := I.turned (t' := s.toks) (fun b ob hb e => (sb.2 b hb).trans e) f0 f1 f3 f4 f5
    obtain ⟨oi, e, c, dd⟩ := id st'
    exact ⟨en.key, rfl, go_of (s := { s with heap := h' }) e c dd (by decide) ⟨.str ks[i], H, I1, ⟨t, hkey⟩, ⟨rfl, _, hks, rfl⟩, st', fun b hb => (hf b hb).1⟩⟩
  done := by
    intro X hP hw hK hc i pins s σ H E I hf st hg
    subst hP hw hK
    obtain ⟨f0, f1, f2, f3, f4, f5⟩ := hf it (by simp)
    have hgd := I.kIn _ _ hl
    have hsz : es.size = ks.length := by
      have := ho.len
      simpa using this
    exact next_key_end (I.ok.hd hc) st hgd rfl hsz hg fun h' eb => ⟨rfl, I.turned (t' := s.toks) (fun b ob hb e => eb b ob hb e) f0 f1 f3 f4 f5⟩
  self := fun A i s Q E st h => wpAny_pyIter_keyiter st h
def iKKeys (K : PySem.W.Frag) (td : TE) : TI := fun σ H R => td σ H fun x H1 => ∃ d ks, x = .ref d ∧ KKeys K d ks ∧ R (Itkk ks) H1
theorem pi_kkeys {X : Cx} {tg e : Expr} {td : TE} (he : PE X e td) : PI X tg e (iKKeys X.K td) := by
  refine ⟨fun pins s σ H R I h => ?_⟩
  refine thn (he.run pins s σ H _ I h) fun u s1 ⟨x, H1, I1, rx, d, ks, ex, ⟨es, n, hl, hd, ho⟩, q⟩ => ?_
  subst ex
  obtain rfl : u = Value.ref d := rx
  have hsz : es.size = ks.length := by
    have := ho.len
    simpa using this
  refine iter_keys hd (I1.kIn _ _ hl) ⟨rfl, rfl, rfl⟩ rfl (pi_one (tk := s1.toks) I1 _ (turn_kkeys _ hl ho) ⟨_, Heap.get?_push_size _ rfl, rfl, ?_⟩ q)
  rw [hsz]
  rfl
end My

namespace My
open PySem PySem.Spec PyProof.Rows L2
/-! ### the mathematics -/
def bitsL (n : Int) (m : Nat) : List Int := (List.range m).map fun i => n / 2 ^ i % 2
def numOf : List Int → Int
  | [] => 0
  | b :: r => b + 2 * numOf r
def highOf (l : List Int) : Int := l.foldl (fun f b => 2 * f + b) 0
def Bit (l : List Int) : Prop := ∀ b ∈ l, b = 0 ∨ b = 1
def okD : Nat → PyData → Prop
  | _, .none => True
  | _, .bool _ => True
  | _, .int _ => True
  | _, .str _ => True
  | 0, .list _ => False
  | 0, .tuple _ => False
  | n + 1, .list ds => ds.length ≤ 1000 ∧ ∀ d ∈ ds, okD n d
  | n + 1, .tuple ds => ds.length ≤ 1000 ∧ ∀ d ∈ ds, okD n d
  | _, .dict _ => False
/-- the bag of a law at p: the script (the list cs at c), a place, what is left of a number, a knot -/
def Bag (K : PySem.W.Frag) (c : Addr) (cs : List Int) (H : Hp) (p : Addr) : Prop := ∃ i s k : Int, H p = some (.lst [.ref c, .int i, .int s, .int k]) ∧ SqL K H c (cs.map V.int) ∧ cs.length ≤ 63 ∧ 0 ≤ i
def isNum (d : PyData) (lo hi : Int) : Bool := match d with
  | .int i => decide (lo ≤ i) && decide (i ≤ hi)
  | _ => false
def isInt (d : PyData) : Bool := match d with
  | .int _ => true
  | _ => false
def bitsOk (n m : Int) : Prop := 0 ≤ n ∧ 0 ≤ m ∧ m ≤ 64
/-! ### the mathematics, shown -/
theorem bitsL_len (n : Int) (m : Nat) : (bitsL n m).length = m := by simp [bitsL]
theorem bitsL_get {n : Int} {m j : Nat} (h : j < m) : (bitsL n m)[j]? = some (n / 2 ^ j % 2) := by
  simp [bitsL, h]
theorem bitsL_more (n : Int) (m : Nat) : bitsL n (m + 1) = bitsL n m ++ [n / 2 ^ m % 2] := by
  simp [bitsL, List.range_succ]
theorem bitsL_bit (n : Int) (m : Nat) : Bit (bitsL n m) := by
  intro b hb
  simp only [bitsL, List.mem_map] at hb
  obtain ⟨i, _, rfl⟩ := hb
  omega
theorem Bit.rev {l : List Int} (h : Bit l) : Bit l.reverse := fun b hb => h b (List.mem_reverse.mp hb)
theorem take_one {α : Type} : ∀ {l : List α} {i : Nat} {x : α}, l[i]? = some x → l.take (i + 1) = l.take i ++ [x]
  | [], i, x, h => by simp at h
  | a :: l, 0, x, h => by
    have e : a = x := Option.some.inj h
    subst e
    rfl
  | a :: l, i + 1, x, h => by
    have ih := take_one (l := l) (i := i) (x := x) h
    show a :: l.take (i + 1) = a :: l.take i ++ [x]
    rw [ih]
    rfl
theorem numOf_app : ∀ (l : List Int) (b : Int), numOf (l ++ [b]) = numOf l + b * 2 ^ l.length
  | [], b => by simp [numOf]
  | a :: l, b => by
    have ih := numOf_app l b
    show a + 2 * numOf (l ++ [b]) = a + 2 * numOf l + b * 2 ^ (l.length + 1)
    rw [ih, Int.pow_succ, Int.mul_add]
    have e : 2 * (b * 2 ^ l.length) = b * (2 ^ l.length * 2) := by
      rw [Int.mul_comm 2 (b * 2 ^ l.length), Int.mul_assoc]
    rw [e]
    omega
theorem numOf_take {l : List Int} {j : Nat} {b : Int} (h : l[j]? = some b) : numOf (l.take (j + 1)) = numOf (l.take j) + b * 2 ^ j := by
  have hl : j < l.length := (List.getElem?_eq_some_iff.mp h).1
  rw [take_one h, numOf_app, List.length_take, Nat.min_eq_left (by omega)]
theorem highOf_app (l : List Int) (b : Int) : highOf (l ++ [b]) = 2 * highOf l + b := by
  simp [highOf, List.foldl_append]
theorem highOf_rev : ∀ l : List Int, highOf l.reverse = numOf l
  | [] => rfl
  | b :: l => by
    rw [List.reverse_cons, highOf_app, highOf_rev l]
    show 2 * numOf l + b = b + 2 * numOf l
    omega
theorem highOf_num (l : List Int) : highOf l = numOf l.reverse := by
  have := highOf_rev l.reverse
  rw [List.reverse_reverse] at this
  exact this
theorem cutV_all {xs : List V} {k : Int} (h : (xs.length : Int) ≤ k) : cutV xs none (some k) = xs := by
  obtain ⟨n, rfl⟩ : ∃ n : Nat, k = n := ⟨k.toNat, by omega⟩
  unfold cutV
  rw [HT.sIx_none, HT.sIx_nat, List.drop_zero, Nat.min_eq_right (by omega), Nat.sub_zero, List.take_length]
theorem half_half (n : Int) (j : Nat) : n / 2 ^ j / 2 = n / 2 ^ (j + 1) := by
  rw [Int.pow_succ, Int.ediv_ediv_of_nonneg (Int.pow_nonneg (by decide))]
/-! ### bits of natural numbers -/
theorem xor_and_sum : ∀ (n a b : Nat), a < 2 ^ n → a + b = (a ^^^ b) + 2 * (a &&& b)
  | 0, a, b, h => by
    have : a = 0 := by simpa using h
    subst this
    simp
  | n + 1, a, b, h => by
    have ih := xor_and_sum n (a / 2) (b / 2) (by omega)
    have h1 : (a ^^^ b) / 2 = a / 2 ^^^ b / 2 := Nat.xor_div_two
    have h2 : (a &&& b) / 2 = a / 2 &&& b / 2 := Nat.and_div_two
    have h3 : (a ^^^ b) % 2 = 1 ↔ ¬ ((a % 2 = 1) ↔ (b % 2 = 1)) := Nat.xor_mod_two_eq_one
    have h4 : (a &&& b) % 2 = 1 ↔ (a % 2 = 1 ∧ b % 2 = 1) := Nat.and_mod_two_eq_one
    rw [← h1, ← h2] at ih
    generalize a ^^^ b = x at *
    generalize a &&& b = y at *
    omega
theorem bitAnd_nn (a b : Nat) : Builtin.bitAnd (a : Int) (b : Int) = ((a &&& b : Nat) : Int) := by
  unfold Builtin.bitAnd
  simp
theorem bitXor_nn (a b : Nat) : Builtin.bitXor (a : Int) (b : Int) = ((a ^^^ b : Nat) : Int) := by
  rw [bitXor_and, bitAnd_nn]
  have := xor_and_sum a a b Nat.lt_two_pow_self
  omega
def bit (b : Bool) : Int := if b then 1 else 0
theorem bit_inj {a b : Bool} : bit a = bit b ↔ a = b := by cases a <;> cases b <;> simp [bit]
theorem bit_one {a : Bool} : bit a = 1 ↔ a = true := by cases a <;> simp [bit]
theorem bit_xor (a b : Bool) : (bit a + bit b) % 2 = bit (a ^^ b) := by cases a <;> cases b <;> rfl
theorem bit_not (a : Bool) : 1 - bit a = bit (!a) := by cases a <;> rfl
theorem bit_of {x : Int} (h : x = 0 ∨ x = 1) : x = bit (decide (x = 1)) := by rcases h with rfl | rfl <;> rfl
theorem bit_01 (a : Bool) : bit a = 0 ∨ bit a = 1 := by cases a <;> simp [bit]
theorem highOf_bits : ∀ (w N : Nat), N < 2 ^ w → highOf ((List.range w).map fun t => bit (N.testBit (w - 1 - t))) = N
  | 0, N, h => by
    have : N = 0 := by simpa using h
    subst this
    rfl
  | w + 1, N, h => by
    rw [List.range_succ, List.map_append]
    show highOf (_ ++ [_]) = _
    rw [highOf_app]
    have e : ((List.range w).map fun t => bit (N.testBit (w + 1 - 1 - t))) = (List.range w).map fun t => bit ((N / 2).testBit (w - 1 - t)) := by
      apply List.map_congr_left
      intro t ht
      have := List.mem_range.mp ht
      rw [show w + 1 - 1 - t = (w - 1 - t) + 1 by omega, Nat.testBit_succ]
    rw [e, highOf_bits w (N / 2) (by omega)]
    show 2 * ((N / 2 : Nat) : Int) + bit (N.testBit (w + 1 - 1 - w)) = N
    rw [show w + 1 - 1 - w = 0 by omega, Nat.testBit_zero]
    by_cases c : N % 2 = 1
    · rw [decide_eq_true c]
      show 2 * ((N / 2 : Nat) : Int) + 1 = N
      omega
    · rw [decide_eq_false c]
      show 2 * ((N / 2 : Nat) : Int) + 0 = N
      omega
/-! ### the register -/
def crcStep (w m : Nat) (h : Nat) (b : Int) : Nat := if (bit (h.testBit (w - 1))) ≠ b then ((2 * h) % 2 ^ w) ^^^ m else (2 * h) % 2 ^ w
def crcHeld (w m : Nat) (l : List Int) : Nat := l.foldl (crcStep w m) (2 ^ w - 1)
def crc (w m : Nat) (l : List Int) : Nat := crcHeld w m l ^^^ (2 ^ w - 1)
theorem crcStep_lt {w m h : Nat} {b : Int} (hm : m < 2 ^ w) : crcStep w m h b < 2 ^ w := by
  have h1 : (2 * h) % 2 ^ w < 2 ^ w := Nat.mod_lt _ (Nat.two_pow_pos w)
  unfold crcStep
  split
  · exact Nat.xor_lt_two_pow h1 hm
  · exact h1
theorem crcHeld_app (w m : Nat) (l : List Int) (b : Int) : crcHeld w m (l ++ [b]) = crcStep w m (crcHeld w m l) b := by
  unfold crcHeld
  rw [List.foldl_append]
  rfl
theorem foldl_lt {w m : Nat} (hm : m < 2 ^ w) : ∀ (l : List Int) (h : Nat), h < 2 ^ w → l.foldl (crcStep w m) h < 2 ^ w
  | [], h, hh => hh
  | b :: l, h, _ => foldl_lt hm l _ (crcStep_lt hm)
theorem crcHeld_lt {w m : Nat} (hm : m < 2 ^ w) (l : List Int) : crcHeld w m l < 2 ^ w := foldl_lt hm l _ (Nat.sub_lt (Nat.two_pow_pos w) (by decide))
theorem crc_lt {w m : Nat} (hm : m < 2 ^ w) (l : List Int) : crc w m l < 2 ^ w := Nat.xor_lt_two_pow (crcHeld_lt hm l) (Nat.sub_lt (Nat.two_pow_pos w) (by decide))
theorem top_bit {w h : Nat} (hw : 1 ≤ w) (hh : h < 2 ^ w) : ((h / 2 ^ (w - 1) : Nat) : Int) = bit (h.testBit (w - 1)) := by
  have h2 : h / 2 ^ (w - 1) < 2 := by
    rw [Nat.div_lt_iff_lt_mul (Nat.two_pow_pos _)]
    have : 2 ^ w = 2 * 2 ^ (w - 1) := by
      rw [← Nat.pow_succ']
      congr 1
      omega
    omega
  rw [Nat.testBit_eq_decide_div_mod_eq]
  have : h / 2 ^ (w - 1) = 0 ∨ h / 2 ^ (w - 1) = 1 := by
    generalize h / 2 ^ (w - 1) = x at *
    omega
  rcases this with e | e <;> rw [e] <;> rfl
/-! ### the long division -/
def mnum (ms : List Int) : Nat := (highOf ms).toNat
def rowb (l : List Int) (j : Nat) : Bool := decide (l.getD j 0 = 1)
/-- what stands at j when i places are divided away -/
def ex (w m : Nat) (l : List Int) (i j : Nat) : Bool := rowb l j ^^ (decide (j < i + w) && (crcHeld w m (l.take i)).testBit (w - 1 - (j - i)))
theorem ex_step {w m : Nat} {l : List Int} {i j : Nat} (hl : Bit l) (hw : 1 ≤ w) (hi : i < l.length) (hj : i + 1 ≤ j) :
    ex w m l (i + 1) j = (ex w m l i j ^^ (ex w m l i i && (decide (j ≤ i + w) && m.testBit (w - (j - i))))) := by
  have hb : l[i]? = some l[i] := List.getElem?_eq_getElem hi
  have ht : l.take (i + 1) = l.take i ++ [l[i]] := take_one hb
  have h01 := hl l[i] (List.getElem_mem hi)
  unfold ex
  rw [ht, crcHeld_app]
  generalize crcHeld w m (l.take i) = h
  have ri : rowb l i = decide (l[i] = 1) := by
    unfold rowb
    rw [List.getD_eq_getElem?_getD, hb]
    rfl
  rw [ri]
  generalize rowb l j = rj
  generalize l[i] = b at h01
  have cond : (bit (h.testBit (w - 1)) ≠ b) ↔ (decide (b = 1) ^^ (decide (i < i + w) && h.testBit (w - 1 - (i - i)))) = true := by
    rw [decide_eq_true (show i < i + w by omega), Nat.sub_self, Nat.sub_zero, Bool.true_and]
    generalize h.testBit (w - 1) = x
    rcases h01 with rfl | rfl <;> cases x <;> simp [bit]
  have stp : ∀ k, k < w → (crcStep w m h b).testBit k = ((decide (k ≠ 0) && h.testBit (k - 1)) ^^ ((decide (b = 1) ^^ (decide (i < i + w) && h.testBit (w - 1 - (i - i)))) && m.testBit k)) := by
    intro k hk
    have h2 : ((2 * h) % 2 ^ w).testBit k = (decide (k ≠ 0) && h.testBit (k - 1)) := by
      rw [Nat.testBit_mod_two_pow, decide_eq_true hk, Bool.true_and]
      cases k with
      | zero => simp
      | succ k => rw [Nat.testBit_succ, Nat.mul_div_cancel_left _ (by decide)]; simp
    unfold crcStep
    by_cases c : bit (h.testBit (w - 1)) ≠ b
    · rw [if_pos c, cond.mp c, Nat.testBit_xor, h2, Bool.true_and]
    · have c2 := Bool.eq_false_iff.mpr (fun z => c (cond.mpr z))
      rw [if_neg c, c2, h2, Bool.false_and, Bool.xor_false]
  by_cases c1 : j < i + w
  · rw [decide_eq_true (show j < i + 1 + w by omega), decide_eq_true c1, decide_eq_true (show j ≤ i + w by omega), Bool.true_and, Bool.true_and, Bool.true_and, stp _ (by omega)]
    rw [show w - 1 - (j - (i + 1)) = w - (j - i) by omega, decide_eq_true (show w - (j - i) ≠ 0 by omega), Bool.true_and, show w - (j - i) - 1 = w - 1 - (j - i) by omega, Bool.xor_assoc]
  · by_cases c2 : j = i + w
    · rw [decide_eq_true (show j < i + 1 + w by omega), decide_eq_false c1, decide_eq_true (show j ≤ i + w by omega), Bool.true_and, Bool.false_and, Bool.true_and, Bool.xor_false, stp _ (by omega)]
      rw [show w - 1 - (j - (i + 1)) = 0 by omega, show w - (j - i) = 0 by omega]
      simp
    · rw [decide_eq_false (show ¬ j < i + 1 + w by omega), decide_eq_false c1, decide_eq_false (show ¬ j ≤ i + w by omega)]
      simp
theorem ex_start {w m : Nat} {l : List Int} {j : Nat} (hw : 1 ≤ w) : ex w m l 0 j = (rowb l j ^^ decide (j < w)) := by
  unfold ex crcHeld
  rw [List.take_zero, List.foldl_nil, Nat.testBit_two_pow_sub_one, Nat.sub_zero, Nat.zero_add, decide_eq_true (show w - 1 - j < w by omega), Bool.and_true]
theorem ex_end {w m : Nat} {l : List Int} {t : Nat} (ht : t < w) : (!(ex w m l l.length (l.length + t))) = (crc w m l).testBit (w - 1 - t) := by
  unfold ex crc
  rw [List.take_length, Nat.testBit_xor, Nat.testBit_two_pow_sub_one, decide_eq_true (show w - 1 - t < w by omega), Bool.xor_true, Nat.add_sub_cancel_left, decide_eq_true (show l.length + t < l.length + w by omega), Bool.true_and]
  have : rowb l (l.length + t) = false := by
    unfold rowb
    rw [List.getD_eq_getElem?_getD, List.getElem?_eq_none (by omega)]
    rfl
  rw [this, Bool.false_xor]
/-! ### the bag -/
theorem bag_ne {K : PySem.W.Frag} {H : Hp} {p c : Addr} {cs : List Int} {ys : List V} (h : H p = some (.lst (.ref c :: ys))) (hS : SqL K H c (cs.map V.int)) : (∀ o, SqL K (upd H p o) c (cs.map V.int)) := fun o => by
  rcases hS with (e | ⟨ob, e⟩) | e
  · refine .inl (.inl ?_)
    rw [upd_ne]
    · exact e
    · intro z
      subst z
      rw [h] at e
      cases cs <;> simp at e
  · refine .inl (.inr ⟨ob, ?_⟩)
    rw [upd_ne]
    · exact e
    · intro z
      subst z
      rw [h] at e
      cases e
  · exact .inr e
theorem upd_off {H : Hp} {p : Addr} {o : HO} : ∀ b, b ≠ p → upd H p o b = H b := fun b h => upd_ne h
theorem bag_mk {K : PySem.W.Frag} {H : Hp} {p c : Addr} {cs : List Int} {i s k i' s' k' : Int} (h : H p = some (.lst [.ref c, .int i, .int s, .int k])) (hS : SqL K H c (cs.map V.int)) (hl : cs.length ≤ 63) (h0 : 0 ≤ i') :
    Bag K c cs (upd H p (.lst [.ref c, .int i', .int s', .int k'])) p := ⟨i', s', k', upd_same, bag_ne h hS _, hl, h0⟩
theorem Bag.mono {K : PySem.W.Frag} {H H' : Hp} {B c : Addr} {cs : List Int} (b : Bag K c cs H B) (e : Ex H H') : Bag K c cs H' B := by
  obtain ⟨i, s, k, h1, h2, h3, h4⟩ := b
  exact ⟨i, s, k, e _ _ h1, e.sqL h2, h3, h4⟩
theorem Bag.there {K : PySem.W.Frag} {H : Hp} {B c : Addr} {cs : List Int} (b : Bag K c cs H B) : H B ≠ none := by
  obtain ⟨i, s, k, h1, h2, h3, h4⟩ := b
  rw [h1]
  exact fun z => nomatch z
/-- the bag turned, all else as it was: so too without an object -/
theorem Bag.turned {K : PySem.W.Frag} {H H' : Hp} {B D c : Addr} {cs : List Int} (b : Bag K c cs (wo [D] H) B) (b' : Bag K c cs H' B) (off : ∀ x, x ≠ B → H' x = H x) : Bag K c cs (wo [D] H') B := by
  obtain ⟨i, s, k, h1, h2, h3, h4⟩ := b
  obtain ⟨i', s', k', h1', _, _, h4'⟩ := b'
  have nD : B ∉ [D] := fun z => by
    unfold wo at h1
    rw [if_pos z] at h1
    cases h1
  refine ⟨i', s', k', by rw [wo_get nD]; exact h1', ?_, h3, h4'⟩
  have o2 : ∀ x, x ≠ B → wo [D] H' x = wo [D] H x := fun x hx => by
    unfold wo
    split
    · rfl
    · exact off x hx
  rcases h2 with (e | ⟨ob, e⟩) | e
  · refine .inl (.inl ?_)
    rw [o2]
    · exact e
    · intro z
      subst z
      rw [h1] at e
      cases cs <;> simp at e
  · refine .inl (.inr ⟨ob, ?_⟩)
    rw [o2]
    · exact e
    · intro z
      subst z
      rw [h1] at e
      cases e
  · exact .inr e
theorem off_wo {B : Addr} {H H' : Hp} (off : ∀ x, x ≠ B → H' x = H x) : Ex (wo [B] H) (wo [B] H') := fun b o h => by
  unfold wo at h ⊢
  split at h
  · cases h
  · rename_i z
    rw [if_neg z, off b (fun e => z (by rw [e]; exact List.mem_singleton.mpr rfl))]
    exact h
theorem atI_ints {ns : List Int} {i : Int} (h0 : 0 ≤ i) (h1 : i < ns.length) : ∃ x, x ∈ ns ∧ atI (ns.map V.int) i = some (.int x) := by
  refine ⟨ns[i.toNat]'(by omega), List.getElem_mem _, ?_⟩
  refine at_of (j := i.toNat) (by omega) ?_
  rw [List.getElem?_map, List.getElem?_eq_getElem (by omega)]
  rfl
theorem okD_len {n : Nat} {ds : List PyData} : okD n (.list ds) → ds.length ≤ 1000 ∧ ∃ k, n = k + 1 ∧ ∀ d ∈ ds, okD k d := by
  intro h
  cases n with
  | zero => exact h.elim
  | succ k => exact ⟨h.1, k, rfl, h.2⟩
theorem okD_lenT {n : Nat} {ds : List PyData} : okD n (.tuple ds) → ds.length ≤ 1000 ∧ ∃ k, n = k + 1 ∧ ∀ d ∈ ds, okD k d := by
  intro h
  cases n with
  | zero => exact h.elim
  | succ k => exact ⟨h.1, k, rfl, h.2⟩
theorem all_true (n : Nat) : ((List.range n).map fun _ => true).all id = true := by
  rw [List.all_eq_true]
  intro b hb
  obtain ⟨_, _, rfl⟩ := List.mem_map.mp hb
  rfl
theorem tyS : (∀ b, isTyp (.bool b) "bool" = true) ∧ (∀ b, isTyp (.bool b) "int" = true) ∧ (∀ i, isTyp (.int i) "bool" = false) ∧ (∀ i, isTyp (.int i) "int" = true) ∧ (∀ x, isTyp (.str x) "bool" = false) ∧ (∀ x, isTyp (.str x) "int" = false) ∧ (∀ x, isTyp (.str x) "str" = true) :=
  ⟨fun _ => by show isTypN _ _ = _; simp only [tyName]; decide, fun _ => by show isTypN _ _ = _; simp only [tyName]; decide, fun _ => by show isTypN _ _ = _; simp only [tyName]; decide, fun _ => by show isTypN _ _ = _; simp only [tyName]; decide, fun _ => by show isTypN _ _ = _; simp only [tyName]; decide, fun _ => by show isTypN _ _ = _; simp only [tyName]; decide, fun _ => by show isTypN _ _ = _; simp only [tyName]; decide⟩
theorem tyL (ds : List PyData) : isTyp (.list ds) "bool" = false ∧ isTyp (.list ds) "int" = false ∧ isTyp (.list ds) "str" = false ∧ isTyp (.list ds) "list" = true ∧ isTyp (.list ds) "tuple" = false := by
  refine ⟨?_, ?_, ?_, ?_, ?_⟩ <;> (show isTypN _ _ = _; simp only [tyName]; decide)
theorem tyT (ds : List PyData) : isTyp (.tuple ds) "bool" = false ∧ isTyp (.tuple ds) "int" = false ∧ isTyp (.tuple ds) "str" = false ∧ isTyp (.tuple ds) "list" = false ∧ isTyp (.tuple ds) "tuple" = true := by
  refine ⟨?_, ?_, ?_, ?_, ?_⟩ <;> (show isTypN _ _ = _; simp only [tyName]; decide)
theorem kit_self {K : PySem.W.Frag} {v : Value} : PySem.W.kitOne K v v = some true := if_pos (beq_self_eq_true v)
theorem kit_bi {K : PySem.W.Frag} {C : Addr} {T : String} {b : Bool} (h : PySem.W.kitMeta T = true) (hs : PySem.W.subIn K (.ref C) (.type T) = some b) : PySem.W.kitOne K (.ref C) (.type T) = some b := by
  show (if (Value.ref C == Value.type T) = true then some true else if PySem.W.kitMeta T = true then PySem.W.subIn K (.ref C) (.type T) else none) = some b
  rw [if_neg (by rw [beq_eq_false_iff_ne.mpr (fun z => by cases z)]; decide), if_pos h]
  exact hs
def RD (sp : Sp) (t : TS) (N : List Str) : Prop := ∀ vs H Q E, sp vs H Q E → t { nx := fun _ H' => Q .non H', rt := Q } (start N vs) H
def RDX (sp : Sp) (t : XK → TS) (N : List Str) : Prop := ∀ vs H Q E, sp vs H Q E → t E { nx := fun _ H' => Q .non H', rt := Q } (start N vs) H
/-- [y for x in t for y in f(x)], t a tuple, f(x) a new list ys j -/
theorem lc2TL {K : PySem.W.Frag} {tl tl1 : TE} {g g1 : TG} {tt tt1 : TT} {te : TE} {vs vs1 : List Nat} {σ : L2.St} {H : Hp} {Q : VK} {a : Addr} {xs : List V} (i i1 : Nat) (ys : Nat → List V) (ht : ∀ R : VK, R (.ref a) H → tl σ H R) (hS : SqT K H a xs)
    (hn : ((List.range xs.length).flatMap ys).length ≤ 100000)
    (hw : ∀ x, wipe ((wipe σ vs).set i (some x)) vs = wipe σ vs)
    (hw1 : ∀ x y, wipe ((wipe ((wipe σ vs).set i (some x)) vs1).set i1 (some y)) vs1 = wipe ((wipe σ vs).set i (some x)) vs1)
    (hin : ∀ (j : Nat) x H1 (R : VK), xs[j]? = some x → (∀ b H2, H1 b = none → Ex H1 H2 → H2 b = some (.lst (ys j)) → R (.ref b) H2) → tl1 ((wipe σ vs).set i (some x)) H1 R)
    (he : ∀ x y H1 (R : VK), R y H1 → te ((wipe ((wipe σ vs).set i (some x)) vs1).set i1 (some y)) H1 R)
    (k : ∀ D H', H D = none → Ex H H' → H' D = some (.lst ((List.range xs.length).flatMap ys)) → Q (.ref D) H')
    (hg : g = gName i := by rfl) (hg1 : g1 = gName i1 := by rfl) (htt : tt = tYes := by rfl) (htt1 : tt1 = tYes := by rfl) : tLc2 (iTup K tl) g tt (iList K tl1) g1 tt1 te vs vs1 σ H Q := by
  subst hg hg1 htt htt1
  refine ht _ ⟨a, rfl, ⟨xs, hS⟩, fun D hD => ?_⟩
  have acc1 : ∀ j, (List.range (j + 1)).flatMap ys = (List.range j).flatMap ys ++ ys j := fun j => by simp [List.range_succ]
  have hmono : ∀ j, j ≤ xs.length → ((List.range j).flatMap ys).length ≤ 100000 := by
    intro j hj
    refine Nat.le_trans ?_ hn
    obtain ⟨d, e⟩ : ∃ d, xs.length = j + d := ⟨xs.length - j, by omega⟩
    rw [e, List.range_add, List.flatMap_append, List.length_append]
    omega
  refine ⟨fun j m H' => m = xs.length - j ∧ j ≤ xs.length ∧ Ex H H' ∧ H' D = some (.lst ((List.range j).flatMap ys)), ⟨xs.length, by simp, Nat.zero_le _, Ex.new hD, upd_same⟩, ?_⟩
  rintro j m H1 ⟨rfl, hj, e, hd⟩
  have q := Ex.sqT e hS
  by_cases hlt : j < xs.length
  · refine .inr ⟨⟨xs, xs[j], q, by simp [hlt]⟩, fun H' => Ex H H' ∧ H' D = some (.lst ((List.range (j + 1)).flatMap ys)), fun H' p => ⟨xs.length - (j + 1), by omega, rfl, hlt, p.1, p.2⟩, fun x H' y => ?_⟩
    obtain ⟨e', y⟩ := y
    subst e'
    have hx := y xs q
    refine ⟨hw x, ?_⟩
    simp only [tYes, if_true]
    refine hin j x _ _ hx (fun b H2 hb e2 hb2 => ?_)
    have nbD : b ≠ D := fun z => by
      rw [z, hd] at hb
      cases hb
    refine ⟨b, rfl, ⟨_, SqL.of hb2⟩, fun t k H' => k = (ys j).length - t ∧ t ≤ (ys j).length ∧ Ex H H' ∧ H' b = some (.lst (ys j)) ∧ H' D = some (.lst ((List.range j).flatMap ys ++ (ys j).take t)), ⟨(ys j).length, by simp, Nat.zero_le _, Same.trans e e2, hb2, ?_⟩, ?_⟩
    · rw [List.take_zero, List.append_nil]
      exact e2 _ _ hd
    · rintro t k H3 ⟨rfl, htl, e3, hb3, hd3⟩
      have q3 : SqL K H3 b (ys j) := SqL.of hb3
      by_cases hl2 : t < (ys j).length
      · refine .inr ⟨⟨ys j, (ys j)[t], q3, by simp [hl2]⟩, fun H' => Ex H H' ∧ H' b = some (.lst (ys j)) ∧ H' D = some (.lst ((List.range j).flatMap ys ++ (ys j).take (t + 1))), fun H' p => ⟨(ys j).length - (t + 1), by omega, rfl, hl2, p.1, p.2.1, p.2.2⟩, fun y' H' yy => ?_⟩
        obtain ⟨e', yy⟩ := yy
        subst e'
        have hy := yy _ q3
        refine ⟨hw1 x y', ?_⟩
        simp only [tYes, if_true]
        refine he x y' _ _ ⟨_, hd3, ?_, ?_, ?_, ?_⟩
        · have h1 := hmono (j + 1) hlt
          rw [acc1, List.length_append] at h1
          rw [List.length_append, List.length_take]
          exact Nat.lt_of_le_of_lt (show _ ≤ 100000 by omega) (by decide)
        · exact Ex.mut e3 hD
        · rw [upd_ne nbD]
          exact hb3
        · rw [upd_same, take_one hy, List.append_assoc]
      · have et : t = (ys j).length := by omega
        subst et
        refine .inl ⟨⟨_, q3, Nat.le_refl _⟩, e3, ?_⟩
        rw [hd3, acc1, List.take_length]
  · have ej : j = xs.length := by omega
    subst ej
    exact .inl ⟨⟨xs, q, Nat.le_refl _⟩, k D H1 hD e hd⟩
/-! ### tuples cut and joined -/
theorem cut_take {xs : List V} {i : Int} (h : 0 ≤ i) : cutV xs none (some i) = xs.take i.toNat := by
  obtain ⟨n, rfl⟩ : ∃ n : Nat, i = n := ⟨i.toNat, by omega⟩
  unfold cutV
  rw [HT.sIx_none, HT.sIx_nat, List.drop_zero, Nat.sub_zero, Int.toNat_natCast]
  by_cases c : n ≤ xs.length
  · rw [Nat.min_eq_left c]
  · rw [Nat.min_eq_right (by omega), List.take_length, List.take_of_length_le (by omega)]
theorem cut_drop {xs : List V} {i : Int} (h : 0 ≤ i) : cutV xs (some i) none = xs.drop i.toNat := by
  obtain ⟨n, rfl⟩ : ∃ n : Nat, i = n := ⟨i.toNat, by omega⟩
  unfold cutV
  rw [HT.sIx_none, HT.sIx_nat, Int.toNat_natCast]
  by_cases c : n ≤ xs.length
  · rw [Nat.min_eq_left c, List.take_of_length_le (by rw [List.length_drop]; exact Nat.le_refl _)]
  · rw [Nat.min_eq_right (by omega), List.drop_length, List.take_nil, List.drop_eq_nil_of_le (by omega)]
theorem slT_go {K : PySem.W.Frag} {H : Hp} {t : Addr} {xs : List V} {lo hi : Option Int} {Q : VK} (hS : SqT K H t xs) (k : ∀ t' H', Ex H H' → SqT K H' t' (cutV xs lo hi) → Q (.ref t') H') : rSlA K (.ref t) lo hi H Q := by
  refine ⟨t, xs, rfl, hS, fun hw => ?_, fun _ p hp => k p _ (Ex.new hp) (SqT.of upd_same)⟩
  refine k t H (Same.refl _) ?_
  have : cutV xs lo hi = xs := by
    unfold cutV
    rw [hw.1, hw.2, List.drop_zero, Nat.sub_zero, List.take_length]
  rw [this]
  exact hS
theorem catT_go {K : PySem.W.Frag} {H : Hp} {t u : Addr} {xs ys : List V} {Q : VK} (hx : SqT K H t xs) (hy : SqT K H u ys) (hl : xs.length + ys.length ≤ 100000) (k : ∀ t' H', Ex H H' → SqT K H' t' (xs ++ ys) → Q (.ref t') H') : rCatA K (.ref t) (.ref u) H Q := by
  refine ⟨t, u, xs, ys, rfl, rfl, hx, hy, Nat.le_trans hl (by decide), fun e => ?_, fun _ e => ?_, fun _ _ p hp => k p _ (Ex.new hp) (SqT.of upd_same)⟩
  · subst e
    exact k u H (Same.refl _) hy
  · subst e
    rw [List.append_nil] at k
    exact k t H (Same.refl _) hx
theorem cpow {b e : Int} (h1 : 0 ≤ b) (h2 : b < 1000) (h3 : 0 ≤ e) (h4 : e < 1000) : CPow b e := ⟨h3, by omega, by omega⟩
def byteN (n : Int) : Bool := decide (0 ≤ n) && decide (n ≤ 255)
def sum5N (n : Int) : Nat := crc 5 5 (bitsL n 11)
def bytesBits (ns : List Int) : List Int := ns.flatMap fun n => bitsL n 8
def sum16N (ns : List Int) : Nat := crc 16 32773 (bytesBits ns)
/-! ### packets -/
inductive Arg where
  | int (i : Int)
  | byt (ns : List Int)
def Arg.d : Arg → PyData
  | .int i => .int i
  | .byt ns => .tuple (ns.map PyData.int)
def tokW : List Str := ["out", "in", "setup"]
def ansW : List Str := ["ack", "nak", "stall"]
def code (w : Str) : Int :=
  if w = "out" then 1 else if w = "ack" then 2 else if w = "frame" then 5 else if w = "in" then 9 else if w = "nak" then 10 else if w = "setup" then 13 else 14
def hd (c : Int) : Int := c + 16 * (15 - c)
def two (n : Int) : List Int := [n % 256, n / 256]
def num11 (n : Int) : Int := n + 2048 * numOf (bitsL (sum5N n) 5).reverse
def num16 (ns : List Int) : Int := numOf (bitsL (sum16N ns) 16).reverse
inductive Pk where
  | tok (w : Str) (n e : Int)
  | frm (n : Int)
  | dat (m : Int) (ns : List Int)
  | ans (w : Str)
def Pk.ok : Pk → Prop
  | .tok w n e => w ∈ tokW ∧ 0 ≤ n ∧ n ≤ 127 ∧ 0 ≤ e ∧ e ≤ 15
  | .frm n => 0 ≤ n ∧ n ≤ 2047
  | .dat m ns => (m = 0 ∨ m = 1) ∧ ns.length ≤ 64 ∧ ns.all byteN = true
  | .ans w => w ∈ ansW
def Pk.ds : Pk → List PyData
  | .tok w n e => [.str w, .int n, .int e]
  | .frm n => [.str "frame", .int n]
  | .dat m ns => [.str "data", .int m, .tuple (ns.map PyData.int)]
  | .ans w => [.str w]
def Pk.bytes : Pk → List Int
  | .tok w n e => hd (code w) :: two (num11 (n + 128 * e))
  | .frm n => hd 5 :: two (num11 n)
  | .dat m ns => hd (if m = 0 then 3 else 11) :: (ns ++ two (num16 ns))
  | .ans w => [hd (code w)]
/-- a tuple as it may be handed in: none, or a word and numbers or rows of numbers -/
def Shape (ds : List PyData) : Prop := ds = [] ∨ ∃ (w : Str) (args : List Arg), ds = .str w :: args.map Arg.d
def isTokD : List PyData → Bool
  | [.str w, x, y] => decide (w ∈ tokW) && (isNum x 0 127 && isNum y 0 15)
  | _ => false
def isFrmD : List PyData → Bool
  | [.str w, x] => decide (w = "frame") && isNum x 0 2047
  | _ => false
def isPcD : PyData → Bool
  | .tuple ds => decide (ds.length ≤ 64) && ds.all fun d => isNum d 0 255
  | _ => false
def isDatD : List PyData → Bool
  | [.str w, m, x] => decide (w = "data") && (isNum m 0 1 && isPcD x)
  | _ => false
def isAnsD : List PyData → Bool
  | [.str w] => decide (w ∈ ansW)
  | _ => false
theorem inV_strs (w : Str) (ws : List Str) : inV (.str w) (ws.map V.str) = decide (w ∈ ws) := by
  induction ws with
  | nil => rfl
  | cons x ws ih =>
    show (eqV (.str x) (.str w) || inV (.str w) (ws.map V.str)) = _
    rw [ih]
    by_cases e : x = w
    · subst e
      simp [eqV]
    · simp [eqV, e, Ne.symm e]
end My

namespace My
open PySem PySem.Spec PyProof.Rows L2
def Small (ds : List PyData) : Prop := ∀ ns : List Int, PyData.tuple (ns.map PyData.int) ∈ ds → ns.length ≤ 1000
def cutB (row : List Int) : List Int := (row.drop 1).take (row.length - 3)
/-- the packet of a word that might write a row -/
def wordD (w : Str) (row : List Int) : List PyData :=
  if w ∈ ansW then [.str w] else if row.length ≠ 3 then [] else
    let n := (row.getD 1 0 + 256 * row.getD 2 0) % 2048
    if w = "frame" then [.str w, .int n] else [.str w, .int (n % 128), .int (n / 128)]
def codeW : List Str := ["out", "ack", "frame", "in", "nak", "setup", "stall"]
def likelyD (row : List Int) : List PyData :=
  if row.length = 0 then [] else
    match codeW.find? (fun w => decide (row.getD 0 0 = hd (code w))) with
    | some w => wordD w row
    | none => if row.getD 0 0 = hd 3 then [.str "data", .int 0, .tuple ((cutB row).map PyData.int)] else
        if row.getD 0 0 = hd 11 then [.str "data", .int 1, .tuple ((cutB row).map PyData.int)] else []
/-! ### packets: the mathematics -/
theorem eqv_ints : ∀ as bs : List Int, PyData.eqvAll (as.map PyData.int) (bs.map PyData.int) = decide (as = bs)
  | [], [] => rfl
  | [], _ :: _ => rfl
  | _ :: _, [] => rfl
  | a :: as, b :: bs => by
    show (a == b && PyData.eqvAll (as.map PyData.int) (bs.map PyData.int)) = _
    rw [eqv_ints as bs]
    by_cases e : a = b <;> by_cases f : as = bs <;> simp [e, f]
theorem eqvT (as bs : List Int) : PyData.eqv (.tuple (as.map PyData.int)) (.tuple (bs.map PyData.int)) = decide (as = bs) := by
  show PyData.eqvAll _ _ = _
  exact eqv_ints as bs
theorem shapedT (ns : List Int) : SeqAt.shaped (.tuple (ns.map PyData.int)) = true := by
  have h1 := PySem.W.depthAll_ints ns
  have h2 : PyData.depth (.tuple (ns.map PyData.int)) ≤ 64 := by simp only [PyData.depth]; omega
  show (PyData.canLay0 (.tuple (ns.map PyData.int)) && decide (PyData.depth (.tuple (ns.map PyData.int)) ≤ 64)) = true
  rw [Bool.and_eq_true]
  exact ⟨by simp only [PyData.canLay0]; exact PySem.W.canLayAll0_ints ns, decide_eq_true h2⟩
theorem numOf_lt : ∀ l : List Int, Bit l → 0 ≤ numOf l ∧ numOf l < 2 ^ l.length
  | [], _ => ⟨by decide, by decide⟩
  | b :: l, h => by
    have ih := numOf_lt l fun x hx => h x (List.mem_cons_of_mem _ hx)
    have hb := h b List.mem_cons_self
    show 0 ≤ b + 2 * numOf l ∧ b + 2 * numOf l < 2 ^ (l.length + 1)
    rw [Int.pow_succ]
    omega
theorem numOf_append : ∀ a b : List Int, numOf (a ++ b) = numOf a + 2 ^ a.length * numOf b
  | [], b => by simp [numOf]
  | x :: a, b => by
    have ih := numOf_append a b
    show x + 2 * numOf (a ++ b) = x + 2 * numOf a + 2 ^ (a.length + 1) * numOf b
    rw [ih, Int.pow_succ, Int.mul_add]
    have : 2 * (2 ^ a.length * numOf b) = 2 ^ a.length * 2 * numOf b := by
      rw [Int.mul_comm (2 ^ a.length) 2, Int.mul_assoc]
    omega
theorem turned_lt (s m : Nat) : 0 ≤ numOf (bitsL s m).reverse ∧ numOf (bitsL s m).reverse < 2 ^ m := by
  have := numOf_lt (bitsL (s : Int) m).reverse (bitsL_bit _ _).rev
  rwa [List.length_reverse, bitsL_len] at this
theorem num11_lt {n : Int} (h0 : 0 ≤ n) (h1 : n ≤ 2047) : 0 ≤ num11 n ∧ num11 n < 65536 ∧ num11 n % 2048 = n := by
  have := turned_lt (sum5N n) 5
  unfold num11
  generalize numOf (bitsL (sum5N n) 5).reverse = x at *
  omega
theorem isNum_int {d : PyData} {lo hi : Int} (h : isNum d lo hi = true) : ∃ i, d = .int i ∧ lo ≤ i ∧ i ≤ hi := by
  cases d with
  | int i =>
    simp [isNum] at h
    exact ⟨i, rfl, h.1, h.2⟩
  | _ => cases h
theorem isPc_byt {d : PyData} (h : isPcD d = true) : ∃ ns : List Int, d = .tuple (ns.map PyData.int) ∧ ns.length ≤ 64 ∧ ns.all byteN = true := by
  cases d with
  | tuple ds =>
    simp only [isPcD, Bool.and_eq_true, decide_eq_true_eq] at h
    obtain ⟨h1, h2⟩ := h
    have : ∃ ns : List Int, ds = ns.map PyData.int := by
      clear h1
      induction ds with
      | nil => exact ⟨[], rfl⟩
      | cons d ds ih =>
        rw [List.all_cons, Bool.and_eq_true] at h2
        obtain ⟨i, rfl, _, _⟩ := isNum_int h2.1
        obtain ⟨ns, rfl⟩ := ih h2.2
        exact ⟨i :: ns, rfl⟩
    obtain ⟨ns, rfl⟩ := this
    rw [List.length_map] at h1
    refine ⟨ns, rfl, h1, ?_⟩
    rw [List.all_map] at h2
    exact h2
  | _ => cases h
theorem tok_of {ds : List PyData} (h : isTokD ds = true) : ∃ w n e, ds = (Pk.tok w n e).ds ∧ (Pk.tok w n e).ok := by
  unfold isTokD at h
  split at h
  · rename_i w x y
    simp only [Bool.and_eq_true, decide_eq_true_eq] at h
    obtain ⟨n, rfl, n0, n1⟩ := isNum_int h.2.1
    obtain ⟨e, rfl, e0, e1⟩ := isNum_int h.2.2
    exact ⟨w, n, e, rfl, h.1, n0, n1, e0, e1⟩
  · cases h
theorem frm_of {ds : List PyData} (h : isFrmD ds = true) : ∃ n, ds = (Pk.frm n).ds ∧ (Pk.frm n).ok := by
  unfold isFrmD at h
  split at h
  · rename_i w x
    simp only [Bool.and_eq_true, decide_eq_true_eq] at h
    obtain ⟨n, rfl, n0, n1⟩ := isNum_int h.2
    obtain ⟨rfl, _⟩ := h
    exact ⟨n, rfl, n0, n1⟩
  · cases h
theorem dat_of {ds : List PyData} (h : isDatD ds = true) : ∃ m ns, ds = (Pk.dat m ns).ds ∧ (Pk.dat m ns).ok := by
  unfold isDatD at h
  split at h
  · rename_i w x y
    simp only [Bool.and_eq_true, decide_eq_true_eq] at h
    obtain ⟨n, rfl, n0, n1⟩ := isNum_int h.2.1
    obtain ⟨ns, rfl, l1, l2⟩ := isPc_byt h.2.2
    obtain ⟨rfl, _⟩ := h
    exact ⟨n, ns, rfl, by omega, l1, l2⟩
  · cases h
theorem ans_of {ds : List PyData} (h : isAnsD ds = true) : ∃ w, ds = (Pk.ans w).ds ∧ (Pk.ans w).ok := by
  unfold isAnsD at h
  split at h
  · rename_i w
    exact ⟨w, rfl, show w ∈ ansW from of_decide_eq_true h⟩
  · cases h
theorem isPcD_ints (ns : List Int) : isPcD (.tuple (ns.map PyData.int)) = (decide (ns.length ≤ 64) && ns.all byteN) := by
  show (decide ((ns.map PyData.int).length ≤ 64) && (ns.map PyData.int).all fun d => isNum d 0 255) = _
  rw [List.length_map, List.all_map]
  rfl
/-- each packet passes its own look, and no earlier one -/
theorem ok_looks {k : Pk} (h : k.ok) : match k with
    | .tok _ _ _ => isTokD k.ds = true
    | .frm _ => isTokD k.ds = false ∧ isFrmD k.ds = true
    | .dat _ _ => isTokD k.ds = false ∧ isFrmD k.ds = false ∧ isDatD k.ds = true
    | .ans _ => isTokD k.ds = false ∧ isFrmD k.ds = false ∧ isDatD k.ds = false ∧ isAnsD k.ds = true := by
  cases k with
  | tok w n e =>
    obtain ⟨h1, h2, h3, h4, h5⟩ := h
    show (decide (w ∈ tokW) && ((decide (0 ≤ n) && decide (n ≤ 127)) && (decide (0 ≤ e) && decide (e ≤ 15)))) = true
    simp [h1, h2, h3, h4, h5]
  | frm n =>
    obtain ⟨h1, h2⟩ := h
    refine ⟨rfl, ?_⟩
    show (decide (("frame" : Str) = "frame") && (decide (0 ≤ n) && decide (n ≤ 2047))) = true
    simp [h1, h2]
  | dat m ns =>
    obtain ⟨h1, h2, h3⟩ := h
    refine ⟨?_, rfl, ?_⟩
    · show (decide (("data" : Str) ∈ tokW) && (isNum (.int m) 0 127 && isNum (.tuple (ns.map PyData.int)) 0 15)) = false
      rw [show decide (("data" : Str) ∈ tokW) = false by decide, Bool.false_and]
    · show (decide (("data" : Str) = "data") && ((decide (0 ≤ m) && decide (m ≤ 1)) && isPcD (.tuple (ns.map PyData.int)))) = true
      rw [isPcD_ints, h3]
      rcases h1 with rfl | rfl <;> simp [h2]
  | ans w =>
    refine ⟨rfl, rfl, rfl, ?_⟩
    show decide (w ∈ ansW) = true
    exact decide_eq_true h
theorem none_ok {ds : List PyData} (h1 : isTokD ds = false) (h2 : isFrmD ds = false) (h3 : isDatD ds = false) (h4 : isAnsD ds = false) : ∀ k : Pk, k.ok → k.ds ≠ ds := by
  intro k hk e
  have := ok_looks hk
  subst e
  cases k with
  | tok w n e => rw [show isTokD _ = true from this] at h1; cases h1
  | frm n => rw [this.2] at h2; cases h2
  | dat m ns => rw [this.2.2] at h3; cases h3
  | ans w => rw [this.2.2.2] at h4; cases h4
theorem ds_bytes {k k' : Pk} (h : k.ok) (h' : k'.ok) (e : k.ds = k'.ds) : k.bytes = k'.bytes := by
  cases k <;> cases k' <;> simp only [Pk.ds, List.cons.injEq, PyData.int.injEq, PyData.str.injEq, PyData.tuple.injEq, and_true, true_and, eq_self, reduceCtorEq, and_false, false_and] at e
  · obtain ⟨rfl, rfl, rfl⟩ := e
    rfl
  · subst e
    rfl
  · obtain ⟨rfl, e2⟩ := e
    have := (List.map_inj_right (fun a b h => PyData.int.inj h)).mp e2
    subst this
    rfl
  · subst e
    rfl
theorem likely_ok {k : Pk} (h : k.ok) : likelyD k.bytes = k.ds := by
  cases k with
  | tok w n e =>
    obtain ⟨hw, n0, n1, e0, e1⟩ := h
    have hx := num11_lt (n := n + 128 * e) (by omega) (by omega)
    show likelyD [hd (code w), num11 (n + 128 * e) % 256, num11 (n + 128 * e) / 256] = [.str w, .int n, .int e]
    generalize num11 (n + 128 * e) = N at hx
    have e3 : (N % 256 + 256 * (N / 256)) % 2048 = n + 128 * e := by omega
    have hf : codeW.find? (fun v => decide (hd (code w) = hd (code v))) = some w := by
      rcases (by simpa [tokW] using hw) with rfl | rfl | rfl <;> decide
    have na : w ∉ ansW := by
      rcases (by simpa [tokW] using hw) with rfl | rfl | rfl <;> decide
    have nf : w ≠ "frame" := by
      rcases (by simpa [tokW] using hw) with rfl | rfl | rfl <;> decide
    unfold likelyD
    rw [if_neg (by simp)]
    show (match codeW.find? (fun v => decide (hd (code w) = hd (code v))) with | some w' => _ | none => _) = _
    rw [hf]
    show wordD w [hd (code w), N % 256, N / 256] = _
    unfold wordD
    rw [if_neg na, if_neg (by simp)]
    show (if w = "frame" then _ else [PyData.str w, .int ((N % 256 + 256 * (N / 256)) % 2048 % 128), .int ((N % 256 + 256 * (N / 256)) % 2048 / 128)]) = _
    rw [if_neg nf, e3]
    congr 3
    · omega
    · congr 2
      omega
  | frm n =>
    obtain ⟨n0, n1⟩ := h
    have hx := num11_lt n0 n1
    show likelyD [hd 5, num11 n % 256, num11 n / 256] = [.str "frame", .int n]
    generalize num11 n = N at hx
    have e3 : (N % 256 + 256 * (N / 256)) % 2048 = n := by omega
    unfold likelyD
    rw [if_neg (by simp)]
    rw [show codeW.find? (fun v => decide ([hd 5, N % 256, N / 256].getD 0 0 = hd (code v))) = some "frame" from (by decide : codeW.find? (fun v => decide (hd 5 = hd (code v))) = some "frame")]
    show wordD "frame" [hd 5, N % 256, N / 256] = _
    unfold wordD
    rw [if_neg (by decide), if_neg (by simp)]
    show (if ("frame" : Str) = "frame" then [PyData.str "frame", .int ((N % 256 + 256 * (N / 256)) % 2048)] else [PyData.str "frame", .int ((N % 256 + 256 * (N / 256)) % 2048 % 128), .int ((N % 256 + 256 * (N / 256)) % 2048 / 128)]) = _
    rw [if_pos rfl, e3]
  | dat m ns =>
    obtain ⟨hm, hl, hb⟩ := h
    have hc : cutB (hd (if m = 0 then 3 else 11) :: (ns ++ two (num16 ns))) = ns := by
      unfold cutB two
      rw [List.drop_one, List.tail_cons]
      simp
    show likelyD (hd (if m = 0 then 3 else 11) :: (ns ++ two (num16 ns))) = [.str "data", .int m, .tuple (ns.map PyData.int)]
    unfold likelyD
    rw [if_neg (by simp), hc]
    show (match codeW.find? (fun v => decide (hd (if m = 0 then 3 else 11) = hd (code v))) with | some w' => _ | none => if hd (if m = 0 then 3 else 11) = hd 3 then _ else if hd (if m = 0 then 3 else 11) = hd 11 then _ else _) = _
    rcases hm with rfl | rfl
    · rw [show codeW.find? (fun v => decide (hd (if (0 : Int) = 0 then 3 else 11) = hd (code v))) = none by decide]
      rfl
    · rw [show codeW.find? (fun v => decide (hd (if (1 : Int) = 0 then 3 else 11) = hd (code v))) = none by decide]
      rfl
  | ans w =>
    show likelyD [hd (code w)] = [.str w]
    rcases (by simpa [ansW] using (show w ∈ ansW from h)) with rfl | rfl | rfl <;> rfl
theorem likely_shape (row : List Int) : Shape (likelyD row) := by
  have hw : ∀ w, Shape (wordD w row) := fun w => by
    unfold wordD
    split
    · exact .inr ⟨w, [], rfl⟩
    · split
      · exact .inl rfl
      · dsimp only
        split
        · exact .inr ⟨w, [.int _], rfl⟩
        · exact .inr ⟨w, [.int _, .int _], rfl⟩
  unfold likelyD
  split
  · exact .inl rfl
  · split
    · exact hw _
    · split
      · exact .inr ⟨"data", [.int 0, .byt (cutB row)], rfl⟩
      · split
        · exact .inr ⟨"data", [.int 1, .byt (cutB row)], rfl⟩
        · exact .inl rfl
theorem likely_small (row : List Int) (hl : row.length ≤ 1000) : Small (likelyD row) := by
  intro ns
  have hw : ∀ w, PyData.tuple (ns.map PyData.int) ∉ wordD w row := fun w h => by
    unfold wordD at h
    split at h
    · simp at h
    · split at h
      · simp at h
      · dsimp only at h
        split at h <;> simp at h
  have hc : (cutB row).length ≤ 1000 := by
    unfold cutB
    rw [List.length_take, List.length_drop]
    omega
  have hm : ns.map PyData.int = (cutB row).map PyData.int → ns.length ≤ 1000 := fun e => by
    have := congrArg List.length e
    rw [List.length_map, List.length_map] at this
    omega
  intro h
  unfold likelyD at h
  split at h
  · simp at h
  · split at h
    · exact absurd h (hw _)
    · split at h
      · simp at h
        exact hm h
      · split at h
        · simp at h
          exact hm h
        · simp at h
end My

namespace My
open PySem PySem.Spec PyProof.Rows L2
end My
namespace L2
open PySem PySem.Spec PyProof.Rows My
/-! ### data opened and made -/
theorem Dp.tupE {K : PySem.W.Frag} {H : Hp} {v : V} {ds : List PyData} (h : Dp K H v (.tuple ds)) : ∃ p xs, v = .ref p ∧ SqT K H p xs ∧ DpAll K H xs ds := by
  cases h with
  | tup hs ha => exact ⟨_, _, rfl, hs, ha⟩
theorem Dp.lstE {K : PySem.W.Frag} {H : Hp} {v : V} {ds : List PyData} (h : Dp K H v (.list ds)) : ∃ p xs, v = .ref p ∧ SqL K H p xs ∧ DpAll K H xs ds := by
  cases h with
  | lst hs ha => exact ⟨_, _, rfl, hs, ha⟩
theorem Dp.intE {K : PySem.W.Frag} {H : Hp} {v : V} {i : Int} (h : Dp K H v (.int i)) : v = .int i := by cases h; rfl
theorem Dp.blE {K : PySem.W.Frag} {H : Hp} {v : V} {i : Bool} (h : Dp K H v (.bool i)) : v = .bl i := by cases h; rfl
theorem Dp.strE {K : PySem.W.Frag} {H : Hp} {v : V} {i : Str} (h : Dp K H v (.str i)) : v = .str i := by cases h; rfl
theorem DpAll.consE {K : PySem.W.Frag} {H : Hp} {vs : List V} {d : PyData} {ds : List PyData} (h : DpAll K H vs (d :: ds)) : ∃ v r, vs = v :: r ∧ Dp K H v d ∧ DpAll K H r ds := by
  cases h with
  | cons h1 h2 => exact ⟨_, _, rfl, h1, h2⟩
theorem DpAll.nilE {K : PySem.W.Frag} {H : Hp} {vs : List V} (h : DpAll K H vs []) : vs = [] := by cases h; rfl
theorem DpAll.intsE {K : PySem.W.Frag} {H : Hp} : ∀ {vs : List V} {ns : List Int}, DpAll K H vs (ns.map PyData.int) → vs = ns.map V.int
  | vs, [], h => h.nilE
  | vs, n :: ns, h => by
    obtain ⟨v, r, rfl, h1, h2⟩ := DpAll.consE (d := .int n) (ds := ns.map PyData.int) h
    rw [h1.intE, DpAll.intsE h2]
    rfl
theorem Dp.intsE {K : PySem.W.Frag} {H : Hp} {v : V} {ns : List Int} (h : Dp K H v (.tuple (ns.map PyData.int))) : ∃ p, v = .ref p ∧ SqT K H p (ns.map V.int) := by
  obtain ⟨p, xs, rfl, h1, h2⟩ := h.tupE
  rw [h2.intsE] at h1
  exact ⟨p, rfl, h1⟩
theorem DpAll.app {K : PySem.W.Frag} {H : Hp} : ∀ {xs ys : List V} {ds es : List PyData}, DpAll K H xs ds → DpAll K H ys es → DpAll K H (xs ++ ys) (ds ++ es)
  | _, _, [], _, h, g => by
    cases h
    exact g
  | _, _, d :: ds, _, h, g => by
    cases h with
    | cons h1 h2 => exact .cons h1 (DpAll.app h2 g)
theorem DpAll.drop {K : PySem.W.Frag} {H : Hp} : ∀ {n : Nat} {xs : List V} {ds : List PyData}, DpAll K H xs ds → DpAll K H (xs.drop n) (ds.drop n)
  | 0, _, _, h => h
  | n + 1, _, [], h => by
    cases h
    exact .nil
  | n + 1, _, d :: ds, h => by
    cases h with
    | cons h1 h2 => exact DpAll.drop (n := n) h2
theorem DpAll.take {K : PySem.W.Frag} {H : Hp} : ∀ {n : Nat} {xs : List V} {ds : List PyData}, DpAll K H xs ds → DpAll K H (xs.take n) (ds.take n)
  | 0, _, _, _ => .nil
  | n + 1, _, [], h => by
    cases h
    exact .nil
  | n + 1, _, d :: ds, h => by
    cases h with
    | cons h1 h2 => exact .cons h1 (DpAll.take (n := n) h2)
/-- a new tuple -/
theorem Dp.newT {K : PySem.W.Frag} {H : Hp} {t : Addr} {xs : List V} {ds : List PyData} (ht : H t = none) (h : DpAll K H xs ds) : Dp K (upd H t (.tup xs)) (.ref t) (.tuple ds) :=
  .tup (SqT.of upd_same) (Ex.dpAll (Ex.new ht) _ _ h)
theorem Dp.newL {K : PySem.W.Frag} {H : Hp} {t : Addr} {xs : List V} {ds : List PyData} (ht : H t = none) (h : DpAll K H xs ds) : Dp K (upd H t (.lst xs)) (.ref t) (.list ds) :=
  .lst (SqL.of upd_same) (Ex.dpAll (Ex.new ht) _ _ h)
end L2
namespace My
open PySem PySem.Spec PyProof.Rows L2
/-! ### data without lists stands apart from the bag -/
mutual
def noL : PyData → Bool
  | .none => true
  | .bool _ => true
  | .int _ => true
  | .str _ => true
  | .list _ => false
  | .tuple ds => noLs ds
  | .dict _ => false
def noLs : List PyData → Bool
  | [] => true
  | d :: ds => noL d && noLs ds
end
theorem sqT_offL {K : PySem.W.Frag} {p : Addr} {l : List V} {H : Hp} {t : Addr} {xs : List V} (h1 : H p = some (.lst l)) (h : SqT K H t xs) : SqT K (wo [p] H) t xs := by
  have ne : ∀ o, H t = some o → (∀ l, o ≠ .lst l) → t ∉ [p] := fun o e no z => by
    rw [List.mem_singleton.mp z, h1] at e
    cases e
    exact no _ rfl
  rcases h with (e | ⟨o, e⟩) | e
  · exact .inl (.inl (by rw [wo_get (ne _ e fun l z => by cases z)]; exact e))
  · exact .inl (.inr ⟨o, by rw [wo_get (ne _ e fun l z => by cases z)]; exact e⟩)
  · exact .inr e
theorem Bag.isL {K : PySem.W.Frag} {p c : Addr} {cs : List Int} {H : Hp} (bag : Bag K c cs H p) : ∃ l, H p = some (.lst l) := by
  obtain ⟨i, s, k, h1, _⟩ := bag
  exact ⟨_, h1⟩
theorem sqT_offB {K : PySem.W.Frag} {p c : Addr} {cs : List Int} {H : Hp} {t : Addr} {xs : List V} (bag : Bag K c cs H p) (h : SqT K H t xs) : SqT K (wo [p] H) t xs := by
  obtain ⟨l, h1⟩ := bag.isL
  exact sqT_offL h1 h
end My
namespace L2
open PySem PySem.Spec PyProof.Rows My
mutual
theorem Dp.offL {K : PySem.W.Frag} {p : Addr} {l : List V} {H : Hp} (h1 : H p = some (.lst l)) : ∀ (d : PyData) (v : V), noL d = true → Dp K H v d → Dp K (wo [p] H) v d
  | .none, _, _, h => by cases h; exact .non
  | .bool b, _, _, h => by cases h; exact .bl b
  | .int i, _, _, h => by cases h; exact .int i
  | .str x, _, _, h => by cases h; exact .str x
  | .list ds, _, n, h => by unfold noL at n; exact Bool.noConfusion n
  | .tuple ds, _, n, h => by
    unfold noL at n
    cases h with
    | tup hs ha => exact .tup (sqT_offL h1 hs) (Dp.offLAll h1 ds _ n ha)
  | .dict _, _, _, h => by cases h
theorem Dp.offLAll {K : PySem.W.Frag} {p : Addr} {l : List V} {H : Hp} (h1 : H p = some (.lst l)) : ∀ (ds : List PyData) (vs : List V), noLs ds = true → DpAll K H vs ds → DpAll K (wo [p] H) vs ds
  | [], _, _, h => by cases h; exact .nil
  | d :: ds, _, n, h => by
    unfold noLs at n
    obtain ⟨n1, n2⟩ := Bool.and_eq_true_iff.mp n
    cases h with
    | cons h2 h3 => exact .cons (Dp.offL h1 d _ n1 h2) (Dp.offLAll h1 ds _ n2 h3)
end
theorem Dp.offAll' {K : PySem.W.Frag} {p c : Addr} {cs : List Int} {H : Hp} (bag : Bag K c cs H p) {ds : List PyData} {vs : List V} (n : noLs ds = true) (h : DpAll K H vs ds) : DpAll K (wo [p] H) vs ds := by
  obtain ⟨l, h1⟩ := bag.isL
  exact Dp.offLAll h1 ds vs n h
theorem Dp.off {K : PySem.W.Frag} {p c : Addr} {cs : List Int} {H : Hp} (bag : Bag K c cs H p) (d : PyData) (v : V) (n : noL d = true) (h : Dp K H v d) : Dp K (wo [p] H) v d := by
  obtain ⟨l, h1⟩ := bag.isL
  exact Dp.offL h1 d v n h
end L2
namespace My
open PySem PySem.Spec PyProof.Rows L2
theorem noLs_ints : ∀ ns : List Int, noLs (ns.map PyData.int) = true
  | [] => rfl
  | n :: ns => by
    show (noL (.int n) && noLs (ns.map PyData.int)) = true
    rw [noLs_ints ns]
    rfl
theorem noLs_all : ∀ {ds : List PyData}, (∀ d ∈ ds, noL d = true) → noLs ds = true
  | [], _ => rfl
  | d :: ds, h => by
    unfold noLs
    rw [h d (List.mem_cons_self), noLs_all fun x hx => h x (List.mem_cons_of_mem _ hx)]
    rfl
/-! ### comprehensions and walks whose range, list or tuple a call makes -/
theorem lcAt {ta : TA} {g : TG} {tt : TT} {te : TE} {vs : List Nat} {σ : L2.St} {H : Hp} {Q : VK} (S : Int → Hp → Prop) (ht : ∀ R : List V → Hp → Prop, (∀ n H0, S n H0 → R [.int n] H0) → ta σ H R)
    (k : ∀ n H0, S n H0 → tLc (iRng1 fun _ H' R => R [.int n] H') g tt te vs σ H0 Q) : tLc (iRng1 ta) g tt te vs σ H Q :=
  ht _ fun n H0 s => k n H0 s
theorem lcAtL {K : PySem.W.Frag} {tl : TE} {g : TG} {tt : TT} {te : TE} {vs : List Nat} {σ : L2.St} {H : Hp} {Q : VK} (S : Addr → Hp → Prop) (ht : ∀ R : VK, (∀ p H0, S p H0 → R (.ref p) H0) → tl σ H R)
    (k : ∀ p H0, S p H0 → tLc (iList K fun _ H' R => R (.ref p) H') g tt te vs σ H0 Q) : tLc (iList K tl) g tt te vs σ H Q :=
  ht _ fun p H0 s => k p H0 s
/-- what a comprehension made, as rows of what each of its items is -/
theorem Made.some {α : Type} {K : PySem.W.Frag} {H : Hp} {f : α → PyData} {G : α → Prop} : ∀ {n : Nat} {ys : List V}, Made n (fun _ v H => ∃ x, G x ∧ Dp K H v (f x)) ys H → ∃ xs : List α, xs.length = n ∧ (∀ x ∈ xs, G x) ∧ DpAll K H ys (xs.map f)
  | n, [], ⟨h1, _⟩ => ⟨[], h1, fun x hx => (List.not_mem_nil hx).elim, .nil⟩
  | n, y :: ys, ⟨h1, h2⟩ => by
    obtain ⟨v, e1, x, gx, dx⟩ := h2 0 (by rw [← h1]; simp)
    have e2 : y = v := by simpa using e1
    subst e2
    obtain ⟨xs, l1, g1, d1⟩ := Made.some (n := ys.length) (ys := ys) (f := f) (G := G) ⟨rfl, fun j hj => by
      obtain ⟨u, e3, r⟩ := h2 (j + 1) (by rw [← h1]; simp; omega)
      exact ⟨u, by simpa using e3, r⟩⟩
    refine ⟨x :: xs, by rw [← h1]; simp [l1], fun z hz => ?_, .cons dx d1⟩
    rcases List.mem_cons.mp hz with rfl | hz
    · exact gx
    · exact g1 z hz
/-! ### data that == may be asked of -/
theorem depth_tup (ds : List PyData) : PyData.depth (.tuple ds) = PyData.depthAll ds + 1 := by simp only [PyData.depth]
theorem depth_lst (ds : List PyData) : PyData.depth (.list ds) = PyData.depthAll ds + 1 := by simp only [PyData.depth]
theorem depthAll_le {n : Nat} : ∀ {ds : List PyData}, (∀ d ∈ ds, PyData.depth d ≤ n) → PyData.depthAll ds ≤ n
  | [], _ => by simp [PyData.depthAll]
  | d :: ds, h => by
    have := depthAll_le (n := n) (ds := ds) fun x hx => h x (List.mem_cons_of_mem _ hx)
    have h2 := h d (List.mem_cons_self)
    simp only [PyData.depthAll]
    omega
theorem canAll : ∀ {ds : List PyData}, (∀ d ∈ ds, PyData.canLay0 d = true) → PyData.canLayAll0 ds = true
  | [], _ => by simp only [PyData.canLayAll0]
  | d :: ds, h => by
    simp only [PyData.canLayAll0]
    rw [h d (List.mem_cons_self), canAll fun x hx => h x (List.mem_cons_of_mem _ hx)]
    rfl
def Shp (n : Nat) (d : PyData) : Prop := PyData.canLay0 d = true ∧ PyData.depth d ≤ n
theorem Shp.shaped {n : Nat} {d : PyData} (h : Shp n d) (hn : n ≤ 64) : SeqAt.shaped d = true := by
  show (PyData.canLay0 d && decide (PyData.depth d ≤ 64)) = true
  rw [h.1, decide_eq_true (Nat.le_trans h.2 hn)]
  rfl
theorem Shp.int (i : Int) : Shp 1 (.int i) := ⟨by simp only [PyData.canLay0], by simp only [PyData.depth]; omega⟩
theorem Shp.bool (i : Bool) : Shp 1 (.bool i) := ⟨by simp only [PyData.canLay0], by simp only [PyData.depth]; omega⟩
theorem Shp.str {i : Str} (h : i.cps.all (· < 0x110000) = true) : Shp 1 (.str i) := ⟨by simp only [PyData.canLay0]; exact h, by simp only [PyData.depth]; omega⟩
theorem Shp.mono {n m : Nat} {d : PyData} (h : Shp n d) (hn : n ≤ m) : Shp m d := ⟨h.1, Nat.le_trans h.2 hn⟩
theorem Shp.tup {n : Nat} {ds : List PyData} (h : ∀ d ∈ ds, Shp n d) : Shp (n + 1) (.tuple ds) :=
  ⟨by simp only [PyData.canLay0]; exact canAll fun d hd => (h d hd).1, by rw [depth_tup]; exact Nat.succ_le_succ (depthAll_le fun d hd => (h d hd).2)⟩
theorem Shp.lst {n : Nat} {ds : List PyData} (h : ∀ d ∈ ds, Shp n d) : Shp (n + 1) (.list ds) :=
  ⟨by simp only [PyData.canLay0]; exact canAll fun d hd => (h d hd).1, by rw [depth_lst]; exact Nat.succ_le_succ (depthAll_le fun d hd => (h d hd).2)⟩
theorem Shp.ints (ns : List Int) : Shp 2 (.tuple (ns.map PyData.int)) := Shp.tup fun d hd => by
  obtain ⟨i, _, rfl⟩ := List.mem_map.mp hd
  exact Shp.int i
theorem okTup (n : Nat) {ds : List PyData} (h : ds.length ≤ 1000) (g : ∀ d ∈ ds, okD n d) : okD (n + 1) (.tuple ds) := ⟨h, g⟩
theorem okLst (n : Nat) {ds : List PyData} (h : ds.length ≤ 1000) (g : ∀ d ∈ ds, okD n d) : okD (n + 1) (.list ds) := ⟨h, g⟩
theorem okInt (n : Nat) (i : Int) : okD n (.int i) := by cases n <;> trivial
theorem okBool (n : Nat) (i : Bool) : okD n (.bool i) := by cases n <;> trivial
theorem okStr (n : Nat) (i : Str) : okD n (.str i) := by cases n <;> trivial
theorem okIntsT (n : Nat) {ns : List Int} (h : ns.length ≤ 1000) : okD (n + 1) (.tuple (ns.map PyData.int)) := okTup n (by rw [List.length_map]; exact h) fun d hd => by
  obtain ⟨i, _, rfl⟩ := List.mem_map.mp hd
  exact okInt n i
theorem mem1 {α : Type} {P : α → Prop} {a : α} (h : P a) : ∀ x ∈ [a], P x := fun x hx => by rw [List.mem_singleton.mp hx]; exact h
theorem memC {α : Type} {P : α → Prop} {a : α} {l : List α} (h : P a) (g : ∀ x ∈ l, P x) : ∀ x ∈ a :: l, P x := fun x hx => by
  rcases List.mem_cons.mp hx with rfl | hx
  · exact h
  · exact g x hx
theorem mem0 {α : Type} {P : α → Prop} : ∀ x ∈ ([] : List α), P x := fun x hx => (List.not_mem_nil hx).elim
theorem iteY {c : Bool} {A B : Prop} (h : c = true) (a : A) : if c = true then A else B := by rw [if_pos h]; exact a
theorem iteN {c : Bool} {A B : Prop} (h : c = false) (b : B) : if c = true then A else B := by subst h; exact b
abbrev rInt1 : List V → Hp → VK → Prop := fun xs H Q => (∃ i, xs = [.int i] ∧ Q (.int i) H) ∨ ∃ k, xs = [.bl k] ∧ Q (.int (if k then 1 else 0)) H
theorem atH (x : V) (r : List V) : atI (x :: r) 0 = some x := at_of (j := 0) (by simp) rfl
theorem Bag.turnedX {K : PySem.W.Frag} {H H' : Hp} {B D c : Addr} {cs : List Int} (b : Bag K c cs (wo [D] H) B) (b' : Bag K c cs H' B) (e : Ex (wo [B] (wo [D] H)) (wo [B] (wo [D] H'))) : Bag K c cs (wo [D] H') B := by
  obtain ⟨i, s, k, h1, h2, h3, h4⟩ := b
  obtain ⟨i', s', k', h1', _, _, h4'⟩ := b'
  have nD : B ∉ [D] := fun z => by
    unfold wo at h1
    rw [if_pos z] at h1
    cases h1
  refine ⟨i', s', k', by rw [wo_get nD]; exact h1', ?_, h3, h4'⟩
  have o2 : ∀ x o, x ≠ B → wo [D] H x = some o → wo [D] H' x = some o := fun x o hx ho => by
    have := e x o (by rw [wo_get (by rw [List.mem_singleton]; exact hx)]; exact ho)
    rwa [wo_get (by rw [List.mem_singleton]; exact hx)] at this
  rcases h2 with (f | ⟨ob, f⟩) | f
  · refine .inl (.inl (o2 _ _ ?_ f))
    intro z
    subst z
    rw [h1] at f
    cases cs <;> simp at f
  · refine .inl (.inr ⟨ob, o2 _ _ ?_ f⟩)
    intro z
    subst z
    rw [h1] at f
    cases f
  · exact .inr f
/-- [e for i in range(n)], where e may change the objects of B; J is what holds of them; the new list is a list -/
theorem lcRB2 {ta : TA} {g : TG} {tt : TT} {te : TE} {vs : List Nat} {σ : L2.St} {H : Hp} {Q : VK} {n : Int} (i : Nat) (B : List Addr) (J : Hp → Prop) (P : Nat → V → Hp → Prop) (ht : ∀ R : List V → Hp → Prop, R [.int n] H → ta σ H R) (hn0 : 0 ≤ n) (hn : n ≤ 100000)
    (hP : ∀ j v H H', Ex H H' → P j v H → P j v H')
    (hw : ∀ x, wipe ((wipe σ vs).set i (some x)) vs = wipe σ vs) (hJ : J H)
    (he : ∀ (j : Nat) D H1 (Q1 : VK) acc, (j : Int) < n → H D = none → H1 D = some (.lst acc) → Ex (wo B H) (wo B (wo [D] H1)) → J (wo [D] H1) →
      (∀ v H2, H2 D = H1 D → Ex (wo B (wo [D] H1)) (wo B (wo [D] H2)) → J (wo [D] H2) → P j v (wo B (wo [D] H2)) → Q1 v H2) → te ((wipe σ vs).set i (some (.int (j : Nat)))) H1 Q1)
    (k : ∀ D H' ys, H D = none → Ex (wo B H) (wo B (wo [D] H')) → J (wo [D] H') → H' D = some (.lst ys) → Made n.toNat P ys (wo B (wo [D] H')) → Q (.ref D) H')
    (hg : g = gName i := by rfl) (htt : tt = tYes := by rfl) : tLc (iRng1 ta) g tt te vs σ H Q := by
  subst hg htt
  refine ht _ ⟨n, rfl, by omega, by omega, fun D hD => ?_⟩
  refine lc_range (lo := 0) (n := n.toNat) (fun j H' => Ex (wo B H) (wo B (wo [D] H')) ∧ J (wo [D] H') ∧ ∃ ys, H' D = some (.lst ys) ∧ Made j P ys (wo B (wo [D] H'))) ⟨?_, ?_, [], upd_same, rfl, fun j hj => absurd hj (Nat.not_lt_zero j)⟩ (fun j H' hj p => ?_) (fun H' p => ?_)
  · rw [wo_upd (List.mem_singleton.mpr rfl), wo_off hD]
    exact Same.refl _
  · rw [wo_upd (List.mem_singleton.mpr rfl), wo_off hD]
    exact hJ
  · obtain ⟨e, hj1, ys, hy, hm⟩ := p
    have e0 : (0 : Int) + (j : Nat) = (j : Nat) := Int.zero_add _
    rw [e0]
    refine ⟨hw _, ?_⟩
    simp only [tYes, if_true]
    refine he j D H' _ ys (by omega) hD hy e hj1 (fun v H2 hD2 e2 hj2 hv => ⟨ys, hD2.trans hy, ?_, ?_, ?_, ys ++ [v], upd_same, ?_⟩)
    · rw [hm.1]
      exact Nat.lt_of_lt_of_le (show j < 100000 by omega) (by decide)
    · rw [wo_upd (List.mem_singleton.mpr rfl)]
      exact e.trans e2
    · rw [wo_upd (List.mem_singleton.mpr rfl)]
      exact hj2
    · rw [wo_upd (List.mem_singleton.mpr rfl)]
      exact hm.more (fun j u hu => hP _ _ _ _ e2 hu) hv
  · obtain ⟨e, hj1, ys, hy, hm⟩ := p
    exact k D H' ys hD e hj1 hy hm
/-- an object that stands apart stays -/
theorem stay {B D : Addr} {H H' : Hp} {o : HO} (e : Ex (wo [B] H) (wo [B] H')) (hB : D ≠ B) (h : H D = some o) : H' D = some o := by
  have := e D o (by rw [wo_get (by rw [List.mem_singleton]; exact hB)]; exact h)
  rwa [wo_get (by rw [List.mem_singleton]; exact hB)] at this
/-- one turn of a comprehension by a call that turns the bag and makes data without lists -/
theorem turn_data {K : PySem.W.Frag} {B D c : Addr} {cs : List Int} {H3 H4 : Hp} {acc : List V} {v : V} {d : PyData} (DB : D ≠ B) (hD : H3 D = some (.lst acc)) (J : Bag K c cs (wo [D] H3) B) (bag : Bag K c cs H4 B) (e : Ex (wo [B] H3) (wo [B] H4))
    (n : noL d = true) (h : Dp K (wo [B] H4) v d) : H4 D = H3 D ∧ Ex (wo [B] (wo [D] H3)) (wo [B] (wo [D] H4)) ∧ Bag K c cs (wo [D] H4) B ∧ Dp K (wo [B] (wo [D] H4)) v d := by
  have h4 := stay e DB hD
  have key : Ex (wo [B] (wo [D] H3)) (wo [B] (wo [D] H4)) := by
    rw [wo_comm, wo_comm (H := H4)]
    exact e.wo
  refine ⟨h4.trans hD.symm, key, J.turnedX bag key, ?_⟩
  rw [wo_comm]
  exact Dp.offL (l := acc) (by rw [wo_get (by rw [List.mem_singleton]; exact DB)]; exact h4) d v n h
theorem up1 {a : V} : ([a] : List V).length ≤ sizeLine := (by decide : 1 ≤ sizeLine)
theorem up2 {a b : V} : ([a, b] : List V).length ≤ sizeLine := (by decide : 2 ≤ sizeLine)
theorem up3 {a b c : V} : ([a, b, c] : List V).length ≤ sizeLine := (by decide : 3 ≤ sizeLine)
theorem up4 {a b c d : V} : ([a, b, c, d] : List V).length ≤ sizeLine := (by decide : 4 ≤ sizeLine)
/-! ### displays evaluated whole -/
def EvD (K : PySem.W.Frag) (te : TE) (σ : L2.St) (d : PyData) : Prop := ∀ (H : Hp) (Q : VK), (∀ v H', Ex H H' → Dp K H' v d → Q v H') → te σ H Q
def EvDs (K : PySem.W.Frag) (ta : TA) (σ : L2.St) (ds : List PyData) : Prop := ∀ (H : Hp) (Q : List V → Hp → Prop), (∀ vs H', Ex H H' → DpAll K H' vs ds → Q vs H') → ta σ H Q
theorem evInt {K : PySem.W.Frag} {σ : L2.St} {i : Int} : EvD K (tC (.int i)) σ (.int i) := fun H Q q => q _ _ (Same.refl _) (.int i)
theorem evStr {K : PySem.W.Frag} {σ : L2.St} {i : Str} : EvD K (tC (.str i)) σ (.str i) := fun H Q q => q _ _ (Same.refl _) (.str i)
theorem evBl {K : PySem.W.Frag} {σ : L2.St} {i : Bool} : EvD K (tC (.bl i)) σ (.bool i) := fun H Q q => q _ _ (Same.refl _) (.bl i)
theorem evNil {K : PySem.W.Frag} {σ : L2.St} : EvDs K tNil σ [] := fun H Q q => q _ _ (Same.refl _) .nil
theorem evCons {K : PySem.W.Frag} {σ : L2.St} {te : TE} {ta : TA} {d : PyData} {ds : List PyData} (h : EvD K te σ d) (g : EvDs K ta σ ds) : EvDs K (tCons te ta) σ (d :: ds) := fun H Q q =>
  h H _ fun v H1 e1 d1 => g H1 _ fun vs H2 e2 d2 => q _ _ (Same.trans e1 e2) (.cons (Ex.dp e2 _ _ d1) d2)
theorem evTup {K : PySem.W.Frag} {σ : L2.St} {ta : TA} {ds : List PyData} (h : EvDs K ta σ ds) (hl : ds.length ≤ 1000) : EvD K (tTup ta) σ (.tuple ds) := fun H Q q =>
  h H _ fun vs H1 e1 d1 => ⟨Nat.le_trans (by rw [DpAll.len d1]; exact hl) (by decide : 1000 ≤ sizeLine), fun t ht => q _ _ (Same.trans e1 (Ex.new ht)) (Dp.newT ht d1)⟩
/-- a new list of data, that is ours -/
theorem evLst {K : PySem.W.Frag} {σ : L2.St} {ta : TA} {ds : List PyData} (h : EvDs K ta σ ds) (hl : ds.length ≤ 1000) {H : Hp} {Q : VK} (q : ∀ p xs H', H p = none → Ex H H' → H' p = some (.lst xs) → DpAll K H' xs ds → Q (.ref p) H') : tLst ta σ H Q :=
  h H _ fun vs H1 e1 d1 => ⟨Nat.le_trans (by rw [DpAll.len d1]; exact hl) (by decide : 1000 ≤ sizeLine), fun t ht => q _ _ _ (e1.free ht) (Same.trans e1 (Ex.new ht)) upd_same (Ex.dpAll (Ex.new ht) _ _ d1)⟩
/-- for .. in a list that a call makes -/
theorem forLC {K : PySem.W.Frag} {tl : TE} {g : TG} {tb : TS} {D : Ends} {σ : L2.St} {H : Hp} (S : Addr → List V → Hp → Prop) (Pv : Addr → List V → Nat → L2.St → Hp → Prop) (ht : ∀ R : VK, (∀ p xs H0, S p xs H0 → R (.ref p) H0) → tl σ H R) (hS : ∀ p xs H0, S p xs H0 → SqL K H0 p xs) (h0 : ∀ p xs H0, S p xs H0 → Pv p xs 0 σ H0)
    (hl : ∀ p xs j σ H, Pv p xs j σ H → SqL K H p xs) (hs : ∀ p xs j x σ H, xs[j]? = some x → Pv p xs j σ H → g x σ H fun σ2 H2 => tb { D with nx := Pv p xs (j + 1), ct := Pv p xs (j + 1), bk := D.nx } σ2 H2) (hd : ∀ p xs σ H, Pv p xs xs.length σ H → D.nx σ H) :
    tFor (iList K tl) g tb D σ H :=
  ht _ fun p xs H0 s => ⟨p, rfl, ⟨xs, hS p xs H0 s⟩, for_list (xs := xs) (Pv p xs) (h0 p xs H0 s) (fun j σ H _ q => hl p xs j σ H q) (fun j x σ H e q => hs p xs j x σ H e q) (hd p xs)⟩
theorem smallLen {n : Nat} (h : n ≤ 1000) : n ≤ sizeLine := Nat.le_trans h (by decide)
end My

namespace PySem
namespace OwnE
open PySem.W PySem.Calls PyProof.Rows PySem.HandSPX
def iA (p1 p2 : Pos) : Arguments := { posonlyargs := [], args := [{ arg := "self", annotation := none, pos := p1 }, { arg := "at", annotation := none, pos := p2 }], vararg := none, kwonlyargs := [], kw_defaults := [], kwarg := none, defaults := [] }
def iB (tx : Str) (p0 p1 p2 p3 p4 p5 p6 p7 p8 q1 q2 q3 q4 : Pos) : List Stmt :=
  [.Expr (.Call (.Attribute (.Call (.Name "super" p0) [] [] p1) "__init__" p2) [.JoinedStr [.Constant (.str tx) 0 p3, .FormattedValue (.Name "at" p4) (-1) none p5] p6] [] p7) p8,
   .Assign [.Attribute (.Name "self" q1) "at" q2] (.Name "at" q3) q4]
def iS : Scope := { kind := .function, names := [(PySem.Str.ofString "self", .local), (PySem.Str.ofString "at", .local), (PySem.Str.ofString "__class__", .free), (PySem.Str.ofString "super", .globalImplicit)], isGenerator := false, isCoroutine := false, more := [] }
structure OwnTxt (K : Frag) (mg : Str → Option Value) (P : Program) (C : Addr) (nC qI : Str) : Prop where
  gC : mg nC = some (.ref C)
  cls : ∃ nm q N bs bm sn sub ab col dd k0 k1 k2 k3 k5, K.lookup C = some (excClassObj nm q C N bs bm true sn sub ab col dd k0 k1 k2 k3 k5 "ValueError.__new__") ∧ refsVE bm = true
  sa : findIn K (.ref C) "__setattr__" = some (some (.builtin "object.__setattr__"))
  ga : findIn K (.ref C) "__getattribute__" = some (some (.builtin "BaseException.__getattribute__"))
  gg : findIn K (.ref C) "__getattr__" = some none
  noN : findIn K (.ref C) "at" = some none
  kC : keepIn K (.ref C) = true
  exC : subIn K (.ref C) (.type "BaseException") = some true
  veC : subIn K (.ref C) (.type "ValueError") = some true
  mrC : mroIn K C (.ref C) = some true
  tyC : typeIn K (.ref C) = some (.type "type")
  hdC : hasDictIn K C = true
  sup : ks_superIn K C C "__init__" = some (some (.builtin "ValueError.__init__"))
  noT : nsIn K cStatics "thirdparty.any" = some none
  noS : nsIn K mainGlobals "super" = some none
  top : (P.main.scope.names.lookup ("super" : Str)).isSome = false
  fn : ∃ (fI cc cda : Addr), findIn K (.ref C) "__init__" = some (some (.ref fI)) ∧ typeIn K (.ref fI) = some (.type "function") ∧
    (∃ (cl : Value) (cld : Option Addr) (csl : Array (Option Value)), K.lookup cc = some ⟨cl, cld, .cell (some (.ref C)), csl⟩) ∧
    (∃ (ccl : Value) (cdd : Option Addr) (ccs : Array (Option Value)) (vs : Array Value) (file : Str) (tf : Tok), K.lookup cda = some ⟨ccl, cdd, .fields vs, ccs⟩ ∧ vs[2]? = some (.str file tf) ∧ ((P.main.file : Str) == file) = true) ∧
    ∃ (oc : Value) (od : Option Addr) (doc pm : Value) (an : Option Addr) (ct : Value) (osl : Array (Option Value)) (tx : Str) (p1 p2 p0 p3 p4 p5 p6 p7 p8 p9 pa q1 q2 q3 q4 : Pos),
    K.lookup fI = some ⟨oc, od, .func (ksFn "__init__" qI (iA p1 p2) (iB tx p0 p3 p4 p5 p6 p7 p8 p9 pa q1 q2 q3 q4) iS .none .none doc pm an (.ref cda) ct cc), osl⟩ ∧ codeIn K (.ref cda) qI = true ∧ tx.length ≤ 1000 ∧ (p4.endLine == p9.line) = true
theorem one_size (v : Value) : [v].length ≤ sizeLine := by
  rw [sizeLine_eq]
  exact (by decide : 1 ≤ 16777216)
section
variable {prog : Program} {w : World} {A : Around} {E : Value → Shared → Prop} {h : Heap} {g : Array GenState} {d : Drawn} {t : Nat} {os : OsState}
variable {nm q : Str} {C N : Addr} {bs bm : List Value} {hdct : Bool} {sn : List Str} {sub : List Value} {ab : Bool} {col : Option Bool} {dd : Option Addr} {k0 k1 k2 k3 k5 : Option Value}
/-- the bound ValueError.__init__ called -/
theorem call_mw {u e t0 : Addr} {rest : List Value} {Q : Value → Shared → Prop}
    (hC : h.get? C = some (excClassObj nm q C N bs bm hdct sn sub ab col dd k0 k1 k2 k3 k5 "ValueError.__new__")) (he : h.get? e = some (excO C t0)) (hu : h.get? u = some (kxs_mw "ValueError.__init__" e)) (hrest : rest.length ≤ sizeLine)
    (hq : ∀ h' t1, (∀ b o, b ≠ e → h.get? b = some o → h'.get? b = some o) → h'.get? e = some (excO C t1) → Q .none ⟨h', g, d, t, os⟩) :
    wpAny (model prog w) A (call (.ref u) rest) Q E ⟨h, g, d, t, os⟩ := by
  refine wpAny_call (codeAny_of_tree ?_)
  show wpAny _ A.in1 (callAny (.ref u) ⟨rest, []⟩) _ _ _
  simp only [callAny]
  refine wpAny_bind (wpAny_load hu ?_)
  simp only [kxs_mw, show (Value.type "method-wrapper" == Value.type "method" || Value.type "method-wrapper" == Value.type "builtin_function_or_method" || Value.type "method-wrapper" == Value.type "method-wrapper") = true by decide, if_true]
  refine W.KFB.if_so (by decide) ?_
  refine wpAny_bind (check_bound_init F.excBase_ValueError.toExcCallFacts hC he rfl ?_)
  refine wpAny_bind (wpAny_pure (wpAny_pure ?_))
  refine ⟨plainId_quiet F.excBase_ValueError.init.plain _, codeAny_builtin F.excBase_ValueError.initEntry ?_⟩
  rw [Around.under_plainId F.excBase_ValueError.init.plain _]
  wp_walk
  refine hq _ h.objs.size (fun b o hb ho => ?_) ?_
  · rw [Heap.get?_update_other _ _ (Ne.symm hb)]
    exact Heap.get?_push_of_some _ ho
  · rw [Heap.get?_update_self _ (Heap.get?_push_of_some _ he) rfl]
    rfl
end
section
variable {prog : Program} {w : World} {A : Around} {c : Code} {E : Value → Shared → Prop} {s : Shared} {env : Env}
theorem mcAt {o : Expr} {name : Str} {apos pos : Pos} {args : List Expr} {Q : Value → Shared → Prop}
    (h : wpAt (model prog w) A c (attributeBase o name env (eval o env)) (fun ov s₁ => wpAny (model prog w) A (getMethod ov name (do return (← importBound o env).getD true)) (fun fx s₂ => wpAny (model prog w) A (callWith pos fx.1 fx.2 (backTo pos (starEach args env)) []) Q E s₂) E s₁) E s)
    (hform : methodCallForm (args.length + ([] : List Keyword).length) (backTo pos (starEach args env)) (backToKw pos (keywordEach [] env)) = true)
    (hline : (apos.endLine == pos.line) = true) :
    wpAt (model prog w) A c (eval (.Call (.Attribute o name apos) args [] pos) env) Q E s := by
  have hpos : methodCallPos true o env apos pos = pure pos := by unfold methodCallPos; simp [hline]
  rw [arm_eval_Call]
  refine wpAt_bind (ks_wpAt_mono h (fun ov s₁ h₁ => wpAt_of_wpAny ?_) fun _ _ e => e)
  refine wpAny_bind (wpAny_standAt ?_)
  unfold methodCall
  rw [hform]
  refine wpAny_bind (wpAny_holding (wpAny_mono h₁ (fun fx s₂ h₂ => ?_) fun _ _ e => e))
  exact wpAny_bind (wpAny_of_eq hpos h₂)
end
theorem ldN {M : Model} {A : Around} {E : Value → Shared → Prop} {s : Shared} {env : Env} {L : Addr} {m : Str → Option Value} {x : Str} {pos : Pos} {v : Value} {Q : Value → Shared → Prop} (hL : env.locals = L) (hn : s.heap.Ns L m) (hv : m x = some v) (h : Q v s)
    (hk : env.scope.kind = .function) (hl : env.kindOf x = some .local) (hd : (x == ("__debug__" : Str)) = false) : wpAny M A (eval (.Name x pos) env) Q E s := by
  subst hL
  exact wpAny_Name (wpAny_loadName_local hk hl hn hv h) hd
/-- what __init__ leaves of a fresh exception at x -/
structure InitEnd (h h' : Heap) (x C dx t1 : Addr) (v : Value) : Prop where
  keep : ∀ b o, b ≠ x → h.get? b = some o → h'.get? b = some o
  obj : h'.get? x = some { cls := .ref C, dict := some dx, data := .fields #[.ref t1, .none, .none, .none, .bool false, .none] }
  dbig : h.objs.size ≤ dx
  dne : dx ≠ x
  ns : h'.Ns1 dx (fun y => if y = "at" then some v else none)
structure OwnMade (h h' : Heap) (e C d : Addr) (v : Value) : Prop where
  keep : ∀ b o, h.get? b = some o → h'.get? b = some o
  new : h.objs.size ≤ e
  obj : ∃ oe vs, h'.get? e = some oe ∧ oe.cls = .ref C ∧ oe.dict = some d ∧ oe.data = .fields vs ∧ vs[1]? = some .none
  dbig : h.objs.size ≤ d
  dne : d ≠ e
  ns : h'.Ns1 d (fun y => if y = "at" then some v else none)
section
variable {prog : Program} {w : World} {A : Around} {E : Value → Shared → Prop} {R : Result → Shared → Prop} {s : Shared} {K : Frag} {mg mb : Str → Option Value} {C : Addr} {nC qI : Str}
theorem own_init (T : OwnTxt K mg prog C nC qI) {fI cc cda : Addr} (hI : findIn K (.ref C) "__init__" = some (some (.ref fI)))
    (hcc : ∃ (cl : Value) (cld : Option Addr) (csl : Array (Option Value)), K.lookup cc = some ⟨cl, cld, .cell (some (.ref C)), csl⟩)
    (hcda : ∃ (ccl : Value) (cdd : Option Addr) (ccs : Array (Option Value)) (vs : Array Value) (file : Str) (tf : Tok), K.lookup cda = some ⟨ccl, cdd, .fields vs, ccs⟩ ∧ vs[2]? = some (.str file tf) ∧ ((prog.main.file : Str) == file) = true)
    (hfn : ∃ (oc : Value) (od : Option Addr) (doc pm : Value) (an : Option Addr) (ct : Value) (osl : Array (Option Value)) (tx : Str) (p1 p2 p0 p3 p4 p5 p6 p7 p8 p9 pa q1 q2 q3 q4 : Pos),
      K.lookup fI = some ⟨oc, od, .func (ksFn "__init__" qI (iA p1 p2) (iB tx p0 p3 p4 p5 p6 p7 p8 p9 pa q1 q2 q3 q4) iS .none .none doc pm an (.ref cda) ct cc), osl⟩ ∧ codeIn K (.ref cda) qI = true ∧ tx.length ≤ 1000 ∧ (p4.endLine == p9.line) = true)
    {x t0 tv : Nat} {i : Int} (X : K.In s.heap) (hg : s.heap.Ns mainGlobals mg) (hb : s.heap.Ns builtinsNs mb) (hbs : mb "super" = some (.type "super"))
    (hlim : s.heap.NoLimit) (hx : s.heap.get? x = some (excO C t0)) (hnx : K.lookup x = none) (hroom : A.depth < recursionLimit) (hi : i.natAbs.log2 < 1920)
    (hq : ∀ h' tk dx t1, InitEnd s.heap h' x C dx t1 (.int i tv) → R (.ok (.ret .none)) { s with heap := h', toks := tk }) :
    codeAny (model prog w) A (.call (.ref fI) ⟨[.ref x, .int i tv], []⟩) R s := by
  obtain ⟨oc, od, doc, pm, an, ct, osl, tx, p1, p2, p0, p3, p4, p5, p6, p7, p8, p9, pa, q1, q2, q3, q4, ho, hcd, htx, hline⟩ := hfn
  obtain ⟨nm, q, N, bs, bm, sn, sub, ab, col, dd, k0, k1, k2, k3, k5, hC, hbm⟩ := T.cls
  obtain ⟨cl, cld, csl, hcell⟩ := hcc
  obtain ⟨ccl, cdd, ccs, vs, file, tf, hcode, hvs, hfile⟩ := hcda
  have hclD : clsIn K C = some { name := nm, bases := bs, mro := .ref C :: bm, ns := N, qualname := q, hasDict := true, slotNames := sn, subclasses := sub, abstract := ab, collection := col, hasDel := false } := by unfold clsIn; rw [hC] <;> rfl
  refine ks_codeAny_call_defAt (fd := ksFn "__init__" qI (iA p1 p2) (iB tx p0 p3 p4 p5 p6 p7 p8 p9 pa q1 q2 q3 q4) iS .none .none doc pm an (.ref cda) ct cc) (binds := [("self", .ref x), ("at", .int i tv)]) hroom (X _ _ ho) rfl hlim (codeRec_of X hcd) rfl
    (BindsTo.of_eq (by first | rfl | with_unfolding_all rfl)) (show ∀ x ∈ iS.names, x.2 ≠ .cell by decide) (fun y hy => by
      rcases List.mem_cons.mp hy with rfl | hy
      · rfl
      · rcases List.mem_cons.mp hy with rfl | hy
        · rfl
        · exact absurd hy (List.not_mem_nil)) (fun h₁ hns hk₁ => ?_)
  have X₁ : K.In h₁ := X.keeps hk₁
  have hx₁ := hk₁ _ _ hx
  show wpAt _ _ _ (execs (iB tx p0 p3 p4 p5 p6 p7 p8 p9 pa q1 q2 q3 q4) (ksEnv qI iS s.heap.objs.size fI (.ref cda) cc)) _ _ _
  refine ks_wpAt_execs_cons (ks_wpAt_Expr_any (mcAt ?_ rfl hline))
  obtain ⟨hh, g, d, t, os⟩ := s
  refine ks_wpAt_super_base (env := ksEnv qI iS hh.objs.size fI (.ref cda) cc) (ar := { arg := "self", annotation := none, pos := p1 }) rfl rfl (by decide) rfl (X₁ _ _ ho) rfl rfl rfl (X₁ _ _ hcode) rfl hvs hfile T.top ?_
  refine ks_loadName_global rfl rfl (loadGlobal_builtin (env := ksEnv qI iS hh.objs.size fI (.ref cda) cc) (mg := mg) (mb := mb) (hg.keeps hk₁) (mg_none_of X hg T.noS) (hb.keeps hk₁) hbs ⟨rfl, ?_⟩)
  refine wpAny_loadName_free rfl rfl rfl ⟨_, X₁ _ _ hcell, rfl⟩ ?_
  refine wpAny_loadName_local rfl rfl hns rfl ?_
  refine ks_wpAny_isType_cls (X₁ _ _ hC) rfl ⟨rfl, ?_⟩
  refine ks_wpAny_call_super (X₁ _ _ hC) rfl hx₁ rfl (fun c e => by cases e) (looks_mroIn X₁ T.mrC) (fun h₂ e2 k2 => ?_)
  have X₂ : K.In h₂ := X₁.keeps k2
  have hx₂ := k2 _ _ hx₁
  have hxC : x ≠ C := by
    rintro rfl
    have z := X₁ _ _ hC
    rw [hx₁] at z
    cases z
  have hsup := T.sup
  unfold ks_superIn at hsup
  rw [hclD] at hsup
  have hI2 : Looks (model prog w) h₂ (isInstance (.ref x) (.type "ValueError")) true :=
    (InstAt.type (M := model prog w) (od := none) ⟨hx₂, rfl, rfl, trivial⟩).andThen (looks_subIn X₂ T.veC)
  refine kxs_getMethod kxs_ValueError e2 (looks_opaque X₂ T.noT) (l₀ := .ref C :: bm) (fun A Q E s k q => wpAny_bind ((looks_clsIn X₂ hclD) A _ E s k (wpAny_pure q))) rfl X₂ hsup hI2 hxC (by decide) ?_
  have k3 : ∀ b o, h₂.get? b = some o → (h₂.push (kxs_mw "ValueError.__init__" x)).get? b = some o := fun b o e => Heap.get?_push_of_some _ e
  have hu : (h₂.push (kxs_mw "ValueError.__init__" x)).get? h₂.objs.size = some (kxs_mw "ValueError.__init__" x) := Heap.get?_push_at rfl rfl
  refine kxs_callWith (i := "ValueError.__init__") (x := x) rfl (evalArgs_plain (spliced_cons ?_))
  have hns3 := (hns.keeps k2).keeps k3
  show wpAny _ _ (eval (.JoinedStr [.Constant (.str tx) 0 p5, .FormattedValue (.Name "at" p6) (-1) none p7] p8) _) _ _ _
  refine wpAny_JoinedStr ?_
  have hlen : ((Str.empty ++ tx) ++ Str.ofString (toString i)).length ≤ sizeLine := by
    have e := int_text_length_le (k := 1920) (by decide) hi
    have e0 : (Str.empty : Str).length = 0 := rfl
    rw [sizeLine_eq, strLen_append, strLen_append, ofString_length, e0]
    omega
  have hlen0 : (Str.empty ++ tx).length ≤ sizeLine := by
    have e0 : (Str.empty : Str).length = 0 := rfl
    rw [sizeLine_eq, strLen_append, e0]
    omega
  refine Constant_str ⟨_, _, rfl, hlen0, ?_⟩
  refine wpAny_FormattedValue_plain (ldN rfl hns3 (v := .int i tv) rfl ?_ rfl rfl (by decide))
  refine wpAny_formatField_int hi ⟨_, _, rfl, hlen, hlen, ?_⟩
  refine spliced_nil ⟨hu, ?_⟩
  refine call_mw (k3 _ _ (k2 _ _ (X₁ _ _ hC))) (k3 _ _ hx₂) hu (one_size _) (fun h₄ t1 k4 hx₄ => ?_)
  have hxL : hh.objs.size ≠ x := Nat.ne_of_gt (Heap.lt_size hx)
  have hns4 : h₄.Ns hh.objs.size (fun y => ([(PySem.Str.ofString "self", Value.ref x), (PySem.Str.ofString "at", Value.int i tv)] : List (Str × Value)).reverse.lookup y) := hns3.at fun o q => k4 _ _ hxL q
  have X₄ : K.In h₄ := fun b o e => k4 b o (fun z => by rw [z, hnx] at e; cases e) ((X₂.keeps k3) _ _ e)
  show wpAt _ _ _ (execs _ _) _ _ _
  refine wpAt_of_wpAny (wpAny_execs_cons (plainObj_wpAny_Assign_Attribute ?_))
  refine ldN rfl hns4 (v := .int i tv) rfl (ldN rfl hns4 (v := .ref x) rfl ?_ rfl rfl (by decide)) rfl rfl (by decide)
  refine set_plain X₄ (ox := excO C t1) (od := none) ⟨hx₄, rfl, rfl, trivial⟩ T.sa ?_
  refine exc_osa X₄ hx₄ hclD (show refsVE (.ref C :: bm) = true from hbm) rfl T.noN (fun h₅ tk₅ dx k₅ dn dne hx₅ hn₅ => ?_)
  show wpAny _ _ (execs _ _) _ _ _
  have z : hh.objs.size < h₄.objs.size := hns4.lt
  exact wpAny_execs_nil (hq h₅ tk₅ dx t1 ⟨fun b o hb e => k₅ b o hb (k4 b o hb (k3 _ _ (k2 _ _ (hk₁ b o e)))), hx₅, Nat.le_of_lt (Nat.lt_of_lt_of_le z dn), dne, hn₅⟩)
theorem own_made (T : OwnTxt K mg prog C nC qI) {tv : Nat} {i : Int} (X : K.In s.heap) (hg : s.heap.Ns mainGlobals mg) (hb : s.heap.Ns builtinsNs mb) (hbs : mb "super" = some (.type "super")) (hlim : s.heap.NoLimit)
    (hroom : A.depth + 1 < recursionLimit) (hi : i.natAbs.log2 < 1920) (hq : ∀ h' tk e d, OwnMade s.heap h' e C d (.int i tv) → R (.ok (.ret (.ref e))) { s with heap := h', toks := tk }) :
    codeAny (model prog w) A (.call (.ref C) ⟨[.int i tv], []⟩) R s := by
  obtain ⟨fI, cc, cda, hI, htI, hcc, hcda, hfn⟩ := T.fn
  obtain ⟨nm, q, N, bs, bm, sn, sub, ab, col, dd, k0, k1, k2, k3, k5, hC, hbm⟩ := T.cls
  obtain ⟨hp, g, dr, tk, os⟩ := s
  have up : ∀ b o, hp.get? b = some o → ((hp.push (kdv_tup [.int i tv])).push (excO C hp.objs.size)).get? b = some o := fun b o e => Heap.get?_push_of_some _ (Heap.get?_push_of_some _ e)
  have hx : ((hp.push (kdv_tup [.int i tv])).push (excO C hp.objs.size)).get? (hp.objs.size + 1) = some (excO C hp.objs.size) := by heap_get
  have fresh : K.lookup (hp.objs.size + 1) = none := by
    cases e : K.lookup (hp.objs.size + 1) with
    | none => rfl
    | some o => exact absurd (Nat.lt_of_succ_lt (Heap.lt_size (X _ _ e))) (Nat.lt_irrefl _)
  refine call_own F.excBase_ValueError (fun Y => refsVE_contains Y bm hbm) (X _ _ hC) (looks_findIn X hI) (fun self => bind_fn X self htI) (one_size _) ?_
  refine own_init (s := ⟨(hp.push (kdv_tup [.int i tv])).push (excO C hp.objs.size), g, dr, tk, os⟩) T hI hcc hcda hfn (X.keeps up) (hg.keeps up) (hb.keeps up) hbs (hlim.keeps up) hx fresh hroom hi fun h' tk' dx t1 M => ?_
  have big : hp.objs.size + 1 + 1 ≤ dx := by
    have z := M.dbig
    rw [Heap.size_push, Heap.size_push] at z
    exact z
  exact ⟨rfl, hq h' tk' (hp.objs.size + 1) dx ⟨fun b o e => M.keep b o (Nat.ne_of_lt (Nat.lt_succ_of_lt (Heap.lt_size e))) (up b o e), Nat.le_succ _, ⟨_, _, M.obj, rfl, rfl, rfl, rfl⟩, Nat.le_trans (Nat.le_trans (Nat.le_succ _) (Nat.le_succ _)) big, M.dne, M.ns⟩⟩
end
end OwnE
end PySem
namespace L2
open PySem PySem.Spec PyProof.Rows PySem.OwnE
theorem relO_at {v : V} {v' : Value} (r : RelV v v') (f : Str) : RelO (List.lookup f [(("at" : Str), v)]) (if f = "at" then some v' else none) := by
  by_cases hw : f = "at"
  · subst hw
    rw [if_pos rfl]
    have q : List.lookup ("at" : Str) [(("at" : Str), v)] = some v := by simp [List.lookup]
    rw [q]
    exact r
  · rw [if_neg hw]
    have q : List.lookup f [(("at" : Str), v)] = none := by
      have qw : (f == ("at" : Str)) = false := by simpa using hw
      simp [List.lookup, qw]
    rw [q]
    trivial
section
variable {X : Cx} {C : Addr} {nC qI : Str}
/-- Own(e): the error's dict d is new and holds at = the int -/
def tMkAt (C : Addr) (ta : TA) : St → Hp → XK → Prop := fun σ H Q => ta σ H fun vs H1 => ∃ i : Int, vs = [.int i] ∧ i.natAbs.log2 < 1920 ∧ ∀ d, H1 d = none → Q (.ref C) (some d) (upd H1 d (.xd [(("at" : Str), .int i)]))
theorem pmk_at {a : Expr} {ta : TA} {p pos : Pos} {k : Nat} (T : OwnTxt X.K X.mg X.prog C nC qI) (hr : Room k X.A) (ha : PA X [a] ta) (hg : Gl X nC := by rfl) (hd : (nC == ("__debug__" : Str)) = false := by decide)
    (he : starEach (a :: []) X.env = (false, eval a X.env) :: starEach [] X.env := by rfl) (hpl : (backTo pos (starEach [] X.env)).any (·.1) = false := by rfl) :
    PMk X (.Call (.Name nC p) [a] [] pos) (tMkAt C ta) := by
  intro pins s σ H Q I h
  refine wpAny_Call_Name_kw (ld_glob I hg T.gC ?_ hd)
  refine PySem.W.callWith_K (h₀ := X.base) I.ok.mod.kin T.kC (thn (ha.run pos pins s σ H _ I h) fun us s1 hh => ?_) he hpl
  obtain ⟨vs, H1, I1, r1, i, ev, hi, q1⟩ := hh
  subst ev
  refine ⟨I1.kIn, ?_⟩
  cases r1 with
  | cons rv rn =>
    rename_i v' us'
    cases rn
    obtain ⟨tv, rfl⟩ := rv
    show wpAny _ _ (call (.ref C) [.int i tv]) _ _ _
    have hlim := I1.nolimit
    obtain ⟨mb, hb, hbb⟩ := I1.ok.mod.blt
    obtain ⟨hp, g, dr, tk, os⟩ := s1
    refine wpAny_call (own_made T I1.kIn (I1.mod.glob.keeps I1.bk) (hb.keeps I1.bk) ((hbb "super" (by decide)).trans (by first | boot_by_name | rfl | kernel_rfl)) hlim (by have := hr.dp; omega) hi fun h' tk' e d M => ?_)
    show MkP X pins σ Q (.ref e) ⟨h', g, dr, tk', os⟩
    obtain ⟨oe, fv, hoe, hc, hdd, hdat, h1⟩ := M.obj
    have hns := M.ns
    obtain ⟨G', g1, g2⟩ := restrict h' fun b => decide (b ≠ e)
    have gk : ∀ b, b ≠ e → G'.get? b = h'.get? b := fun b hb => g1 b (decide_eq_true hb)
    have ge : G'.get? e = none := g2 e (by simp)
    have old : ∀ b o, hp.get? b = some o → G'.get? b = some o := fun b o q => (gk b (Nat.ne_of_lt (Nat.lt_of_lt_of_le (Heap.lt_size q) M.new))).trans (M.keep b o q)
    have rv : RelV (.int i) (.int i tv) := ⟨tv, rfl⟩
    have ob : ObjOk X.prog X.w (upd H1 d (.xd [(("at" : Str), .int i)])) G' d (.xd [(("at" : Str), .int i)]) :=
      ⟨_, hns.at (fun o q => (gk d M.dne).trans q), fun f => relO_at rv f⟩
    have J : Inv X pins σ (upd H1 d (.xd [(("at" : Str), .int i)])) ⟨G', g, dr, tk', os⟩ := I1.laid (t' := tk') old M.dbig ob
    refine ⟨e, oe, fv, ⟨G', g, dr, tk', os⟩, _, .ref C, some d, rfl, J, fun b o q => ?_, ge, hoe, ⟨hc, hdd⟩, hdat, h1, ?_, rfl, I1.bare, raises_own T.exC T.tyC, q1 d (I1.hok.fresh M.dbig)⟩
    · by_cases hb : b = e
      · have q' : G'.get? b = some o := q
        rw [hb, ge] at q'; cases q'
      · exact (gk b hb).symm.trans q
    · rw [upd_ne (Ne.symm M.dne)]
      exact I1.hok.fresh M.new
/-- raise Own(e) -/
def tRaiseAt (C : Addr) (W : WX) (ta : TA) : TS := fun _ σ H => tMkAt C ta σ H fun cls d H' => W cls d σ H'
theorem ps_raiseAt {a : Expr} {ta : TA} {W : WX} {p pos pos2 : Pos} {k : Nat} (hc : X.calm = true) (T : OwnTxt X.K X.mg X.prog C nC qI) (hr : Room k X.A) (tk : Takes X W) (ha : PA X [a] ta) (hg : Gl X nC := by rfl) (hd : (nC == ("__debug__" : Str)) = false := by decide)
    (he : starEach (a :: []) X.env = (false, eval a X.env) :: starEach [] X.env := by rfl) (hpl : (backTo pos (starEach [] X.env)).any (·.1) = false := by rfl) :
    PS X (.Raise (some (.Call (.Name nC p) [a] [] pos)) none pos2) (tRaiseAt C W ta) := ps_raise hc tk (pmk_at T hr ha hg hd he hpl)
/-- e.at, e the exception that the suite holds -/
def tByAt (C : Addr) (a : Addr) (cls : Value) (d : Option Addr) (te : TE) : TE := fun σ H Q => te σ H fun x H1 => x = .ref a ∧ cls = .ref C ∧ ∃ (dd : Addr) (v : V), d = some dd ∧ H1 dd = some (.xd [(("at" : Str), v)]) ∧ Q v H1
theorem pe_byAt {a : Addr} {oe : Obj} {cls : Value} {d : Option Addr} {pn : List (Addr × Obj)} {e : Expr} {te : TE} {pos : Pos} (T : OwnTxt X.K X.mg X.prog C nC qI) (hz : Zc cls d oe) (hf : ∃ vs, oe.data = .fields vs) (he : PE (X.suite a ((a, oe) :: pn)) e te)
    (hb : attributeBase e "at" X.env (eval e X.env) = eval e X.env := by rfl) :
    PE (X.suite a ((a, oe) :: pn)) (.Attribute e "at" pos) (tByAt C a cls d te) := by
  refine ⟨fun pins s σ H Q I h => ?_⟩
  refine attr_of hb (thn (he.run pins s σ H _ I h) fun u s1 hh => ?_)
  obtain ⟨x, H1, I1, rx, ex, ec, dd, v, ed, ea, q⟩ := hh
  subst ex
  obtain rfl : u = Value.ref a := rx
  subst ec
  subst ed
  obtain ⟨ha, _⟩ := I1.pin (a, oe) (List.mem_append_left _ List.mem_cons_self)
  obtain ⟨vs, hd⟩ := hf
  obtain ⟨mA, hns, hr⟩ : ObjOk X.prog X.w H1 s1.heap dd (.xd [(("at" : Str), v)]) := I1.hok dd _ ea
  obtain ⟨od, ho, hl⟩ := lookIn_ns hns
  have l : List.lookup ("at" : Str) [(("at" : Str), v)] = some v := by simp [List.lookup]
  obtain ⟨u, hu, ru⟩ := RelO.some_of (v := v) (o := mA "at") (by rw [← l]; exact hr "at")
  have J : PySem.W.InstAt s1.heap a oe C (some od) := ⟨ha, hz.1, by unfold PySem.W.notCls; rw [hd] <;> rfl, by rw [hz.2]; exact ho⟩
  exact HandSPX.exc_get I1.kIn J T.ga T.gg T.exC (PySem.W.findObj_own T.hdC T.noN rfl (by rw [hl, hu])) (handed_of ru) ⟨v, H1, I1.tok _, ru, q⟩
end
end L2

namespace L2
open PySem PySem.Spec PyProof.Rows
section
variable {X : Cx}
def rRg1 : List V → Hp → VK → Prop := fun vs H Q => ∃ j, vs = [V.int j] ∧ ∀ p, H p = none → Q (.ref p) (upd H p (.rng 0 j))
def rRg2 : List V → Hp → VK → Prop := fun vs H Q => ∃ i j, vs = [V.int i, V.int j] ∧ ∀ p, H p = none → Q (.ref p) (upd H p (.rng i j))
theorem cr_rg2 : CallR X (.type "range") rRg2 := cr_range2
theorem cr_rg1 : CallR X (.type "range") rRg1 := by
  intro pins s σ H vs us Q I r h
  obtain ⟨j, rfl, q⟩ := h
  cases r with
  | cons rv rn =>
    cases rn
    obtain ⟨t, rfl⟩ := rv
    refine call_range_1 ⟨.ref s.heap.objs.size, upd H s.heap.objs.size (.rng 0 j), I.laid (t' := s.toks + 2) (fun b o e => Heap.get?_push_of_some _ e) (Nat.le_refl _) ?_, rfl, q _ (I.hok.fresh (Nat.le_refl _))⟩
    exact ⟨_, _, _, Heap.get?_push_size _ rfl⟩
def rInRg : R2 := fun x y H Q => ∃ i a lo hi, x = V.int i ∧ y = V.ref a ∧ H a = some (.rng lo hi) ∧ Q (.bl (decide (lo ≤ i ∧ i < hi))) H
def rNotInRg : R2 := fun x y H Q => ∃ i a lo hi, x = V.int i ∧ y = V.ref a ∧ H a = some (.rng lo hi) ∧ Q (.bl (!decide (lo ≤ i ∧ i < hi))) H
theorem op_inRg : OpR X (compareOp .In) rInRg := op_in_rng
theorem op_notInRg : OpR X (compareOp .NotIn) rNotInRg := by
  intro pins s σ H x y v u Q I rx ry h
  obtain ⟨i, a, lo, hi, rfl, rfl, ha, q⟩ := h
  obtain ⟨k, rfl⟩ := rx
  obtain rfl : u = Value.ref a := ry
  obtain ⟨t1, t2, t3, ho⟩ := I.hok a _ ha
  show wpAny _ _ (do return Value.bool (!(← contains (Value.ref a) (Value.int i k)))) _ _ s
  refine wpAny_bind (wpAny_contains_slot (T := "range") ⟨_, ho, rfl⟩ F.slot_range_contains (call_meets F.slot_range_contains ⟨_, ho, rfl⟩ F.entry_range_contains (F.args_range_contains_2 _ _) (q_contains a lo hi i t1 t2 t3 k)
    ⟨ho, wpAny_truthy_bool (wpAny_pure ⟨.bl _, H, I, rfl, ?_⟩)⟩))
  rw [place1]
  exact q
/-- two pairs of a number and a text -/
def ltP (i : Int) (x : Str) (j : Int) (y : Str) : Bool := if i = j then (if x = y then false else decide (x.cps.toList < y.cps.toList)) else decide (i < j)
def geP (i : Int) (x : Str) (j : Int) (y : Str) : Bool := if i = j then (if x = y then true else !decide (x.cps.toList < y.cps.toList)) else decide (j ≤ i)
def rLtP (K : PySem.W.Frag) : R2 := fun x y H Q => ∃ a b i x1 j y1, x = .ref a ∧ y = .ref b ∧ SqT K H a [.int i, .str x1] ∧ SqT K H b [.int j, .str y1] ∧ Q (.bl (ltP i x1 j y1)) H
def rGeP (K : PySem.W.Frag) : R2 := fun x y H Q => ∃ a b i x1 j y1, x = .ref a ∧ y = .ref b ∧ SqT K H a [.int i, .str x1] ∧ SqT K H b [.int j, .str y1] ∧ Q (.bl (geP i x1 j y1)) H
theorem beq_dec {α : Type} [DecidableEq α] [BEq α] [LawfulBEq α] (a b : α) : (a == b) = decide (a = b) := by
  by_cases h : a = b
  · rw [decide_eq_true h]; exact beq_iff_eq.mpr h
  · rw [decide_eq_false h]; exact beq_eq_false_iff_ne.mpr h
theorem op_ltP (hu : X.A.units + 64 < cLine) : OpR X (compareOp .Lt) (rLtP X.K) := by
  intro pins s σ H x y v u Q I rx ry h
  obtain ⟨a, b, i, x1, j, y1, rfl, rfl, ha, hb, q⟩ := h
  cases rx
  cases ry
  obtain ⟨its, r1, p1, _⟩ := I.tuple ha
  obtain ⟨its2, r2, p2, _⟩ := I.tuple hb
  obtain ⟨u1, u2, rfl, ⟨t1, rfl⟩, ⟨t2, rfl⟩⟩ := r1.two
  obtain ⟨w1, w2, rfl, ⟨t3, rfl⟩, ⟨t4, rfl⟩⟩ := r2.two
  have e : ltP i x1 j y1 = Ob.lexAt (fun k => if k = 0 then decide (i = j) else decide (x1 = y1)) (fun k => if k = 0 then decide (i < j) else decide (x1.cps.toList < y1.cps.toList)) (decide (2 < 2)) 0 2 := by
    unfold ltP Ob.lexAt Ob.lexAt Ob.lexAt
    by_cases h1 : i = j <;> by_cases h2 : x1 = y1 <;> simp [h1, h2]
  rw [e] at q
  refine (Ob.RcOp.tuples_lt (e := fun k => if k = 0 then decide (i = j) else decide (x1 = y1)) (r := fun k => if k = 0 then decide (i < j) else decide (x1.cps.toList < y1.cps.toList)) p1 p2 (Nat.lt_of_le_of_lt (Nat.le_add_right _ _) hu) (fun k h1 h2 => ?_) (fun k h1 h2 _ => ?_)) X.prog X.w _ _ ⟨.bl _, H, I, rfl, q⟩
  · match k, h1 with
    | 0, _ => exact (beq_dec i j) ▸ SeqAt.EqAt.int_int _ _ _ _
    | 1, _ => exact (beq_dec x1 y1) ▸ SeqAt.EqAt.str_str _ _ _ _
  · match k, h1 with
    | 0, _ => exact Ob.RcOp.lt_int _ _ _ _
    | 1, _ => exact fun _ _ _ _ h => lt_str h
theorem op_geP (hu : X.A.units + 64 < cLine) : OpR X (compareOp .GtE) (rGeP X.K) := by
  intro pins s σ H x y v u Q I rx ry h
  obtain ⟨a, b, i, x1, j, y1, rfl, rfl, ha, hb, q⟩ := h
  cases rx
  cases ry
  obtain ⟨its, r1, p1, _⟩ := I.tuple ha
  obtain ⟨its2, r2, p2, _⟩ := I.tuple hb
  obtain ⟨u1, u2, rfl, ⟨t1, rfl⟩, ⟨t2, rfl⟩⟩ := r1.two
  obtain ⟨w1, w2, rfl, ⟨t3, rfl⟩, ⟨t4, rfl⟩⟩ := r2.two
  have e : geP i x1 j y1 = Ob.lexAt (fun k => if k = 0 then decide (i = j) else decide (x1 = y1)) (fun k => if k = 0 then decide (j ≤ i) else !decide (x1.cps.toList < y1.cps.toList)) (decide (2 ≥ 2)) 0 2 := by
    unfold geP Ob.lexAt Ob.lexAt Ob.lexAt
    by_cases h1 : i = j <;> by_cases h2 : x1 = y1 <;> simp [h1, h2]
  rw [e] at q
  refine (Ob.RcOp.tuples_ge (e := fun k => if k = 0 then decide (i = j) else decide (x1 = y1)) (r := fun k => if k = 0 then decide (j ≤ i) else !decide (x1.cps.toList < y1.cps.toList)) p1 p2 (Nat.lt_of_le_of_lt (Nat.le_add_right _ _) hu) (fun k h1 h2 => ?_) (fun k h1 h2 _ => ?_)) X.prog X.w _ _ ⟨.bl _, H, I, rfl, q⟩
  · match k, h1 with
    | 0, _ => exact (beq_dec i j) ▸ SeqAt.EqAt.int_int _ _ _ _
    | 1, _ => exact (beq_dec x1 y1) ▸ SeqAt.EqAt.str_str _ _ _ _
  · match k, h1 with
    | 0, _ => exact Ob.RcOp.ge_int _ _ _ _
    | 1, _ => exact fun _ _ _ _ h => PySem.P.ge_str h
end
/-! ### set(l), l a list of ints -/
/-- a built-in type called: what its __new__ and its __init__ do is left to be shown -/
theorem type_called {T newId initId : String} {P : Program} {w : World} {A : Around} {E : Value → Shared → Prop} {args : List Value} {Q Q₁ : Value → Shared → Prop} {s : Shared} (ft : TypeCalled T newId initId)
    (hct : checkTypeCall T ⟨args, []⟩ = pure ()) (hnew : codeAny (model P w) A.in1 (.call (.builtin newId) ⟨.type T :: args, []⟩) (wants Q₁ E) s)
    (hnext : ∀ obj s₁, Q₁ obj s₁ → s₁.TypeIs obj T ∧ codeAny (model P w) A.in1 (.call (.builtin initId) ⟨obj :: args, []⟩) (wants (fun r s₂ => r = .none ∧ Q obj s₂) E) s₁) :
    wpAny (model P w) A (call (.type T) args) Q E s := by
  obtain ⟨c, tl, hmro⟩ := ft.mro
  have m1 := ft.made
  have m2 := ft.sub
  have m3 := ft.notType
  have m4 := ft.canCreate
  refine wpAny_call (codeAny_of_tree ?_)
  show wpAny _ _ (callAny (.type T) _) _ _ _
  refine wpAny_pure ⟨Code.quiet_builtin _ (by decide +kernel), codeAny_builtin PySem.F.entry_type_call ?_⟩
  rw [Around.under_plain (weight_type_call_type T args []) rfl]
  repeat (any_goals (first | assumption | wp_step))
  refine codeAny_mono hnew fun r s₁ hr => ?_
  cases r with
  | error e => exact hr
  | ok fl =>
    cases fl with
    | ret obj =>
      obtain ⟨hT, hi⟩ := hnext _ _ hr
      have l1 := ft.init.lookup
      have l2 := ft.init.bind obj
      repeat (any_goals (first | assumption | wp_step))
      refine codeAny_mono hi fun r₂ s₂ hr₂ => ?_
      cases r₂ with
      | error e => exact hr₂
      | ok fl₂ =>
        cases fl₂ with
        | ret r =>
          obtain ⟨rfl, hq⟩ := hr₂
          repeat (any_goals (first | assumption | wp_step))
        | _ => exact hr₂.elim
    | _ => exact hr.elim
theorem set_of_list {P : Program} {w : World} {A : Around} {E : Value → Shared → Prop} {s : Shared} {l : Addr} {items : List Value} {ns : List Int} {Q : Value → Shared → Prop} (hh : A.handled = none) (hl : s.heap.IsList l items.toArray) (hi : IntsAre items ns) (hb : ns.length + 1 < scanBound)
    (h : ∀ (h' : Heap) (tk c : Nat), SetR w h' s.heap.objs.size (fun j => decide (j ∈ ns)) c → c ≤ ns.length → (∀ b o, s.heap.get? b = some o → h'.get? b = some o) → Q (.ref s.heap.objs.size) { s with heap := h', toks := tk }) :
    wpAny (model P w) A (call (.type "set") [.ref l]) Q E s := by
  have hz : items.length = ns.length := hi.length
  refine type_called (Q₁ := fun obj s₁ => obj = .ref s.heap.objs.size ∧ s₁ = { s with heap := s.heap.push { cls := .type "set", dict := none, data := .set #[] 0 (.fresh 0 0 (!w.params.followText "set-order")) } }) F.called_set
    (F.typeCall_set_1 _) (code_set_led1 _ ⟨rfl, rfl⟩) fun obj s₁ h₁ => ?_
  obtain ⟨rfl, rfl⟩ := h₁
  have new : (s.heap.push { cls := .type "set", dict := none, data := .set #[] 0 (.fresh 0 0 (!w.params.followText "set-order")) }).get? s.heap.objs.size = some { cls := .type "set", dict := none, data := .set #[] 0 (.fresh 0 0 (!w.params.followText "set-order")) } := Heap.get?_push_size _ rfl
  have up : ∀ b o, s.heap.get? b = some o → (s.heap.push { cls := .type "set", dict := none, data := .set #[] 0 (.fresh 0 0 (!w.params.followText "set-order")) }).get? b = some o := fun b o e => Heap.get?_push_of_some _ e
  refine ⟨⟨_, new, rfl⟩, codeAny_call_builtin F.called_set.init.plain F.entry_set_init (check_set_init_1 ⟨_, new, rfl⟩ ?_)⟩
  obtain ⟨⟨ocls, odict, odata, oslots⟩, ho, hc, nl, hd⟩ := hl
  simp only at hc hd
  subst hc hd
  have ho2 := up _ _ ho
  have hl2 := Heap.lt_size ho
  have isl : (s.heap.push { cls := .type "set", dict := none, data := .set #[] 0 (.fresh 0 0 (!w.params.followText "set-order")) }).IsList l items.toArray := ⟨_, ho2, rfl, nl, rfl⟩
  have f1 := F.sub_list_set
  have f2 := F.sub_list_frozenset
  have f3 : (Value.type "list" == Value.type "dict") = false := by decide
  unfold Builtin.«set.__init__» noKeywords Builtin.Frozenset.updateFrom
  generalize hPI : pyIter = PI
  wp_walk
  subst hPI
  refine wpAny_pyIter_list isl ?_
  refine wpAny_bind (wpAny_runValue ?_)
  have hh3 : A.in1.in1.in1.handled = none := by simp [hh]
  have sz : (s.heap.push { cls := .type "set", dict := none, data := .set #[] 0 (.fresh 0 0 (!w.params.followText "set-order")) }).objs.size = s.heap.objs.size + 1 := Heap.size_push ..
  have n1 : l ≠ (s.heap.push { cls := .type "set", dict := none, data := .set #[] 0 (.fresh 0 0 (!w.params.followText "set-order")) }).objs.size := by rw [sz]; exact Nat.ne_of_lt (Nat.lt_succ_of_lt hl2)
  have n2 : s.heap.objs.size ∉ [(s.heap.push { cls := .type "set", dict := none, data := .set #[] 0 (.fresh 0 0 (!w.params.followText "set-order")) }).objs.size, l] := by
    rw [sz]
    simp only [List.mem_cons, List.not_mem_nil, or_false, not_or]
    exact ⟨Nat.ne_of_lt (Nat.lt_succ_self _), Nat.ne_of_gt hl2⟩
  have hv : ∀ (i : Nat) (v : Value), items.toArray[i]? = some v → ∃ k t, ns[i]? = some k ∧ v = .int k t := fun i v e => by
    have e' : items[i]? = some v := by simpa using e
    have hi' : i < ns.length := by rw [← hz]; exact (List.getElem?_eq_some_iff.mp e').1
    obtain ⟨t, q⟩ := IntsAre.int_at hi i v e'
    exact ⟨ns[i], t, List.getElem?_eq_getElem hi', by rw [q, List.getD_eq_getElem?_getD, List.getElem?_eq_getElem hi'] <;> rfl⟩
  refine set_update_ints ((Walks.list hh3 _ l n1 items.toArray).toS) s.heap.objs.size n2 ns (by simpa using hz) hb hv (items.toArray.size - 0) 0 _ (by omega) (Nat.zero_le _) ⟨⟨_, Heap.get?_push_size _ rfl, rfl, rfl⟩, isl.push _⟩ ?_ ?_
  · exact ⟨0, Nat.le_refl 0, setR_new_at (Heap.get?_push_of_some _ new)⟩
  · intro s' c' hm hc' hS'
    obtain ⟨h', g2, d', tk', os'⟩ := s'
    obtain rfl : g2 = s.gens := hm.gens
    obtain rfl : d' = s.drawn := hm.drawn
    obtain rfl : os' = s.os := hm.os
    show wpAny _ _ _ _ _ _
    refine wpAny_pure ?_
    show wpAny _ _ (ret Value.none) _ _ _
    have hc2 : c' ≤ ns.length := by simpa [hz] using hc'
    refine wpAny_pure ⟨rfl, h h' tk' c' hS' hc2 fun b o e => ?_⟩
    have b0 := Heap.lt_size e
    exact hm.heap b o (by rw [sz]; simp only [List.mem_cons, List.not_mem_nil, or_false, not_or]; exact ⟨Nat.ne_of_lt b0, Nat.ne_of_lt (Nat.lt_succ_of_lt b0)⟩) (Heap.get?_push_of_some _ (up _ _ e))
section
variable {X : Cx}
def rSetOfL (K : PySem.W.Frag) (w : World) : List V → Hp → VK → Prop := fun xs H Q => ∃ (l : Addr) (ns : List Int), xs = [.ref l] ∧ SqL K H l (ns.map V.int) ∧ ns.length < 64 ∧
  ∀ p c, H p = none → c ≤ ns.length → Q (.ref p) (upd H p (SetO w p (fun j => decide (j ∈ ns)) c))
theorem cr_setL (hc : X.calm = true) : CallR X (.type "set") (rSetOfL X.K X.w) := by
  intro pins s σ H xs us Q I r h
  obtain ⟨l, ns, rfl, hl, hz, q⟩ := h
  cases r with
  | cons rv rn =>
    cases rn
    cases rv
    obtain ⟨its, rr, pl, _⟩ := I.list hl
    refine set_of_list (I.ok.hd hc) pl.isList (intsAre_of rr) (by unfold scanBound; omega) fun h' tk c R hcn k => ?_
    exact ⟨.ref s.heap.objs.size, upd H s.heap.objs.size (SetO X.w s.heap.objs.size (fun j => decide (j ∈ ns)) c), I.laid (t' := tk) k (Nat.le_refl _) (setO_new R), rfl, q _ c (I.hok.fresh (Nat.le_refl _)) hcn⟩
end
end L2
namespace L2
open PySem PySem.Spec PyProof.Rows
section
variable {X : Cx}
def rInsert : V → List V → Hp → VK → Prop := fun x vs H Q => ∃ (l : Addr) (xs : List V) (i : Int) (y : V), x = .ref l ∧ vs = [.int i, y] ∧ H l = some (.lst xs) ∧ xs.length < sizeLine ∧ 0 ≤ i ∧ i < 2 ^ 63 ∧
    Q .non (upd H l (.lst (xs.take i.toNat ++ [y] ++ xs.drop i.toNat)))
theorem mt_insertR : MtR X "list.insert" rInsert := mt_insert
end
end L2

namespace PySem
namespace EnumG
open Sem (wp)
open AutoSeq1 (wpAny_loadPart')
section
variable {prog : Program} {w : World} {A : Around} {E : Value → Shared → Prop} {s : Shared}
/-- one turn: what the inner iterator gives, in a new pair -/
theorem next_item {e it : Addr} {i : Int} {old : Value} {N : Value → Shared → Prop} {Q : Value → Shared → Prop} (he : IsEnum s.heap e it i old)
    (hn : ∀ A' E', wpAny (model prog w) A' (Builtin.SmallTypes.nextOf (.ref it)) (fun x s₁ => IsEnum s₁.heap e it i old ∧ N x s₁) E' s)
    (hQ : ∀ x s₁ h', N x s₁ → IsEnumOut h' e it (i + 1) x s₁.heap.objs.size → h'.get? s₁.heap.objs.size = some { cls := .type "tuple", data := .seq #[.int i s₁.toks, x] } →
      (∀ b o, b ≠ e → s₁.heap.get? b = some o → h'.get? b = some o) → Q (.ref s₁.heap.objs.size) { s₁ with heap := h', toks := s₁.toks + 1 }) :
    wpAny (model prog w) A (Builtin.«enumerate.__next__» ⟨[.ref e], []⟩) (fun fin s' => ∃ v, fin = .done (.ret v) ∧ Q v s') E s := by
  show wpAny _ _ (field (.ref e) 2 >>= _) _ _ _
  refine wpAny_bind (wpAny_field he rfl (x := .ref it) rfl (wpAny_bind (wpAny_mono (hn A E) (fun x s₁ hx => ?_) fun _ _ z => z)))
  obtain ⟨he₁, hN⟩ := hx
  have hel : e < s₁.heap.objs.size := Heap.lt_size he₁
  replace hQ := hQ x s₁
  obtain ⟨h1, g, d, tk, os⟩ := s₁
  show wpAny _ _ (field (.ref e) 3 >>= _) _ _ _
  refine wpAny_bind (wpAny_field he₁ rfl (x := rawInt i) rfl ?_)
  show wpAny _ _ (field (.ref e) 4 >>= _) _ _ _
  refine wpAny_bind (wpAny_field he₁ rfl (x := .none) rfl ?_)
  show wpAny _ _ (mkInt i >>= _) _ _ _
  refine wpAny_bind (wpAny_mkInt ?_)
  show wpAny _ _ (setField (.ref e) 3 (rawInt (i + 1)) >>= _) _ _ _
  refine wpAny_bind (wpAny_setField_rec he₁ (by simp) fun h2 e2 b2 => ?_)
  show wpAny _ _ (setField (.ref e) 4 .none >>= _) _ _ _
  refine wpAny_bind (wpAny_setField_rec e2 (by simp) fun h3 e3 b3 => ?_)
  show wpAny _ _ (newTuple [.int i tk, x] >>= _) _ _ _
  refine wpAny_bind (wpAny_newTuple ?_)
  have z3 : h3.objs.size = h1.objs.size := by rw [b3.1, b2.1]
  have e4 : IsEnum (h3.push { cls := .type "tuple", data := .seq #[.int i tk, x] }) e it (i + 1) old := Heap.get?_push_of_some _ e3
  have t4 : (h3.push { cls := .type "tuple", data := .seq #[.int i tk, x] }).get? h1.objs.size = some { cls := .type "tuple", data := .seq #[.int i tk, x] } := by
    rw [← z3]; exact Heap.get?_push_size _ rfl
  have k4 : ∀ b o, b ≠ e → h1.get? b = some o → (h3.push { cls := .type "tuple", data := .seq #[.int i tk, x] }).get? b = some o := fun b o hb q =>
    Heap.get?_push_of_some _ (b3.extBut b o hb (b2.extBut b o hb q))
  show wpAny _ _ (Builtin.SmallTypes.ownedTupleIsFree (.ref e) >>= _) _ _ _
  rw [z3]
  generalize h3.push { cls := .type "tuple", data := .seq #[.int i tk, x] } = h4 at e4 t4 k4
  unfold Builtin.SmallTypes.ownedTupleIsFree
  refine wpAny_bind (wpAny_bind (wpAny_field e4 rfl (x := .none) rfl (wpAny_pure ?_)))
  simp only [if_true]
  refine wpAny_bind (wpAny_rule (wpAny_bind (wpAny_field e4 rfl (x := old) rfl (wpAny_bind (wpAny_setField_rec e4 (by simp) fun h5 e5 b5 => ?_)))))
  show wpAny _ _ (Builtin.SmallTypes.ownedTupleHandOut (.ref e) (.ref h1.objs.size) >>= _) _ _ _
  unfold Builtin.SmallTypes.ownedTupleHandOut
  refine wpAny_bind (wpAny_bind (wpAny_setField_rec e5 (by simp) fun h6 e6 b6 => wpAny_setField_rec e6 (by simp) fun h7 e7 b7 => ?_))
  have far : ∀ b o, b ≠ e → h4.get? b = some o → h7.get? b = some o := fun b o hb q => b7.extBut b o hb (b6.extBut b o hb (b5.extBut b o hb q))
  exact wpAny_bind (wpAny_letGo (wpAny_pure ⟨_, rfl, hQ h7 hN e7 (far _ _ (Nat.ne_of_gt hel) t4) fun b o hb q => far b o hb (k4 b o hb q)⟩))
end
end EnumG
end PySem
namespace PySem
namespace EnumG
open Sem (wp)
section
variable {prog : Program} {w : World} {A : Around} {E : Value → Shared → Prop} {s : Shared}
/-- what an enumerate asks of a tuple's iterator: an item -/
theorem nextOf_tup {it l : Addr} {i : Nat} {items : Array Value} {x : Value} {Q : Value → Shared → Prop} (hit : s.heap.IsTupleIter it l i) (hl : s.heap.IsTuple l items) (hx : items[i]? = some x)
    (hQ : ∀ h', h'.IsTupleIter it l (i + 1) → Heap.SameBut it s.heap h' → Q x { s with heap := h' }) : wpAny (model prog w) A (Builtin.SmallTypes.nextOf (.ref it)) Q E s := by
  obtain ⟨o, ho, hc, hd⟩ := id hit
  obtain ⟨ol, hol, _, nl, hdl⟩ := hl
  unfold Builtin.SmallTypes.nextOf
  refine wpAny_bind (wpAny_callSpecial?_slot (name := Str.ofString "__next__") hit.typeIs F.slot_tuple_iterator_next
    (wpAny_call_entry F.slot_tuple_iterator_next hit.typeIs F.entry_tuple_iterator_next ?_ (F.args_tuple_iterator_next_1 _)))
  show wpAny _ _ (field (.ref it) 0 >>= _) _ _ s
  refine wpAny_bind (wpAny_field ho hd (x := .ref l) rfl ?_)
  show wpAny _ _ (if (Value.ref l == Value.none) = true then _ else _) _ _ s
  rw [if_neg (show ¬ ((Value.ref l == Value.none) = true) from Bool.false_ne_true)]
  show wpAny _ _ (field (.ref it) 1 >>= _) _ _ s
  refine wpAny_bind (wpAny_field ho hd (x := .int i 0) rfl ?_)
  show wpAny _ _ (seqItems? (.ref l) >>= _) _ _ s
  refine wpAny_bind (wpAny_seqItems hol hdl ?_)
  simp only [Int.toNat_natCast, hx]
  refine wpAny_bind (wpAny_setField ho hd (by simp) (wpAny_pure ⟨x, rfl, wpAny_pure (hQ _ ?_ (Heap.SameBut.update ..))⟩))
  exact ⟨_, Heap.get?_update_self _ ho (Obj.isFreed_of_fields (Obj.data_mapFields hd _)), (Obj.cls_mapFields ..).trans hc, by rw [Obj.data_mapFields hd]; simp [rawInt]⟩
/-- its end -/
theorem nextOf_tup_end {it l : Addr} {i : Nat} {items : Array Value} {Q : Value → Shared → Prop} (hh : A.handled = none) (hit : s.heap.IsTupleIter it l i) (hl : s.heap.IsTuple l items) (hx : items[i]? = none)
    (hE : ∀ h' e, Heap.ExtBut it s.heap h' → (∃ o, h'.get? e = some o ∧ o.cls = .type "StopIteration") → E (.ref e) { s with heap := h' }) : wpAny (model prog w) A (Builtin.SmallTypes.nextOf (.ref it)) Q E s := by
  obtain ⟨o, ho, hc, hd⟩ := id hit
  obtain ⟨ol, hol, _, nl, hdl⟩ := hl
  unfold Builtin.SmallTypes.nextOf
  refine wpAny_bind (wpAny_callSpecial?_slot (name := Str.ofString "__next__") hit.typeIs F.slot_tuple_iterator_next
    (wpAny_call_entry F.slot_tuple_iterator_next hit.typeIs F.entry_tuple_iterator_next ?_ (F.args_tuple_iterator_next_1 _)))
  show wpAny _ _ (field (.ref it) 0 >>= _) _ _ s
  refine wpAny_bind (wpAny_field ho hd (x := .ref l) rfl ?_)
  show wpAny _ _ (if (Value.ref l == Value.none) = true then _ else _) _ _ s
  rw [if_neg (show ¬ ((Value.ref l == Value.none) = true) from Bool.false_ne_true)]
  show wpAny _ _ (field (.ref it) 1 >>= _) _ _ s
  refine wpAny_bind (wpAny_field ho hd (x := .int i 0) rfl ?_)
  show wpAny _ _ (seqItems? (.ref l) >>= _) _ _ s
  refine wpAny_bind (wpAny_seqItems hol hdl ?_)
  simp only [Int.toNat_natCast, hx]
  refine wpAny_bind (wpAny_rule (wpAny_bind (wpAny_setField ho hd (by simp) ?_)))
  show wpAny _ _ (newExc (.type "StopIteration") [] >>= _) _ _ _
  refine wpAny_bind ?_
  simp only [newExc, newTuple]
  refine wpAny_bind (wpAny_newObj_type ?_ (by size_fits))
  refine wpAny_bind (m := firstArgMember _ _) (wpAny_of_eq (a := Value.none) (by first | rfl | (simp only [firstArgMember]; rfl)) ?_)
  refine wpAny_newObj_type ?_ (by size_fits)
  simp only [raiseNew]
  refine wpAny_bind (wpAny_handled ?_)
  first | rw [show A.in1.handled = none from hh] | rw [hh]
  refine wpAny_bind (wpAny_pure (wpAny_throw ?_))
  exact hE _ _ (((Heap.SameBut.update ..).extBut.push _).push _) ⟨_, Heap.get?_push_size _ rfl, rfl⟩
theorem pyNext_item {e it l : Addr} {i : Nat} {items : Array Value} {x old : Value} {Q : Option Value → Shared → Prop} (he : IsEnum s.heap e it i old) (hit : s.heap.IsTupleIter it l i) (hl : s.heap.IsTuple l items) (hx : items[i]? = some x) (hne : e ≠ it)
    (hQ : ∀ h', IsEnumOut h' e it ((i : Int) + 1) x s.heap.objs.size → h'.IsTupleIter it l (i + 1) → h'.get? s.heap.objs.size = some { cls := .type "tuple", data := .seq #[.int i s.toks, x] } →
      (∀ b o, b ≠ e → b ≠ it → s.heap.get? b = some o → h'.get? b = some o) → Q (some (.ref s.heap.objs.size)) { s with heap := h', toks := s.toks + 1 }) :
    wpAny (model prog w) A (pyNext (.ref e)) Q E s := by
  have hT : s.TypeIs (.ref e) "enumerate" := ⟨_, he, rfl⟩
  unfold pyNext
  refine wpAny_bind (wpAny_attempt (wpAny_callSpecial?_slot (name := Str.ofString "__next__") hT F.slot_enumerate_next
    (wpAny_call_entry F.slot_enumerate_next hT F.entry_enumerate_next (next_item (N := fun y s₁ => y = x ∧ ∃ h₁, s₁ = { s with heap := h₁ } ∧ h₁.IsTupleIter it l (i + 1) ∧ Heap.SameBut it s.heap h₁) he (fun A' E' => ?_) (fun y s₁ h' hN ho ht k => ?_)) (F.args_enumerate_next_1 _))))
  · exact nextOf_tup hit hl hx fun h₁ hi b => ⟨(b.2 e hne).trans he, rfl, h₁, rfl, hi, b⟩
  · obtain ⟨rfl, h₁, rfl, hi, b⟩ := hN
    have z : h₁.objs.size = s.heap.objs.size := b.1
    simp only [z] at ho ht ⊢
    obtain ⟨oi, hoi, r⟩ := hi
    exact wpAny_pure (hQ h' ho ⟨oi, k _ _ (Ne.symm hne) hoi, r⟩ ht fun c o hce hci q => k c o hce (b.extBut c o hci q))
theorem pyNext_end {e it l : Addr} {i : Nat} {items : Array Value} {old : Value} {Q : Option Value → Shared → Prop} (hh : A.handled = none) (he : IsEnum s.heap e it i old) (hit : s.heap.IsTupleIter it l i) (hl : s.heap.IsTuple l items) (hx : items[i]? = none)
    (hQ : ∀ h', Heap.ExtBut it s.heap h' → Q none { s with heap := h' }) : wpAny (model prog w) A (pyNext (.ref e)) Q E s := by
  have hT : s.TypeIs (.ref e) "enumerate" := ⟨_, he, rfl⟩
  unfold pyNext
  refine wpAny_bind (wpAny_attempt (wpAny_callSpecial?_slot (name := Str.ofString "__next__") hT F.slot_enumerate_next
    (wpAny_call_entry F.slot_enumerate_next hT F.entry_enumerate_next ?_ (F.args_enumerate_next_1 _))))
  show wpAny _ _ (field (.ref e) 2 >>= _) _ _ _
  refine wpAny_bind (wpAny_field he rfl (x := .ref it) rfl ?_)
  refine wpAny_bind (nextOf_tup_end hh hit hl hx fun h' x he' ⟨o, ho, hc⟩ => ?_)
  exact wpAny_bind (wpAny_isInstance (T := "StopIteration") (b := true) ⟨o, ho, hc⟩ isSubtype_stop (wpAny_pure (hQ _ he')))
theorem meets_new (l : Addr) (items : Array Value) (n : Nat) (dct : Option Addr) (sl : Array (Option Value)) :
    Meets (Builtin.«enumerate.__new__» ⟨[.type "enumerate", .ref l], []⟩) (fun _ R s => s.heap.get? l = some { cls := .type "tuple", dict := dct, data := .seq items n, slots := sl } ∧
      R (.ok (.ret (.ref (s.heap.objs.size + 1)))) { s with heap := (s.heap.push { cls := .type "tuple_iterator", data := .fields #[.ref l, .int 0 0] }).push { cls := .type "enumerate", data := .fields #[.none, .bool false, .ref s.heap.objs.size, rawInt 0, .none, .none] } }) :=
  .of_wp fun prog w A R s h => by
    obtain ⟨hp, g, d, tk, os⟩ := s; obtain ⟨hl, h⟩ := h
    have hsub := sub_enumerate
    have hz : (hp.push { cls := .type "tuple_iterator", data := .fields #[.ref l, .int 0 0] }).objs.size = hp.objs.size + 1 := Heap.size_push ..
    have hL : Heap.IsTuple (Shared.heap ⟨hp, g, d, tk, os⟩) l items := ⟨_, hl, rfl, n, rfl⟩
    wp_walk using AutoSeq1.wpAny_loadPart' hl
    refine wpAny_stack_any fun st => wpAny_pure ?_
    split
    · rename_i c _ _ _ _ _
      cases (c == Value.type "enumerate") <;>
      · wp_walk using AutoSeq1.wpAny_loadPart' hl, wpAny_pyIter_tuple hL
        exact ⟨_, rfl, by first | exact h | (rw [hz]; exact h)⟩
    · wp_walk using AutoSeq1.wpAny_loadPart' hl, wpAny_pyIter_tuple hL
      exact ⟨_, rfl, by first | exact h | (rw [hz]; exact h)⟩
theorem call_enum {l : Addr} {items : Array Value} {Q : Value → Shared → Prop} (hL : s.heap.IsTuple l items)
    (h : ∀ h', IsEnum h' (s.heap.objs.size + 1) s.heap.objs.size 0 .none → h'.IsTupleIter s.heap.objs.size l 0 → (∀ b o, s.heap.get? b = some o → h'.get? b = some o) → Q (.ref (s.heap.objs.size + 1)) { s with heap := h' }) :
    wpAny (model prog w) A (call (.type "enumerate") [.ref l]) Q E s := by
  obtain ⟨⟨c, dct, dt, sl⟩, hl, hc, n, hd⟩ := hL
  simp only at hc hd
  subst hc hd
  refine callType_new F.called_enumerate (by decide) (F.typeCall_enumerate_1 _) (F.newCall_enumerate_1 _) (fun obj => F.args_object_init_2 obj _) F.entry_enumerate_new (meets_new l items n dct sl) ⟨hl, ?_⟩
  have hz : (s.heap.push { cls := .type "tuple_iterator", data := .fields #[.ref l, .int 0 0] }).objs.size = s.heap.objs.size + 1 := Heap.size_push ..
  have he : IsEnum ((s.heap.push { cls := .type "tuple_iterator", data := .fields #[.ref l, .int 0 0] }).push { cls := .type "enumerate", data := .fields #[.none, .bool false, .ref s.heap.objs.size, rawInt 0, .none, .none] }) (s.heap.objs.size + 1) s.heap.objs.size 0 .none := by
    have q := Heap.get?_push_size (s.heap.push { cls := .type "tuple_iterator", data := .fields #[.ref l, .int 0 0] }) (o := { cls := .type "enumerate", data := .fields #[.none, .bool false, .ref s.heap.objs.size, rawInt 0, .none, .none] }) rfl
    rw [hz] at q
    exact q
  exact ⟨⟨_, he, rfl⟩, h _ he ⟨_, Heap.get?_push_of_some _ (Heap.get?_push_size _ rfl), rfl, rfl⟩ fun b o x => Heap.get?_push_of_some _ (Heap.get?_push_of_some _ x)⟩
end
end EnumG
end PySem
namespace L2
open PySem PySem.Spec PyProof.Rows
/-- the tuple at a, each item with its number in a new pair -/
def IteT (K : PySem.W.Frag) (a : Addr) : It :=
  ⟨fun i H => ∃ (xs : List V) (x : V), SqT K H a xs ∧ xs[i]? = some x, fun i H v H' => ∃ T x, v = .ref T ∧ H T = none ∧ H' = upd H T (.tup [.int (i : Nat), x]) ∧ ∀ xs, SqT K H a xs → xs[i]? = some x, fun i H => ∃ xs : List V, SqT K H a xs ∧ xs.length ≤ i⟩
theorem turn_enumT {P : Program} {w : World} {K : PySem.W.Frag} {elts : List Expr} {kk : Nat} {tpos : Pos} (a e it : Addr) :
    Turn P w K (.Tuple elts kk tpos) (IteT K a) [e, it] e (fun i h => (∃ old, IsEnum h e it ((i : Nat) : Int) old) ∧ h.IsTupleIter it a i ∧ e ≠ it) where
  mem := by simp
  obj := fun i h ⟨⟨old, he⟩, ⟨o, ho, hc, hd⟩, _⟩ b hb => by
    rcases List.mem_cons.mp hb with rfl | hb
    · exact ⟨_, he, fun v q => nomatch q⟩
    · obtain rfl : b = it := by simpa using hb
      exact ⟨o, ho, fun v q => by rw [hd] at q; cases q⟩
  keep := fun i h h' ⟨⟨old, he⟩, ⟨o, ho, r⟩, hne⟩ k => ⟨⟨old, k e (by simp) _ he⟩, ⟨o, k it (by simp) _ ho, r⟩, hne⟩
  item := by
    intro X hP hw hK hc i pins s σ H E I hf st hg
    subst hP hw hK
    obtain ⟨⟨old, he⟩, hit, hne⟩ := st
    obtain ⟨xs, x, hq, hx⟩ := hg
    obtain ⟨its, rv, p, hz⟩ := I.tuple hq
    obtain ⟨u, hu, ru⟩ := rv.get hx
    have hel : e < s.heap.objs.size := Heap.lt_size he
    have hil : it < s.heap.objs.size := let ⟨_, q, _⟩ := hit; Heap.lt_size q
    refine EnumG.pyNext_item he hit (show s.heap.IsTuple a its.toArray from p) (x := u) (by simpa using hu) hne fun h' ho hit' hT hk => ?_
    refine ⟨_, rfl, wpAny_letOwnedTupleGo_enum (s := { s with heap := h', toks := s.toks + 1 }) ho fun h'' he' sb => ?_⟩
    have hT2 : h''.get? s.heap.objs.size = some { cls := .type "tuple", data := .seq #[.int i s.toks, u] } := (sb.2 _ (Nat.ne_of_gt hel)).trans hT
    have new : ObjOk X.prog X.w (upd H s.heap.objs.size (.tup [.int (i : Nat), x])) h'' s.heap.objs.size (.tup [.int (i : Nat), x]) :=
      ⟨by show 2 ≤ sizeLine; decide, [.int i s.toks, u], .cons ⟨_, rfl⟩ (.cons ru .nil), ⟨_, hT2, rfl, _, rfl⟩⟩
    have I1 : Inv X pins σ (upd H s.heap.objs.size (.tup [.int (i : Nat), x])) { s with heap := h'', toks := s.toks + 1 } :=
      I.turnedNew (ch := [e, it]) (fun b ob hb q => (sb.2 b (fun z => hb (by simp [z]))).trans (hk b ob (fun z => hb (by simp [z])) (fun z => hb (by simp [z])) q)) hf (Nat.le_refl _) new
    obtain ⟨oi, hoi, ri⟩ := hit'
    refine ⟨.ref s.heap.objs.size, _, I1, rfl, ⟨_, x, rfl, I.hok.fresh (Nat.le_refl _), rfl, fun ys hy => by rw [I.tuple_inj hy hq]; exact hx⟩, ⟨⟨u, ?_⟩, ⟨oi, (sb.2 it (Ne.symm hne)).trans hoi, ri⟩, hne⟩, fun b hb => ?_⟩
    · have e1 : ((i + 1 : Nat) : Int) = (i : Int) + 1 := by omega
      rw [e1]; exact he'
    · have hb' : b < s.heap.objs.size := by
        rcases List.mem_cons.mp hb with rfl | hb
        · exact hel
        · obtain rfl : b = it := by simpa using hb
          exact hil
      rw [upd_ne (Nat.ne_of_lt hb')]
      exact (hf b hb).1
  done := by
    intro X hP hw hK hc i pins s σ H E I hf st hg
    subst hP hw hK
    obtain ⟨⟨old, he⟩, hit, hne⟩ := st
    obtain ⟨xs, hq, hx⟩ := hg
    obtain ⟨its, rv, p, hz⟩ := I.tuple hq
    obtain ⟨f0, f1, f2, f3, f4, f5⟩ := hf it (by simp)
    have hl := rv.length
    exact EnumG.pyNext_end (I.ok.hd hc) he hit (show s.heap.IsTuple a its.toArray from p) (by simp; omega) fun h' eb => ⟨rfl, I.turned (t' := s.toks) (fun b o hb q => eb b o hb q) f0 f1 f3 f4 f5⟩
  self := fun A i s Q E ⟨⟨_, he⟩, _⟩ h => wpAny_pyIter_enum he h
def iEnumT (K : PySem.W.Frag) (ta : TA) : TI := fun σ H R => ta σ H fun vs H1 => ∃ a xs, vs = [.ref a] ∧ SqT K H1 a xs ∧ R (IteT K a) H1
theorem pi_enumT {X : Cx} {e : Expr} {ta : TA} {p pos tpos : Pos} {elts : List Expr} {kk : Nat} (hg : Gl X "enumerate") (hm : X.mg "enumerate" = none) (ha : PA X [e] ta) (hs : starEach [e] X.env = [(false, eval e X.env)] := by rfl) :
    PI X (.Tuple elts kk tpos) (.Call (.Name "enumerate" p) [e] [] pos) (iEnumT X.K ta) := by
  refine ⟨fun pins s σ H R I h => ?_⟩
  refine Call_ (ld_blt I hg hm boot_enumerate (PyProof.Rows.callWith_type1 (thn (ha.run pos pins s σ H _ I h) fun us s1 ⟨vs, H1, I1, r1, q1⟩ => ?_) hs rfl))
  obtain ⟨a, xs, ex, hq, q⟩ := q1
  subst ex
  cases r1 with
  | cons r rr =>
    cases rr
    cases r
    obtain ⟨its, rv, p', hz⟩ := I1.tuple hq
    refine EnumG.call_enum (show s1.heap.IsTuple a its.toArray from p') fun h' he hit hk => wpAny_pyIter_enum he ?_
    have I2 : Inv X pins σ H1 { s1 with heap := h' } := I1.kept (t' := s1.toks) hk
    refine ⟨s1.heap.objs.size + 1, [s1.heap.objs.size + 1, s1.heap.objs.size], _, _, H1, rfl, I2, turn_enumT a (s1.heap.objs.size + 1) s1.heap.objs.size, ⟨⟨.none, he⟩, hit, Nat.succ_ne_self _⟩, fun b hb => ?_, q⟩
    have hle : s1.heap.objs.size ≤ b := by
      rcases List.mem_cons.mp hb with rfl | hb
      · exact Nat.le_add_right _ _
      · obtain rfl : b = s1.heap.objs.size := by simpa using hb
        exact Nat.le_refl _
    exact I1.fpOk hle (I1.hok.fresh hle)
end L2
namespace L2
open PySem PySem.Spec PyProof.Rows
/-- isinstance of the exception that a suite holds, its class known, fields in its dict -/
def rIsE3 (K : PySem.W.Frag) (D a : Addr) (cls : Value) (d : Option Addr) : List V → Hp → VK → Prop := fun xs H Q => cls = .ref D ∧ (∃ dd fs, d = some dd ∧ H dd = some (.xd fs)) ∧ rIsE K D a xs H Q
theorem call_isE3 {X : Cx} {a D : Addr} {oe : Obj} {pn : List (Addr × Obj)} {cls : Value} {d : Option Addr} (C : ExcC X.K D) (hz : Zc cls d oe) (hf : ∃ vs, oe.data = .fields vs) :
    CallR (X.suite a ((a, oe) :: pn)) (.builtin "isinstance") (rIsE3 X.K D a cls d) := by
  intro pins s σ H xs us Q I r h
  obtain ⟨rfl, ⟨dd, fs, rfl, hdd⟩, c, cv, b, rfl, hcv, e, q⟩ := h
  cases r with
  | cons rx rr =>
    cases rr with
    | cons rt rr =>
      cases rr
      cases rx
      obtain rfl := hcv _ rt
      obtain ⟨hget, _⟩ := I.pin (a, oe) (List.mem_append.mpr (.inl List.mem_cons_self))
      obtain ⟨vs, hv⟩ := hf
      obtain ⟨mA, hns, hr⟩ : ObjOk X.prog X.w H s.heap dd (.xd fs) := I.hok dd _ hdd
      obtain ⟨od, ho, hl⟩ := lookIn_ns hns
      have J : PySem.W.InstAt s.heap a oe D (some od) := ⟨hget, hz.1, by unfold PySem.W.notCls; rw [hv] <;> rfl, by rw [hz.2]; exact ho⟩
      have hc : (PySem.W.clsIn X.K D).isSome = true := by
        have z := C.hd
        unfold PySem.W.hasDictIn at z
        cases y : PySem.W.clsIn X.K D with
        | none => rw [y] at z; cases z
        | some _ => rfl
      exact PySem.W.kia_one (PySem.W.kitx_exc hc C.hg C.hk C.hs C.ha C.hn C.ht C.hm) I.kIn J e (fun z => nomatch z) fun tk => ⟨.bl b, H, I.kept (t' := tk) fun _ _ z => z, rfl, q⟩
end L2
namespace My
open PySem PySem.Spec PyProof.Rows L2
theorem forET {K : PySem.W.Frag} {ta : TA} {g : TG} {tb : TS} {D : Ends} {σ : L2.St} {H : Hp} {a : Addr} {xs : List V} (i1 i2 : Nat) (Pv : Nat → L2.St → Hp → Prop) (ht : ∀ R : List V → Hp → Prop, R [.ref a] H → ta σ H R) (hS : SqT K H a xs) (h0 : Pv 0 σ H)
    (hl : ∀ j σ H, Pv j σ H → SqT K H a xs) (hx : ∀ j σ H T o, Pv j σ H → H T = none → Pv j σ (upd H T o))
    (hs : ∀ j x σ H, xs[j]? = some x → Pv j σ H → tb { D with nx := Pv (j + 1), ct := Pv (j + 1), bk := D.nx } ((σ.set i1 (some (.int (j : Nat)))).set i2 (some x)) H) (hd : ∀ σ H, Pv xs.length σ H → D.nx σ H)
    (hg : g = gTup K 2 (gCons (gName i1) (gCons (gName i2) gNil)) := by rfl) : tFor (iEnumT K ta) g tb D σ H := by
  subst hg
  refine ht _ ⟨a, xs, rfl, hS, fun i m σ H => m = xs.length - i ∧ i ≤ xs.length ∧ Pv i σ H, ⟨xs.length, by simp, Nat.zero_le _, h0⟩, ?_⟩
  rintro i m σ H ⟨rfl, hi, p⟩
  have q := hl i σ H p
  by_cases hlt : i < xs.length
  · refine .inr ⟨⟨xs, xs[i], q, by simp [hlt]⟩, Pv (i + 1), fun σ' H' p' => ⟨xs.length - (i + 1), by omega, rfl, hlt, p'⟩, fun x H' y => ?_⟩
    obtain ⟨T, x', rfl, hT, rfl, hq⟩ := y
    exact ⟨T, _, rfl, SqT.of upd_same, rfl, _, _, rfl, _, _, rfl, rfl, hs i x' σ _ (hq xs q) (hx i σ H T _ p hT)⟩
  · have e : i = xs.length := by omega
    subst e
    exact .inl ⟨⟨xs, q, Nat.le_refl _⟩, hd σ H p⟩
/-- [e for x in l], l a list, where e may change the objects of B; J is what holds of them -/
theorem lcLB2 {K : PySem.W.Frag} {tl : TE} {g : TG} {tt : TT} {te : TE} {vs : List Nat} {σ : L2.St} {H : Hp} {Q : VK} {l : Addr} {xs : List V} (i : Nat) (B : List Addr) (J : Hp → Prop) (P : Nat → V → Hp → Prop) (ht : ∀ R : VK, R (.ref l) H → tl σ H R) (hS : SqL K (wo B H) l xs) (hn : xs.length ≤ 100000)
    (hP : ∀ j v H H', Ex H H' → P j v H → P j v H')
    (hw : ∀ x, wipe ((wipe σ vs).set i (some x)) vs = wipe σ vs) (hJ : J H)
    (he : ∀ (j : Nat) x D H1 (Q1 : VK) acc, xs[j]? = some x → H D = none → H1 D = some (.lst acc) → Ex (wo B H) (wo B (wo [D] H1)) → J (wo [D] H1) →
      (∀ v H2, H2 D = H1 D → Ex (wo B (wo [D] H1)) (wo B (wo [D] H2)) → J (wo [D] H2) → P j v (wo B (wo [D] H2)) → Q1 v H2) → te ((wipe σ vs).set i (some x)) H1 Q1)
    (k : ∀ D H' ys, H D = none → Ex (wo B H) (wo B (wo [D] H')) → J (wo [D] H') → H' D = some (.lst ys) → Made xs.length P ys (wo B (wo [D] H')) → Q (.ref D) H')
    (hg : g = gName i := by rfl) (htt : tt = tYes := by rfl) : tLc (iList K tl) g tt te vs σ H Q := by
  subst hg htt
  refine ht _ ⟨l, rfl, ⟨xs, wo_ex.sqL hS⟩, fun D hD => ?_⟩
  refine lc_list (xs := xs) (fun j H' => j ≤ xs.length ∧ Ex (wo B H) (wo B (wo [D] H')) ∧ J (wo [D] H') ∧ ∃ ys, H' D = some (.lst ys) ∧ Made j P ys (wo B (wo [D] H'))) ⟨Nat.zero_le _, ?_, ?_, [], upd_same, rfl, fun j hj => absurd hj (Nat.not_lt_zero j)⟩ (fun j H' _ p => ?_) (fun j x H' hx p => ?_) (fun H' p => ?_)
  · rw [wo_upd (List.mem_singleton.mpr rfl), wo_off hD]
    exact Same.refl _
  · rw [wo_upd (List.mem_singleton.mpr rfl), wo_off hD]
    exact hJ
  · exact Ex.sqL wo_ex (Ex.sqL wo_ex (Ex.sqL p.2.1 hS))
  · obtain ⟨hj, e, hj1, ys, hy, hm⟩ := p
    have hjl : j < xs.length := (List.getElem?_eq_some_iff.mp hx).1
    refine ⟨hw _, ?_⟩
    simp only [tYes, if_true]
    refine he j x D H' _ ys hx hD hy e hj1 (fun v H2 hD2 e2 hj2 hv => ⟨ys, hD2.trans hy, ?_, hjl, ?_, ?_, ys ++ [v], upd_same, ?_⟩)
    · rw [hm.1]
      exact Nat.lt_of_lt_of_le (show j < 100000 by omega) (by decide)
    · rw [wo_upd (List.mem_singleton.mpr rfl)]
      exact e.trans e2
    · rw [wo_upd (List.mem_singleton.mpr rfl)]
      exact hj2
    · rw [wo_upd (List.mem_singleton.mpr rfl)]
      exact hm.more (fun j u hu => hP _ _ _ _ e2 hu) hv
  · obtain ⟨hj, e, hj1, ys, hy, hm⟩ := p
    exact k D H' ys hD e hj1 hy hm
end My

namespace My
open PySem PySem.Spec PyProof.Rows L2
theorem funD_mk {K : PySem.W.Frag} {x qual : Str} {st : Stmt} {f T : Addr} {oc : Value} {od an : Option Addr} {osl : Array (Option Value)} {kV doc pm cdv ct : Value} {o : Obj} {dvs : List V}
    (l : K.lookup f = some ⟨oc, od, .func (PySem.W.fnOf x qual (defArgs st) (defBody st) (defScope st) (.ref T) kV doc pm an cdv ct), osl⟩)
    (c : PySem.W.codeIn K cdv qual = true) (k : PySem.W.keepIn K (.ref f) = true) (hd : dvs ≠ []) (lT : K.lookup T = some o) (vT : TupObj o dvs) :
    FunD K x qual (defArgs st) (defBody st) (defScope st) dvs [] f (PySem.W.fnOf x qual (defArgs st) (defBody st) (defScope st) (.ref T) kV doc pm an cdv ct) := by
  obtain ⟨_, its, n, h3, _, h5⟩ := vT
  exact ⟨⟨oc, od, .ref T, kV, doc, pm, an, cdv, ct, osl, rfl, l, c, .inr ⟨hd, T, o, its.toList, n, rfl, lT, by rw [h3] <;> simp, h5⟩, .inl rfl⟩, k⟩
/-- for x in range(lo, hi, c) -/
theorem forR3 {ta : TA} {g : TG} {tb : TS} {D : Ends} {σ : L2.St} {H : Hp} {lo hi c : Int} {n : Nat} (i : Nat) (Pv : Nat → L2.St → Hp → Prop) (ht : ∀ R : List V → Hp → Prop, R [.int lo, .int hi, .int c] H → ta σ H R) (hr : RgC lo hi c n) (h0 : Pv 0 σ H)
    (hs : ∀ (j : Nat) σ H, j < n → Pv j σ H → tb { D with nx := Pv (j + 1), ct := Pv (j + 1), bk := D.nx } (σ.set i (some (.int (lo + (j : Nat) * c)))) H) (hd : ∀ σ H, Pv n σ H → D.nx σ H)
    (hg : g = gName i := by rfl) : tFor (iRng3 ta) g tb D σ H := by
  subst hg
  exact ht _ ⟨lo, hi, c, n, rfl, hr, for_rangeC Pv h0 hs hd⟩
/-- the frames of a phase: range(phase, 32, every) -/
theorem rgc_phase : ∀ k < 6, ∀ p < 2 ^ k, RgC ((p : Nat) : Int) 32 ((2 ^ k : Nat) : Int) (32 / 2 ^ k) := by
  unfold RgC
  decide +kernel
/-- [e for x in t], t a tuple that a call or a display makes -/
theorem lcAtT {K : PySem.W.Frag} {tl : TE} {g : TG} {tt : TT} {te : TE} {vs : List Nat} {σ : L2.St} {H : Hp} {Q : VK} (S : Addr → Hp → Prop) (ht : ∀ R : VK, (∀ p H0, S p H0 → R (.ref p) H0) → tl σ H R)
    (k : ∀ p H0, S p H0 → tLc (iTup K fun _ H' R => R (.ref p) H') g tt te vs σ H0 Q) : tLc (iTup K tl) g tt te vs σ H Q :=
  ht _ fun p H0 s => k p H0 s
/-- [e for i, x in enumerate(t)], t a tuple -/
theorem lcET {K : PySem.W.Frag} {ta : TA} {g : TG} {tt : TT} {te : TE} {vs : List Nat} {σ : L2.St} {H : Hp} {Q : VK} {a : Addr} {xs : List V} (i1 i2 : Nat) (P : Nat → V → Hp → Prop) (ht : ∀ R : List V → Hp → Prop, R [.ref a] H → ta σ H R) (hS : SqT K H a xs) (hn : xs.length ≤ 100000)
    (hP : ∀ j v H H', Ex H H' → P j v H → P j v H')
    (hw : ∀ x y, wipe (((wipe σ vs).set i1 (some x)).set i2 (some y)) vs = wipe σ vs)
    (he : ∀ (j : Nat) x D H1 (Q1 : VK), xs[j]? = some x → H D = none → H1 D ≠ none → Ex H (wo [D] H1) → (∀ v H2, Ex H1 H2 → P j v (wo [D] H2) → Q1 v H2) → te (((wipe σ vs).set i1 (some (.int (j : Nat)))).set i2 (some x)) H1 Q1)
    (k : ∀ D H' ys, H D = none → Ex H (wo [D] H') → H' D = some (.lst ys) → Made xs.length P ys (wo [D] H') → Q (.ref D) H')
    (hg : g = gTup K 2 (gCons (gName i1) (gCons (gName i2) gNil)) := by rfl) (htt : tt = tYes := by rfl) : tLc (iEnumT K ta) g tt te vs σ H Q := by
  subst hg htt
  refine ht _ ⟨a, xs, rfl, hS, fun D hD => ?_⟩
  refine ⟨fun j m H' => m = xs.length - j ∧ j ≤ xs.length ∧ Ex H (wo [D] H') ∧ ∃ ys, H' D = some (.lst ys) ∧ Made j P ys (wo [D] H'), ⟨xs.length, by simp, Nat.zero_le _, ?_, [], upd_same, rfl, fun j hj => absurd hj (Nat.not_lt_zero j)⟩, ?_⟩
  · exact (Ex.new hD).woN fun b hb => by rw [List.mem_singleton.mp hb]; exact hD
  · rintro j m H' ⟨rfl, hj, e, ys, hy, hm⟩
    have hq : SqT K H' a xs := Ex.sqT (Same.trans e wo_ex) hS
    by_cases hlt : j < xs.length
    · refine .inr ⟨⟨xs, xs[j], hq, by simp [hlt]⟩, fun H' => Ex H (wo [D] H') ∧ ∃ ys, H' D = some (.lst ys) ∧ Made (j + 1) P ys (wo [D] H'), fun H2 p' => ⟨xs.length - (j + 1), by omega, rfl, hlt, p'.1, p'.2⟩, fun x H2 y => ?_⟩
      obtain ⟨T, x', rfl, hT, rfl, hx⟩ := y
      have eT : Ex H' (upd H' T (.tup [.int (j : Nat), x'])) := Ex.new hT
      refine ⟨T, _, rfl, SqT.of upd_same, rfl, _, _, rfl, _, _, rfl, rfl, hw _ _, ?_⟩
      simp only [tYes, if_true]
      refine he j x' D _ _ (hx xs hq) hD (by rw [eT _ _ hy]; exact fun z => by cases z) (Same.trans e eT.wo) (fun v H2 e2 hv => ⟨ys, e2 _ _ (eT _ _ hy), ?_, ?_, ys ++ [v], upd_same, ?_⟩)
      · rw [hm.1]
        exact Nat.lt_of_lt_of_le (show j < 100000 by omega) (by decide)
      · rw [wo_upd (List.mem_singleton.mpr rfl)]
        exact Same.trans e (Same.trans eT.wo e2.wo)
      · rw [wo_upd (List.mem_singleton.mpr rfl)]
        exact hm.more (fun j u hu => hP _ _ _ _ (Same.trans eT.wo e2.wo) hu) hv
    · have ej : j = xs.length := by omega
      subst ej
      exact .inl ⟨⟨xs, hq, Nat.le_refl _⟩, k D H' ys hD e hy hm⟩
end My

namespace PySem
namespace OwnF
open PySem.W PySem.Calls PyProof.Rows PySem.HandSPX PySem.OwnE
def iA (p1 p2 : Pos) : Arguments := { posonlyargs := [], args := [{ arg := "self", annotation := none, pos := p1 }, { arg := "frames", annotation := none, pos := p2 }], vararg := none, kwonlyargs := [], kw_defaults := [], kwarg := none, defaults := [] }
def iB (tx : Str) (p0 p1 p2 p3 p7 p8 q1 q2 q3 q4 q5 q6 : Pos) : List Stmt :=
  [.Expr (.Call (.Attribute (.Call (.Name "super" p0) [] [] p1) "__init__" p2) [.Constant (.str tx) 0 p3] [] p7) p8,
   .Assign [.Attribute (.Name "self" q1) "frames" q2] (.Call (.Name "list" q5) [.Name "frames" q3] [] q6) q4]
def iS : Scope := { kind := .function, names := [(PySem.Str.ofString "self", .local), (PySem.Str.ofString "frames", .local), (PySem.Str.ofString "__class__", .free), (PySem.Str.ofString "super", .globalImplicit), (PySem.Str.ofString "list", .globalImplicit)], isGenerator := false, isCoroutine := false, more := [] }
structure OwnTxt (K : Frag) (mg : Str → Option Value) (P : Program) (C : Addr) (nC qI : Str) : Prop where
  gC : mg nC = some (.ref C)
  cls : ∃ nm q N bs bm sn sub ab col dd k0 k1 k2 k3 k5, K.lookup C = some (excClassObj nm q C N bs bm true sn sub ab col dd k0 k1 k2 k3 k5 "ValueError.__new__") ∧ refsVE bm = true
  sa : findIn K (.ref C) "__setattr__" = some (some (.builtin "object.__setattr__"))
  ga : findIn K (.ref C) "__getattribute__" = some (some (.builtin "BaseException.__getattribute__"))
  gg : findIn K (.ref C) "__getattr__" = some none
  noN : findIn K (.ref C) "frames" = some none
  kC : keepIn K (.ref C) = true
  exC : subIn K (.ref C) (.type "BaseException") = some true
  veC : subIn K (.ref C) (.type "ValueError") = some true
  mrC : mroIn K C (.ref C) = some true
  tyC : typeIn K (.ref C) = some (.type "type")
  hdC : hasDictIn K C = true
  sup : ks_superIn K C C "__init__" = some (some (.builtin "ValueError.__init__"))
  noT : nsIn K cStatics "thirdparty.any" = some none
  noL : nsIn K mainGlobals "list" = some none
  noS : nsIn K mainGlobals "super" = some none
  top : (P.main.scope.names.lookup ("super" : Str)).isSome = false
  fn : ∃ (fI cc cda : Addr), findIn K (.ref C) "__init__" = some (some (.ref fI)) ∧ typeIn K (.ref fI) = some (.type "function") ∧
    (∃ (cl : Value) (cld : Option Addr) (csl : Array (Option Value)), K.lookup cc = some ⟨cl, cld, .cell (some (.ref C)), csl⟩) ∧
    (∃ (ccl : Value) (cdd : Option Addr) (ccs : Array (Option Value)) (vs : Array Value) (file : Str) (tf : Tok), K.lookup cda = some ⟨ccl, cdd, .fields vs, ccs⟩ ∧ vs[2]? = some (.str file tf) ∧ ((P.main.file : Str) == file) = true) ∧
    ∃ (oc : Value) (od : Option Addr) (doc pm : Value) (an : Option Addr) (ct : Value) (osl : Array (Option Value)) (tx : Str) (p1 p2 p0 p3 p4 p5 p9 pa q1 q2 q3 q4 q5 q6 : Pos),
    K.lookup fI = some ⟨oc, od, .func (ksFn "__init__" qI (iA p1 p2) (iB tx p0 p3 p4 p5 p9 pa q1 q2 q3 q4 q5 q6) iS .none .none doc pm an (.ref cda) ct cc), osl⟩ ∧ codeIn K (.ref cda) qI = true ∧ tx.length ≤ 1000 ∧ (p4.endLine == p9.line) = true
/-- at l: a list of these items -/
def LstAt (h : Heap) (l : Addr) (items : Array Value) (n : Nat) : Prop := h.get? l = some { cls := .type "list", dict := none, data := .seq items n, slots := #[] }
/-- what __init__ leaves of a fresh exception at x -/
structure InitEnd (h h' : Heap) (x C dx t1 nl : Addr) (items : Array Value) : Prop where
  keep : ∀ b o, b ≠ x → h.get? b = some o → h'.get? b = some o
  obj : h'.get? x = some { cls := .ref C, dict := some dx, data := .fields #[.ref t1, .none, .none, .none, .bool false, .none] }
  dbig : h.objs.size ≤ dx
  dne : dx ≠ x
  nbig : h.objs.size ≤ nl
  nne : nl ≠ x
  ndx : nl ≠ dx
  lst : ∃ n, LstAt h' nl items n
  ns : h'.Ns1 dx (fun y => if y = "frames" then some (.ref nl) else none)
structure OwnMade (h h' : Heap) (e C d nl : Addr) (items : Array Value) : Prop where
  keep : ∀ b o, h.get? b = some o → h'.get? b = some o
  new : h.objs.size ≤ e
  obj : ∃ oe vs, h'.get? e = some oe ∧ oe.cls = .ref C ∧ oe.dict = some d ∧ oe.data = .fields vs ∧ vs[1]? = some .none
  dbig : h.objs.size ≤ d
  dne : d ≠ e
  nbig : h.objs.size ≤ nl
  nne : nl ≠ e
  ndx : nl ≠ d
  lst : ∃ n, LstAt h' nl items n
  ns : h'.Ns1 d (fun y => if y = "frames" then some (.ref nl) else none)
section
variable {prog : Program} {w : World} {A : Around} {E : Value → Shared → Prop} {R : Result → Shared → Prop} {s : Shared} {K : Frag} {mg mb : Str → Option Value} {C : Addr} {nC qI : Str}
theorem own_init (T : OwnTxt K mg prog C nC qI) {fI cc cda : Addr} (hI : findIn K (.ref C) "__init__" = some (some (.ref fI)))
    (hcc : ∃ (cl : Value) (cld : Option Addr) (csl : Array (Option Value)), K.lookup cc = some ⟨cl, cld, .cell (some (.ref C)), csl⟩)
    (hcda : ∃ (ccl : Value) (cdd : Option Addr) (ccs : Array (Option Value)) (vs : Array Value) (file : Str) (tf : Tok), K.lookup cda = some ⟨ccl, cdd, .fields vs, ccs⟩ ∧ vs[2]? = some (.str file tf) ∧ ((prog.main.file : Str) == file) = true)
    (hfn : ∃ (oc : Value) (od : Option Addr) (doc pm : Value) (an : Option Addr) (ct : Value) (osl : Array (Option Value)) (tx : Str) (p1 p2 p0 p3 p4 p5 p9 pa q1 q2 q3 q4 q5 q6 : Pos),
      K.lookup fI = some ⟨oc, od, .func (ksFn "__init__" qI (iA p1 p2) (iB tx p0 p3 p4 p5 p9 pa q1 q2 q3 q4 q5 q6) iS .none .none doc pm an (.ref cda) ct cc), osl⟩ ∧ codeIn K (.ref cda) qI = true ∧ tx.length ≤ 1000 ∧ (p4.endLine == p9.line) = true)
    {x t0 l : Nat} {items : Array Value} {n0 : Nat} (X : K.In s.heap) (hg : s.heap.Ns mainGlobals mg) (hb : s.heap.Ns builtinsNs mb) (hbs : mb "super" = some (.type "super"))
    (hlim : s.heap.NoLimit) (hx : s.heap.get? x = some (excO C t0)) (hnx : K.lookup x = none) (hroom : A.depth < recursionLimit) (hl : LstAt s.heap l items n0) (hz : items.size ≤ sizeLine) (hbl : mb "list" = some (.type "list"))
    (hq : ∀ h' tk dx t1 nl, InitEnd s.heap h' x C dx t1 nl items → R (.ok (.ret .none)) { s with heap := h', toks := tk }) :
    codeAny (model prog w) A (.call (.ref fI) ⟨[.ref x, .ref l], []⟩) R s := by
  obtain ⟨oc, od, doc, pm, an, ct, osl, tx, p1, p2, p0, p3, p4, p5, p9, pa, q1, q2, q3, q4, q5, q6, ho, hcd, htx, hline⟩ := hfn
  obtain ⟨nm, q, N, bs, bm, sn, sub, ab, col, dd, k0, k1, k2, k3, k5, hC, hbm⟩ := T.cls
  obtain ⟨cl, cld, csl, hcell⟩ := hcc
  obtain ⟨ccl, cdd, ccs, vs, file, tf, hcode, hvs, hfile⟩ := hcda
  have hclD : clsIn K C = some { name := nm, bases := bs, mro := .ref C :: bm, ns := N, qualname := q, hasDict := true, slotNames := sn, subclasses := sub, abstract := ab, collection := col, hasDel := false } := by unfold clsIn; rw [hC] <;> rfl
  refine ks_codeAny_call_defAt (fd := ksFn "__init__" qI (iA p1 p2) (iB tx p0 p3 p4 p5 p9 pa q1 q2 q3 q4 q5 q6) iS .none .none doc pm an (.ref cda) ct cc) (binds := [("self", .ref x), ("frames", .ref l)]) hroom (X _ _ ho) rfl hlim (codeRec_of X hcd) rfl
    (BindsTo.of_eq (by first | rfl | with_unfolding_all rfl)) (show ∀ x ∈ iS.names, x.2 ≠ .cell by decide) (fun y hy => by
      rcases List.mem_cons.mp hy with rfl | hy
      · rfl
      · rcases List.mem_cons.mp hy with rfl | hy
        · rfl
        · exact absurd hy (List.not_mem_nil)) (fun h₁ hns hk₁ => ?_)
  have X₁ : K.In h₁ := X.keeps hk₁
  have hx₁ := hk₁ _ _ hx
  show wpAt _ _ _ (execs (iB tx p0 p3 p4 p5 p9 pa q1 q2 q3 q4 q5 q6) (ksEnv qI iS s.heap.objs.size fI (.ref cda) cc)) _ _ _
  refine ks_wpAt_execs_cons (ks_wpAt_Expr_any (mcAt ?_ rfl hline))
  obtain ⟨hh, g, d, t, os⟩ := s
  refine ks_wpAt_super_base (env := ksEnv qI iS hh.objs.size fI (.ref cda) cc) (ar := { arg := "self", annotation := none, pos := p1 }) rfl rfl (by decide) rfl (X₁ _ _ ho) rfl rfl rfl (X₁ _ _ hcode) rfl hvs hfile T.top ?_
  refine ks_loadName_global rfl rfl (loadGlobal_builtin (env := ksEnv qI iS hh.objs.size fI (.ref cda) cc) (mg := mg) (mb := mb) (hg.keeps hk₁) (mg_none_of X hg T.noS) (hb.keeps hk₁) hbs ⟨rfl, ?_⟩)
  refine wpAny_loadName_free rfl rfl rfl ⟨_, X₁ _ _ hcell, rfl⟩ ?_
  refine wpAny_loadName_local rfl rfl hns rfl ?_
  refine ks_wpAny_isType_cls (X₁ _ _ hC) rfl ⟨rfl, ?_⟩
  refine ks_wpAny_call_super (X₁ _ _ hC) rfl hx₁ rfl (fun c e => by cases e) (looks_mroIn X₁ T.mrC) (fun h₂ e2 k2 => ?_)
  have X₂ : K.In h₂ := X₁.keeps k2
  have hx₂ := k2 _ _ hx₁
  have hxC : x ≠ C := by
    rintro rfl
    have z := X₁ _ _ hC
    rw [hx₁] at z
    cases z
  have hsup := T.sup
  unfold ks_superIn at hsup
  rw [hclD] at hsup
  have hI2 : Looks (model prog w) h₂ (isInstance (.ref x) (.type "ValueError")) true :=
    (InstAt.type (M := model prog w) (od := none) ⟨hx₂, rfl, rfl, trivial⟩).andThen (looks_subIn X₂ T.veC)
  refine kxs_getMethod kxs_ValueError e2 (looks_opaque X₂ T.noT) (l₀ := .ref C :: bm) (fun A Q E s k q => wpAny_bind ((looks_clsIn X₂ hclD) A _ E s k (wpAny_pure q))) rfl X₂ hsup hI2 hxC (by decide) ?_
  have k3 : ∀ b o, h₂.get? b = some o → (h₂.push (kxs_mw "ValueError.__init__" x)).get? b = some o := fun b o e => Heap.get?_push_of_some _ e
  have hu : (h₂.push (kxs_mw "ValueError.__init__" x)).get? h₂.objs.size = some (kxs_mw "ValueError.__init__" x) := Heap.get?_push_at rfl rfl
  refine kxs_callWith (i := "ValueError.__init__") (x := x) rfl (evalArgs_plain (spliced_cons ?_))
  have hns3 := (hns.keeps k2).keeps k3
  have hlen0 : (Str.empty ++ tx).length ≤ sizeLine := by
    have e0 : (Str.empty : Str).length = 0 := rfl
    rw [sizeLine_eq, strLen_append, e0]
    omega
  have hx3 := k3 _ _ hx₂
  have hxC3 := k3 _ _ (k2 _ _ (X₁ _ _ hC))
  refine wpAny_Constant_str (k := 0) (pos := p5) ?_
  refine spliced_nil ⟨hu, ?_⟩
  refine call_mw (k3 _ _ (k2 _ _ (X₁ _ _ hC))) (k3 _ _ hx₂) hu (one_size _) (fun h₄ t1 k4 hx₄ => ?_)
  have hxL : hh.objs.size ≠ x := Nat.ne_of_gt (Heap.lt_size hx)
  have hns4 : h₄.Ns hh.objs.size (fun y => ([(PySem.Str.ofString "self", Value.ref x), (PySem.Str.ofString "frames", Value.ref l)] : List (Str × Value)).reverse.lookup y) := hns3.at fun o q => k4 _ _ hxL q
  have X₄ : K.In h₄ := fun b o e => k4 b o (fun z => by rw [z, hnx] at e; cases e) ((X₂.keeps k3) _ _ e)
  show wpAt _ _ _ (execs _ _) _ _ _
  refine wpAt_of_wpAny (wpAny_execs_cons (plainObj_wpAny_Assign_Attribute ?_))
  have hl4 : LstAt h₄ l items n0 := k4 _ _ (fun z => by
      have hl' : hh.get? l = _ := hl
      rw [z] at hl'
      have hx' : hh.get? x = _ := hx
      rw [hx'] at hl'
      cases hl') (k3 _ _ (k2 _ _ (hk₁ _ _ hl)))
  have apart : ∀ (L : Addr) (m : Str → Option Value), hh.Ns L m → L ≠ x := fun L m hL z => by
    obtain ⟨o, es, ep, ho', hd', _⟩ := hL
    have hx' : hh.get? x = _ := hx
    rw [z, hx'] at ho'
    cases ho'
    cases hd'
  have hg4 : h₄.Ns mainGlobals mg := ((hg.keeps hk₁).keeps fun b o q => k3 b o (k2 b o q)).at fun o q => k4 _ _ (apart _ _ hg) q
  have hb4 : h₄.Ns builtinsNs mb := ((hb.keeps hk₁).keeps fun b o q => k3 b o (k2 b o q)).at fun o q => k4 _ _ (apart _ _ hb) q
  refine Call_ (wpAny_Name (ks_loadName_global rfl rfl (loadGlobal_builtin (mg := mg) (mb := mb) hg4 (mg_none_of X hg T.noL) hb4 hbl ?_)) (by decide))
  refine PyProof.Rows.callWith_type1 (spliced_cons (ldN rfl hns4 (v := .ref l) rfl (spliced_nil ?_) rfl rfl (by decide)))
  refine call_list_seq l (.inl rfl) hl4 rfl rfl (fun h5 c' k5 e5 => ?_) hz
  have hns5 := hns4.keeps k5
  have X5 : K.In h5 := X₄.keeps k5
  refine ldN rfl hns5 (v := .ref x) rfl ?_ rfl rfl (by decide)
  have hx5 := k5 _ _ hx₄
  refine set_plain X5 (ox := excO C t1) (od := none) ⟨hx5, rfl, rfl, trivial⟩ T.sa ?_
  refine exc_osa X5 hx5 hclD (show refsVE (.ref C :: bm) = true from hbm) rfl T.noN (fun h6 tk6 dx k6 dn dne hx6 hn6 => ?_)
  show wpAny _ _ (execs _ _) _ _ _
  have z : hh.objs.size < h₄.objs.size := hns4.lt
  have z5 : h₄.objs.size < h5.objs.size := Heap.lt_size e5
  have nx : h₄.objs.size ≠ x := Nat.ne_of_gt (Heap.lt_size hx₄)
  refine wpAny_execs_nil (hq h6 tk6 dx t1 h₄.objs.size ⟨fun b o hb e => k6 b o hb (k5 b o (k4 b o hb (k3 _ _ (k2 _ _ (hk₁ b o e))))), hx6, ?_, dne, Nat.le_of_lt z, nx, ?_, ⟨c', k6 _ _ nx e5⟩, hn6⟩)
  · exact Nat.le_of_lt (Nat.lt_of_lt_of_le (Nat.lt_trans z z5) dn)
  · exact Nat.ne_of_lt (Nat.lt_of_lt_of_le z5 dn)
theorem own_made (T : OwnTxt K mg prog C nC qI) {l : Nat} {items : Array Value} {n0 : Nat} (X : K.In s.heap) (hg : s.heap.Ns mainGlobals mg) (hb : s.heap.Ns builtinsNs mb) (hbs : mb "super" = some (.type "super")) (hlim : s.heap.NoLimit)
    (hroom : A.depth + 1 < recursionLimit) (hl : LstAt s.heap l items n0) (hz : items.size ≤ sizeLine) (hbl : mb "list" = some (.type "list")) (hq : ∀ h' tk e d nl, OwnMade s.heap h' e C d nl items → R (.ok (.ret (.ref e))) { s with heap := h', toks := tk }) :
    codeAny (model prog w) A (.call (.ref C) ⟨[.ref l], []⟩) R s := by
  obtain ⟨fI, cc, cda, hI, htI, hcc, hcda, hfn⟩ := T.fn
  obtain ⟨nm, q, N, bs, bm, sn, sub, ab, col, dd, k0, k1, k2, k3, k5, hC, hbm⟩ := T.cls
  obtain ⟨hp, g, dr, tk, os⟩ := s
  have up : ∀ b o, hp.get? b = some o → ((hp.push (kdv_tup [.ref l])).push (excO C hp.objs.size)).get? b = some o := fun b o e => Heap.get?_push_of_some _ (Heap.get?_push_of_some _ e)
  have hx : ((hp.push (kdv_tup [.ref l])).push (excO C hp.objs.size)).get? (hp.objs.size + 1) = some (excO C hp.objs.size) := by heap_get
  have fresh : K.lookup (hp.objs.size + 1) = none := by
    cases e : K.lookup (hp.objs.size + 1) with
    | none => rfl
    | some o => exact absurd (Nat.lt_of_succ_lt (Heap.lt_size (X _ _ e))) (Nat.lt_irrefl _)
  refine call_own F.excBase_ValueError (fun Y => refsVE_contains Y bm hbm) (X _ _ hC) (looks_findIn X hI) (fun self => bind_fn X self htI) (one_size _) ?_
  refine own_init (s := ⟨(hp.push (kdv_tup [.ref l])).push (excO C hp.objs.size), g, dr, tk, os⟩) T hI hcc hcda hfn (X.keeps up) (hg.keeps up) (hb.keeps up) hbs (hlim.keeps up) hx fresh hroom (up _ _ hl) hz hbl fun h' tk' dx t1 nl M => ?_
  have big : hp.objs.size + 1 + 1 ≤ dx := by
    have z := M.dbig
    rw [Heap.size_push, Heap.size_push] at z
    exact z
  have big2 : hp.objs.size + 1 + 1 ≤ nl := by
    have z := M.nbig
    rw [Heap.size_push, Heap.size_push] at z
    exact z
  exact ⟨rfl, hq h' tk' (hp.objs.size + 1) dx nl ⟨fun b o e => M.keep b o (Nat.ne_of_lt (Nat.lt_succ_of_lt (Heap.lt_size e))) (up b o e), Nat.le_succ _, ⟨_, _, M.obj, rfl, rfl, rfl, rfl⟩, Nat.le_trans (Nat.le_trans (Nat.le_succ _) (Nat.le_succ _)) big, M.dne, Nat.le_trans (Nat.le_trans (Nat.le_succ _) (Nat.le_succ _)) big2, M.nne, M.ndx, M.lst, M.ns⟩⟩
end
end OwnF
end PySem
namespace L2
open PySem PySem.Spec PyProof.Rows PySem.OwnF
theorem relO_fr {v : V} {v' : Value} (r : RelV v v') (f : Str) : RelO (List.lookup f [(("frames" : Str), v)]) (if f = "frames" then some v' else none) := by
  by_cases hw : f = "frames"
  · subst hw
    rw [if_pos rfl]
    have q : List.lookup ("frames" : Str) [(("frames" : Str), v)] = some v := by simp [List.lookup]
    rw [q]
    exact r
  · rw [if_neg hw]
    have q : List.lookup f [(("frames" : Str), v)] = none := by
      have qw : (f == ("frames" : Str)) = false := by simpa using hw
      simp [List.lookup, qw]
    rw [q]
    trivial
section
variable {X : Cx} {C : Addr} {nC qI : Str}
/-- Own(e): the error's dict d is new and holds at = the int -/
def tMkFr (K : PySem.W.Frag) (C : Addr) (ta : TA) : St → Hp → XK → Prop := fun σ H Q => ta σ H fun vs H1 => ∃ (l : Addr) (xs : List V), vs = [.ref l] ∧ H1 l = some (.lst xs) ∧ ∀ d nl, H1 d = none → H1 nl = none → nl ≠ d → Q (.ref C) (some d) (upd (upd H1 nl (.lst xs)) d (.xd [(("frames" : Str), .ref nl)]))
theorem pmk_fr {a : Expr} {ta : TA} {p pos : Pos} {k : Nat} (T : OwnTxt X.K X.mg X.prog C nC qI) (hr : Room k X.A) (ha : PA X [a] ta) (hg : Gl X nC := by rfl) (hd : (nC == ("__debug__" : Str)) = false := by decide)
    (he : starEach (a :: []) X.env = (false, eval a X.env) :: starEach [] X.env := by rfl) (hpl : (backTo pos (starEach [] X.env)).any (·.1) = false := by rfl) :
    PMk X (.Call (.Name nC p) [a] [] pos) (tMkFr X.K C ta) := by
  intro pins s σ H Q I h
  refine wpAny_Call_Name_kw (ld_glob I hg T.gC ?_ hd)
  refine PySem.W.callWith_K (h₀ := X.base) I.ok.mod.kin T.kC (thn (ha.run pos pins s σ H _ I h) fun us s1 hh => ?_) he hpl
  obtain ⟨vs, H1, I1, r1, l, xs, ev, hl, q1⟩ := hh
  subst ev
  refine ⟨I1.kIn, ?_⟩
  cases r1 with
  | cons rv rn =>
    rename_i v' us'
    cases rn
    obtain rfl : v' = Value.ref l := rv
    obtain ⟨hz, its, c', rx, hlo⟩ : ObjOk X.prog X.w H1 s1.heap l (.lst xs) := I1.hok l _ hl
    show wpAny _ _ (call (.ref C) [.ref l]) _ _ _
    have hlim := I1.nolimit
    obtain ⟨mb, hb, hbb⟩ := I1.ok.mod.blt
    obtain ⟨hp, g, dr, tk, os⟩ := s1
    have hlen := rx.length
    refine wpAny_call (own_made T I1.kIn (I1.mod.glob.keeps I1.bk) (hb.keeps I1.bk) ((hbb "super" (by decide)).trans (by first | boot_by_name | rfl | kernel_rfl)) hlim (by have := hr.dp; omega) (show LstAt hp l its.toArray c' from hlo) (by simp only [List.size_toArray]; omega) ((hbb "list" (by decide)).trans (by first | boot_by_name | rfl | kernel_rfl)) fun h' tk' e d nl M => ?_)
    show MkP X pins σ Q (.ref e) ⟨h', g, dr, tk', os⟩
    obtain ⟨oe, fv, hoe, hc, hdd, hdat, h1⟩ := M.obj
    have hns := M.ns
    obtain ⟨n2, hnl⟩ := M.lst
    obtain ⟨G', g1, g2⟩ := restrict h' fun b => decide (b ≠ e)
    have gk : ∀ b, b ≠ e → G'.get? b = h'.get? b := fun b hb => g1 b (decide_eq_true hb)
    have ge : G'.get? e = none := g2 e (by simp)
    obtain ⟨G1, f1, f2⟩ := restrict G' fun b => decide (b ≠ d)
    have fk : ∀ b, b ≠ d → G1.get? b = G'.get? b := fun b hb => f1 b (decide_eq_true hb)
    have fe : G1.get? d = none := f2 d (by simp)
    have old : ∀ b o, hp.get? b = some o → G'.get? b = some o := fun b o q => (gk b (Nat.ne_of_lt (Nat.lt_of_lt_of_le (Heap.lt_size q) M.new))).trans (M.keep b o q)
    have old1 : ∀ b o, hp.get? b = some o → G1.get? b = some o := fun b o q => (fk b (Nat.ne_of_lt (Nat.lt_of_lt_of_le (Heap.lt_size q) M.dbig))).trans (old b o q)
    have up1 : ∀ b o, G1.get? b = some o → G'.get? b = some o := fun b o q => by
      by_cases hb : b = d
      · rw [hb, fe] at q; cases q
      · exact (fk b hb).symm.trans q
    have lst1 : G1.get? nl = some { cls := .type "list", dict := none, data := .seq its.toArray n2, slots := #[] } := (fk nl M.ndx).trans ((gk nl M.nne).trans hnl)
    have ob1 : ObjOk X.prog X.w (upd H1 nl (.lst xs)) G1 nl (.lst xs) := ⟨hz, its, n2, rx, lst1⟩
    have J1 : Inv X pins σ (upd H1 nl (.lst xs)) ⟨G1, g, dr, tk, os⟩ := I1.laid (t' := tk) old1 M.nbig ob1
    have rv : RelV (.ref nl) (.ref nl) := rfl
    have dn : upd H1 nl (.lst xs) d = none := by
      rw [upd_ne (Ne.symm M.ndx)]
      exact I1.hok.fresh M.dbig
    have ob : ObjOk X.prog X.w (upd (upd H1 nl (.lst xs)) d (.xd [(("frames" : Str), .ref nl)])) G' d (.xd [(("frames" : Str), .ref nl)]) :=
      ⟨_, hns.at (fun o q => (gk d M.dne).trans q), fun f => relO_fr rv f⟩
    have J : Inv X pins σ (upd (upd H1 nl (.lst xs)) d (.xd [(("frames" : Str), .ref nl)])) ⟨G', g, dr, tk', os⟩ := J1.laidN (t' := tk') up1 fe dn ob
    refine ⟨e, oe, fv, ⟨G', g, dr, tk', os⟩, _, .ref C, some d, rfl, J, fun b o q => ?_, ge, hoe, ⟨hc, hdd⟩, hdat, h1, ?_, rfl, I1.bare, raises_own T.exC T.tyC, q1 d nl (I1.hok.fresh M.dbig) (I1.hok.fresh M.nbig) M.ndx⟩
    · by_cases hb : b = e
      · have q' : G'.get? b = some o := q
        rw [hb, ge] at q'; cases q'
      · exact (gk b hb).symm.trans q
    · rw [upd_ne (Ne.symm M.dne), upd_ne (Ne.symm M.nne)]
      exact I1.hok.fresh M.new
/-- raise Own(e) -/
def tRaiseFr (K : PySem.W.Frag) (C : Addr) (W : WX) (ta : TA) : TS := fun _ σ H => tMkFr K C ta σ H fun cls d H' => W cls d σ H'
theorem ps_raiseFr {a : Expr} {ta : TA} {W : WX} {p pos pos2 : Pos} {k : Nat} (hc : X.calm = true) (T : OwnTxt X.K X.mg X.prog C nC qI) (hr : Room k X.A) (tk : Takes X W) (ha : PA X [a] ta) (hg : Gl X nC := by rfl) (hd : (nC == ("__debug__" : Str)) = false := by decide)
    (he : starEach (a :: []) X.env = (false, eval a X.env) :: starEach [] X.env := by rfl) (hpl : (backTo pos (starEach [] X.env)).any (·.1) = false := by rfl) :
    PS X (.Raise (some (.Call (.Name nC p) [a] [] pos)) none pos2) (tRaiseFr X.K C W ta) := ps_raise hc tk (pmk_fr T hr ha hg hd he hpl)
/-- e.at, e the exception that the suite holds -/
def tByFr (C : Addr) (a : Addr) (cls : Value) (d : Option Addr) (te : TE) : TE := fun σ H Q => te σ H fun x H1 => x = .ref a ∧ cls = .ref C ∧ ∃ (dd : Addr) (v : V), d = some dd ∧ H1 dd = some (.xd [(("frames" : Str), v)]) ∧ Q v H1
theorem pe_byFr {a : Addr} {oe : Obj} {cls : Value} {d : Option Addr} {pn : List (Addr × Obj)} {e : Expr} {te : TE} {pos : Pos} (T : OwnTxt X.K X.mg X.prog C nC qI) (hz : Zc cls d oe) (hf : ∃ vs, oe.data = .fields vs) (he : PE (X.suite a ((a, oe) :: pn)) e te)
    (hb : attributeBase e "frames" X.env (eval e X.env) = eval e X.env := by rfl) :
    PE (X.suite a ((a, oe) :: pn)) (.Attribute e "frames" pos) (tByFr C a cls d te) := by
  refine ⟨fun pins s σ H Q I h => ?_⟩
  refine attr_of hb (thn (he.run pins s σ H _ I h) fun u s1 hh => ?_)
  obtain ⟨x, H1, I1, rx, ex, ec, dd, v, ed, ea, q⟩ := hh
  subst ex
  obtain rfl : u = Value.ref a := rx
  subst ec
  subst ed
  obtain ⟨ha, _⟩ := I1.pin (a, oe) (List.mem_append_left _ List.mem_cons_self)
  obtain ⟨vs, hd⟩ := hf
  obtain ⟨mA, hns, hr⟩ : ObjOk X.prog X.w H1 s1.heap dd (.xd [(("frames" : Str), v)]) := I1.hok dd _ ea
  obtain ⟨od, ho, hl⟩ := lookIn_ns hns
  have l : List.lookup ("frames" : Str) [(("frames" : Str), v)] = some v := by simp [List.lookup]
  obtain ⟨u, hu, ru⟩ := RelO.some_of (v := v) (o := mA "frames") (by rw [← l]; exact hr "frames")
  have J : PySem.W.InstAt s1.heap a oe C (some od) := ⟨ha, hz.1, by unfold PySem.W.notCls; rw [hd] <;> rfl, by rw [hz.2]; exact ho⟩
  exact HandSPX.exc_get I1.kIn J T.ga T.gg T.exC (PySem.W.findObj_own T.hdC T.noN rfl (by rw [hl, hu])) (handed_of ru) ⟨v, H1, I1.tok _, ru, q⟩
end
end L2
namespace L2
open PySem PySem.Spec PyProof.Rows
abbrev rMax2 : List V → Hp → VK → Prop := fun xs H Q => ∃ i j, xs = [.int i, .int j] ∧ Q (.int (if j > i then j else i)) H
abbrev rMin2 : List V → Hp → VK → Prop := fun xs H Q => ∃ i j, xs = [.int i, .int j] ∧ Q (.int (if j < i then j else i)) H
/-- list(range(a, b, c)) -/
def tListR3 (ta : TA) : TE := fun σ H Q => ta σ H fun vs H1 => ∃ (i j c : Int) (n : Nat), vs = [.int i, .int j, .int c] ∧ RgC i j c n ∧ n ≤ 2 ^ 24 ∧ ∀ l, H1 l = none → Q (.ref l) (upd H1 l (.lst ((List.range n).map fun k => V.int (i + (k : Nat) * c))))
theorem vals_rgC {a c : Int} {n : Nat} {acc : Array Value} (h : ItemsOf (fun i v => ∃ t, v = .int (a + i * c) t) acc n) : Vals ((List.range n).map fun k => V.int (a + (k : Nat) * c)) acc.toList := by
  have e : acc.toList.length = n := by rw [Array.length_toList]; exact h.1
  rw [← e]
  refine vals_of_get acc.toList _ fun j u hj => ?_
  obtain ⟨t, rfl⟩ := h.2 j u (by rw [← hj, Array.getElem?_toList])
  exact ⟨t, rfl⟩
theorem pe_listR3 {X : Cx} {a b c : Expr} {ta : TA} {p p2 pos pos2 : Pos} (hc : X.calm = true) (hg : Gl X "list") (hm : X.mg "list" = none) (hg2 : Gl X "range") (hm2 : X.mg "range" = none) (ha : PA X [a, b, c] ta)
    (na : starEach [Expr.Call (.Name "range" p2) [a, b, c] [] pos2] X.env = (false, eval (Expr.Call (.Name "range" p2) [a, b, c] [] pos2) X.env) :: starEach [] X.env := by rfl)
    (hs : starEach [a, b, c] X.env = (false, eval a X.env) :: starEach [b, c] X.env := by rfl) (hpl : (backTo pos2 (starEach [b, c] X.env)).any (·.1) = false := by rfl) :
    PE X (.Call (.Name "list" p) [.Call (.Name "range" p2) [a, b, c] [] pos2] [] pos) (tListR3 ta) := by
  refine ⟨fun pins s σ H Q I h => ?_⟩
  refine Call_ (ld_blt I hg hm boot_list (PyProof.Rows.callWith_type1 (args_cons (Call_ (ld_blt I hg2 hm2 boot_range (PyProof.Rows.callWith_type1 (thn (ha.run pos2 pins s σ H _ I h) fun us s1 ⟨vs, H1, I1, r1, q1⟩ => ?_) hs hpl))) na) na))
  obtain ⟨i, j, k, n, e, ⟨c0, c1, c2, c3⟩, hn, q⟩ := q1
  subst e
  cases r1 with
  | cons r rr =>
    cases rr with
    | cons r' rr =>
      cases rr with
      | cons r'' rr =>
        cases rr
        obtain ⟨t, rfl⟩ := r
        obtain ⟨t', rfl⟩ := r'
        obtain ⟨t'', rfl⟩ := r''
        refine call_range_3 c0 ?_ (.inl (PyProof.noPylong_small c1))
        refine args_nil ?_
        have I2 : Inv X pins σ H1 { s1 with heap := s1.heap.push { cls := .type "range", data := .fields #[.int i t, .int j t', .int k t''] } } := I1.kept (t' := s1.toks) fun b o e => Heap.get?_push_of_some _ e
        refine call_list_range (n := n) (I1.ok.hd hc) (IsRange.new _ _ _ _ _ _ _) c2 c3 hn fun h' tk acc c' hk e' hi => ?_
        refine ⟨.ref _, upd H1 _ (.lst ((List.range n).map fun m => V.int (i + (m : Nat) * k))), I2.laid hk (Nat.le_refl _) (show ObjOk X.prog X.w _ _ _ (.lst ((List.range n).map fun m => V.int (i + (m : Nat) * k))) from ⟨?_, acc.toList, c', vals_rgC hi, ?_⟩), rfl, q _ (I2.hok.fresh (Nat.le_refl _))⟩
        · rw [List.length_map, List.length_range, sizeLine_eq]; omega
        · rw [Array.toArray_toList]; exact e'
end L2
namespace My
open PySem PySem.Spec PyProof.Rows L2
theorem filt_one {α : Type} {f : α → Bool} {xs : List α} {j : Nat} {x : α} (hx : xs[j]? = some x) : (xs.take (j + 1)).filter f = (xs.take j).filter f ++ (if f x = true then [x] else []) := by
  have e : xs.take (j + 1) = xs.take j ++ [x] := by rw [List.take_succ, hx]; rfl
  rw [e, List.filter_append]
  by_cases c : f x = true
  · rw [if_pos c, List.filter_cons_of_pos c]
    rfl
  · rw [if_neg c, List.filter_cons_of_neg c]
    rfl
/-- [x for x in l if f(x)] -/
theorem lcLF {K : PySem.W.Frag} {tl : TE} {g : TG} {tt : TT} {te : TE} {vs : List Nat} {σ : L2.St} {H0 H : Hp} {Q : VK} {a : Addr} {xs : List V} (i : Nat) (f : V → Bool) (ht : ∀ R : VK, R (.ref a) H → tl σ H0 R) (hS : SqL K H a xs) (hn : xs.length ≤ 1000)
    (hw : ∀ x, wipe ((wipe σ vs).set i (some x)) vs = wipe σ vs)
    (htt : ∀ x H1 (R : Bool → Hp → Prop), x ∈ xs → Ex H H1 → (∀ H2, Ex H1 H2 → R (f x) H2) → tt ((wipe σ vs).set i (some x)) H1 R)
    (hte : ∀ x H1 (R : VK), R x H1 → te ((wipe σ vs).set i (some x)) H1 R)
    (k : ∀ D H', H D = none → Ex H H' → H' D = some (.lst (xs.filter f)) → Q (.ref D) H')
    (hg : g = gName i := by rfl) : tLc (iList K tl) g tt te vs σ H0 Q := by
  subst hg
  refine ht _ ⟨a, rfl, ⟨xs, hS⟩, fun D hD => ?_⟩
  refine lc_list (xs := xs) (fun j H' => j ≤ xs.length ∧ Ex H H' ∧ H' D = some (.lst ((xs.take j).filter f))) ⟨Nat.zero_le _, Ex.new hD, ?_⟩ (fun j H' _ q => Ex.sqL q.2.1 hS) (fun j x H' hx q => ?_) (fun H' q => ?_)
  · rw [upd_same, List.take_zero]
    rfl
  · obtain ⟨hj, e, h2⟩ := q
    have hjl : j < xs.length := (List.getElem?_eq_some_iff.mp hx).1
    refine ⟨hw _, ?_⟩
    refine htt x H' _ (List.mem_of_getElem? hx) e fun H2 e2 => ?_
    have nx := filt_one (f := f) hx
    by_cases c : f x = true
    · rw [if_pos c] at nx ⊢
      refine hte x H2 _ ⟨_, e2 _ _ h2, ?_, hjl, Ex.mut (Same.trans e e2) hD, ?_⟩
      · have := List.length_filter_le f (xs.take j)
        rw [List.length_take] at this
        exact Nat.lt_of_le_of_lt (show _ ≤ 1000 by omega) (by decide)
      · rw [upd_same, nx]
    · rw [if_neg c] at nx ⊢
      refine ⟨hjl, Same.trans e e2, ?_⟩
      rw [nx, List.append_nil]
      exact e2 _ _ h2
  · obtain ⟨_, e, h2⟩ := q
    rw [List.take_length] at h2
    exact k D H' hD e h2
/-- [x for x in range(n) if f(x)] -/
theorem lcRF {ta : TA} {g : TG} {tt : TT} {te : TE} {vs : List Nat} {σ : L2.St} {H : Hp} {Q : VK} {n : Nat} (i : Nat) (f : Nat → Bool) (ht : ∀ R : List V → Hp → Prop, R [.int (n : Int)] H → ta σ H R) (hn : n ≤ 1000)
    (hw : ∀ x, wipe ((wipe σ vs).set i (some x)) vs = wipe σ vs)
    (htt : ∀ (j : Nat) H1 (R : Bool → Hp → Prop), j < n → Ex H H1 → (∀ H2, Ex H1 H2 → R (f j) H2) → tt ((wipe σ vs).set i (some (.int (j : Nat)))) H1 R)
    (hte : ∀ x H1 (R : VK), R x H1 → te ((wipe σ vs).set i (some x)) H1 R)
    (k : ∀ D H', H D = none → Ex H H' → H' D = some (.lst (((List.range n).filter f).map fun j => V.int (j : Nat))) → Q (.ref D) H')
    (hg : g = gName i := by rfl) : tLc (iRng1 ta) g tt te vs σ H Q := by
  subst hg
  refine ht _ ⟨n, rfl, by omega, by omega, fun D hD => ?_⟩
  refine lc_range (lo := 0) (n := (n : Int).toNat) (fun j H' => j ≤ n ∧ Ex H H' ∧ H' D = some (.lst ((((List.range n).take j).filter f).map fun j => V.int (j : Nat)))) ⟨Nat.zero_le _, Ex.new hD, ?_⟩ (fun j H' hj q => ?_) (fun H' q => ?_)
  · rw [upd_same, List.take_zero]
    rfl
  · obtain ⟨_, e, h2⟩ := q
    have hjl : j < n := by omega
    have e0 : (0 : Int) + (j : Nat) = (j : Nat) := Int.zero_add _
    rw [e0]
    refine ⟨hw _, ?_⟩
    refine htt j H' _ hjl e fun H2 e2 => ?_
    have nx := filt_one (f := f) (List.getElem?_range hjl)
    by_cases c : f j = true
    · rw [if_pos c] at nx ⊢
      refine hte _ H2 _ ⟨_, e2 _ _ h2, ?_, hjl, Ex.mut (Same.trans e e2) hD, ?_⟩
      · have := List.length_filter_le f ((List.range n).take j)
        rw [List.length_take, List.length_range] at this
        rw [List.length_map]
        exact Nat.lt_of_le_of_lt (show _ ≤ 1000 by omega) (by decide)
      · rw [upd_same, nx, List.map_append]
        rfl
    · rw [if_neg c] at nx ⊢
      refine ⟨hjl, Same.trans e e2, ?_⟩
      rw [nx, List.append_nil]
      exact e2 _ _ h2
  · obtain ⟨_, e, h2⟩ := q
    rw [List.take_of_length_le (by simp)] at h2
    exact k D H' hD e h2
end My
namespace L2
open PySem PySem.Spec PyProof.Rows
section
variable {prog : Program} {w : World} {A : Around} {E : Value → Shared → Prop} {s : Shared}
theorem iter_tupT {l : Addr} {items : Array Value} {Q : Value → Shared → Prop} (hl : s.heap.IsTuple l items)
    (h : ∀ s₂, s₂ = { s with heap := s.heap.push { cls := .type "tuple_iterator", data := .fields #[.ref l, .int 0 0] } } → (s₂.heap.IsTupleIter s.heap.objs.size l 0 ∧ s₂.heap.IsTuple l items) → (∀ b ∈ [s.heap.objs.size, l], b < s₂.heap.objs.size) → l ≠ s.heap.objs.size → Q (.ref s.heap.objs.size) s₂) :
    wpAny (model prog w) A (pyIter (.ref l)) Q E s := by
  have hlt : l < s.heap.objs.size := by obtain ⟨o, e, _⟩ := id hl; exact Heap.lt_size e
  refine wpAny_pyIter_tuple hl (h _ rfl ⟨⟨_, Heap.get?_push_size _ rfl, rfl, rfl⟩, hl.push _⟩ (fun b hb => ?_) (Nat.ne_of_lt hlt))
  rw [show ({ s with heap := s.heap.push { cls := .type "tuple_iterator", data := .fields #[.ref l, .int 0 0] } } : Shared).heap.objs.size = s.heap.objs.size + 1 from Heap.size_push ..]
  rcases List.mem_cons.mp hb with rfl | hb
  · exact Nat.lt_succ_self _
  · rw [List.mem_singleton.mp hb]
    exact Nat.lt_succ_of_lt hlt
theorem maxT_raw {l : Addr} {its : List Value} {ns : List Int} {Q : Value → Shared → Prop} (hh : A.handled = none) (hl : s.heap.IsTuple l its.toArray) (hi : IntsAre its ns) (hne : 0 < ns.length)
    (h : ∀ h' tk M t', (∀ b o, s.heap.get? b = some o → h'.get? b = some o) → M ∈ ns → (∀ a, a ∈ ns → a ≤ M) → Q (.int M t') { s with heap := h', toks := tk }) : wpAny (model prog w) A (call (.builtin "max") [.ref l]) Q E s := by
  obtain ⟨xs, e⟩ := hi.allInts.items
  have hn : numsOf (intItems xs).toList = ns := by rw [← e]; exact hi.numsOf
  rw [nums_intItems] at hn
  subst hn
  rw [e] at hl
  have hsz : 0 < xs.size := by simpa using hne
  refine call_max_walk (iter_tupT hl fun s₂ e st hfp hlI => ?_)
  subst e
  refine ⟨_, _, _, _, _, _, _, rfl, Walks.tuple (A := A.in1) hh _ l hlI (intItems xs), st, hfp, by simpa [intItems] using hsz, CmpOf.ints_gt (numAt xs) (fun _ _ => intItems_at), fun v h' tk hv hk => ?_⟩
  have hv : (intItems xs)[argBest (fun i j => decide (numAt xs i > numAt xs j)) (xs.size - 1)]? = some v := by simpa [intItems] using hv
  obtain ⟨t, rfl⟩ := intItems_at hv
  obtain ⟨h1, h2⟩ := argBest_gt (numAt xs) (xs.size - 1)
  refine h h' tk _ t (fun b o q => hk b o (fun z => ?_) (Heap.get?_push_of_some _ q)) ?_ fun a ha => ?_
  · rw [List.mem_singleton.mp z] at q
    exact Nat.lt_irrefl _ (Heap.lt_size q)
  · rw [numAt_eq]; exact PySem.getD_mem (by rw [List.length_map, Array.length_toList]; omega)
  · obtain ⟨j, hj, rfl⟩ := mem_getD ha
    rw [List.length_map, Array.length_toList] at hj
    rw [← numAt_eq]; exact h2 j (by omega)
theorem minT_raw {l : Addr} {its : List Value} {ns : List Int} {Q : Value → Shared → Prop} (hh : A.handled = none) (hl : s.heap.IsTuple l its.toArray) (hi : IntsAre its ns) (hne : 0 < ns.length)
    (h : ∀ h' tk M t', (∀ b o, s.heap.get? b = some o → h'.get? b = some o) → M ∈ ns → (∀ a, a ∈ ns → M ≤ a) → Q (.int M t') { s with heap := h', toks := tk }) : wpAny (model prog w) A (call (.builtin "min") [.ref l]) Q E s := by
  obtain ⟨xs, e⟩ := hi.allInts.items
  have hn : numsOf (intItems xs).toList = ns := by rw [← e]; exact hi.numsOf
  rw [nums_intItems] at hn
  subst hn
  rw [e] at hl
  have hsz : 0 < xs.size := by simpa using hne
  refine call_min_walk (iter_tupT hl fun s₂ e st hfp hlI => ?_)
  subst e
  refine ⟨_, _, _, _, _, _, _, rfl, Walks.tuple (A := A.in1) hh _ l hlI (intItems xs), st, hfp, by simpa [intItems] using hsz, CmpOf.ints_lt (numAt xs) (fun _ _ => intItems_at), fun v h' tk hv hk => ?_⟩
  have hv : (intItems xs)[argBest (fun i j => decide (numAt xs i < numAt xs j)) (xs.size - 1)]? = some v := by simpa [intItems] using hv
  obtain ⟨t, rfl⟩ := intItems_at hv
  obtain ⟨h1, h2⟩ := argBest_lt (numAt xs) (xs.size - 1)
  refine h h' tk _ t (fun b o q => hk b o (fun z => ?_) (Heap.get?_push_of_some _ q)) ?_ fun a ha => ?_
  · rw [List.mem_singleton.mp z] at q
    exact Nat.lt_irrefl _ (Heap.lt_size q)
  · rw [numAt_eq]; exact PySem.getD_mem (by rw [List.length_map, Array.length_toList]; omega)
  · obtain ⟨j, hj, rfl⟩ := mem_getD ha
    rw [List.length_map, Array.length_toList] at hj
    rw [← numAt_eq]; exact h2 j (by omega)
end
section
variable {X : Cx}
def rMaxT (K : PySem.W.Frag) : List V → Hp → VK → Prop := fun vs H Q => ∃ (a : Addr) (ns : List Int), vs = [V.ref a] ∧ SqT K H a (ns.map V.int) ∧ 0 < ns.length ∧ ∀ m, m ∈ ns → (∀ y, y ∈ ns → y ≤ m) → Q (.int m) H
def rMinT (K : PySem.W.Frag) : List V → Hp → VK → Prop := fun vs H Q => ∃ (a : Addr) (ns : List Int), vs = [V.ref a] ∧ SqT K H a (ns.map V.int) ∧ 0 < ns.length ∧ ∀ m, m ∈ ns → (∀ y, y ∈ ns → m ≤ y) → Q (.int m) H
theorem cr_maxT (hc : X.calm = true) : CallR X (.builtin "max") (rMaxT X.K) := by
  intro pins s σ H vs us Q I r h
  obtain ⟨a, ns, rfl, hs, hne, q⟩ := h
  obtain ⟨its, rv, hl, _⟩ := I.tuple hs
  rw [Vals.ref1 r]
  exact maxT_raw (I.ok.hd hc) hl rv.ints hne fun h' tk m t' hk h1 h2 => ⟨.int _, H, I.kept hk, ⟨_, rfl⟩, q m h1 h2⟩
theorem cr_minT (hc : X.calm = true) : CallR X (.builtin "min") (rMinT X.K) := by
  intro pins s σ H vs us Q I r h
  obtain ⟨a, ns, rfl, hs, hne, q⟩ := h
  obtain ⟨its, rv, hl, _⟩ := I.tuple hs
  rw [Vals.ref1 r]
  exact minT_raw (I.ok.hd hc) hl rv.ints hne fun h' tk m t' hk h1 h2 => ⟨.int _, H, I.kept hk, ⟨_, rfl⟩, q m h1 h2⟩
end
end L2

namespace My
open PySem PySem.Spec PyProof.Rows L2
/-! ### in and not in a written dict, keys texts -/
structure KSet (K : PySem.W.Frag) (w : World) (d : Addr) (ks : List Str) : Prop where
  has : ∃ es n, K.lookup d = some ⟨.type "dict", none, .dict es n, #[]⟩ ∧ PySem.W.KeysLit w.params es.toList ∧ (d == sysModules) = false ∧ KeyOrd es.toList ks
theorem find_ord {x : Str} : ∀ {es : List DictEntry} {ks : List Str}, KeyOrd es ks → ((es.find? fun e => Value.isStrOf x e.key).map (·.val)).isSome = decide (x ∈ ks)
  | [], [], _ => by simp
  | e :: r, y :: ys, h => by
    obtain ⟨⟨t, h1⟩, h2⟩ := h
    have ih := find_ord (x := x) h2
    rw [List.find?_cons]
    have hk : Value.isStrOf x e.key = (y == x) := by rw [h1]; rfl
    rw [hk]
    by_cases c : y = x
    · subst c
      simp
    · have : (y == x) = false := by simpa using c
      rw [this]
      have c' : x ≠ y := fun z => c z.symm
      simp only [List.mem_cons, c', false_or]
      exact ih
  | [], _ :: _, h => h.elim
  | _ :: _, [], h => h.elim
def rInKD (K : PySem.W.Frag) (w : World) : R2 := fun x y H Q => ∃ p z ks, x = .str z ∧ y = .ref p ∧ KSet K w p ks ∧ Q (.bl (decide (z ∈ ks))) H
def rNotInKD (K : PySem.W.Frag) (w : World) : R2 := fun x y H Q => ∃ p z ks, x = .str z ∧ y = .ref p ∧ KSet K w p ks ∧ Q (.bl (!decide (z ∈ ks))) H
theorem op_inKD {X : Cx} : OpR X (compareOp .In) (rInKD X.K X.w) := by
  intro pins s σ H x y v u Q I rx ry h
  obtain ⟨p, z, ks, rfl, rfl, ⟨es, n, hl, hk, hs, ho⟩, q⟩ := h
  obtain rfl : u = Value.ref p := ry
  obtain ⟨t, rfl⟩ := rx
  have hm := PySem.W.mapOf_K (prog := X.prog) (w := X.w) I.kIn hl hk
  refine wpAny_in_of (strKind_is X.prog X.w z t) hs hm ?_
  have e : (findBy Value.isStrOf es z).isSome = decide (z ∈ ks) := by
    have := find_ord (x := z) ho
    unfold findBy
    obtain ⟨l⟩ := es
    rw [List.find?_toArray]
    exact this
  rw [e]
  exact ⟨.bl _, H, I.tok _, rfl, q⟩
theorem op_notInKD {X : Cx} : OpR X (compareOp .NotIn) (rNotInKD X.K X.w) := by
  intro pins s σ H x y v u Q I rx ry h
  obtain ⟨p, z, ks, rfl, rfl, ⟨es, n, hl, hk, hs, ho⟩, q⟩ := h
  obtain rfl : u = Value.ref p := ry
  obtain ⟨t, rfl⟩ := rx
  have hm := PySem.W.mapOf_K (prog := X.prog) (w := X.w) I.kIn hl hk
  refine wpAny_notIn_of (strKind_is X.prog X.w z t) hs hm ?_
  have e : (findBy Value.isStrOf es z).isSome = decide (z ∈ ks) := by
    have := find_ord (x := z) ho
    unfold findBy
    obtain ⟨l⟩ := es
    rw [List.find?_toArray]
    exact this
  rw [e]
  exact ⟨.bl _, H, I.tok _, rfl, q⟩
theorem KSet.kkeys {K : PySem.W.Frag} {w : World} {d : Addr} {ks : List Str} (h : KSet K w d ks) : KKeys K d ks := by
  obtain ⟨es, n, h1, _, h2, h3⟩ := h.has
  exact ⟨es, n, h1, h2, h3⟩
end My

namespace PySem
namespace ZipG
open Sem (wp)
open RZ
section
variable {prog : Program} {w : World} {A : Around} {E : Value → Shared → Prop} {s : Shared}
abbrev ZObj (h : Heap) (z TI TO : Addr) (f0 f1 : Value) : Prop :=
  h.get? z = some { cls := .type "zip", dict := none, data := .fields #[f0, f1, .bool false, .ref TI, .ref TO], slots := #[] }
def ZSt (h : Heap) (z TI TO : Addr) : Prop := ∃ f0 f1, ZObj h z TI TO f0 f1 ∧ (f0 = .none ∨ ∃ a : Nat, f0 = rawInt a)
theorem wpAny_lia {M : Model} {a : Addr} {Q : Option Obj → Shared → Prop} (h : Q (s.heap.get? a) s) : wpAny M A (loadIfAlive a) Q E s := fun _ _ _ => h
theorem isFree {z TI TO : Addr} {f0 f1 : Value} {Q : Bool → Shared → Prop} (hz : ZObj s.heap z TI TO f0 f1) (hf : f0 = .none ∨ ∃ a : Nat, f0 = rawInt a) (ht : Q true s)
    (hn : ∀ h' f1', ZObj h' z TI TO f0 f1' → Heap.SameBut z s.heap h' → Q false { s with heap := h' }) : wpAny (model prog w) A (Builtin.SmallTypes.ownedTupleIsFree (.ref z)) Q E s := by
  unfold Builtin.SmallTypes.ownedTupleIsFree
  rcases hf with rfl | ⟨a, rfl⟩
  · exact wpAny_bind (wpAny_field hz rfl (x := .none) rfl (wpAny_pure ht))
  · refine wpAny_bind (wpAny_field hz rfl (x := rawInt a) rfl ?_)
    refine wpAny_bind (wpAny_lia ?_)
    cases e : s.heap.get? (a : Int).toNat with
    | none => exact wpAny_pure ht
    | some o =>
      simp only [Option.isNone_some, Bool.false_eq_true, if_false]
      refine wpAny_bind (wpAny_field hz rfl (x := f1) rfl ?_)
      by_cases c : (f1 != .bool true) = true
      · rw [if_pos c]
        refine wpAny_bind (wpAny_setField_rec hz (by simp) fun h' hz' hs => wpAny_pure (hn h' _ hz' hs))
      · rw [if_neg c]
        exact wpAny_bind (wpAny_pure (wpAny_pure (hn s.heap f1 hz ⟨rfl, fun _ _ => rfl⟩)))
theorem zip_item {z TI TO i1 i2 l1 l2 : Addr} {k1 k2 : Nat} {xs ys : Array Value} {x y a b : Value} {Q : Value → Shared → Prop} (D : ZipApart z TI TO i1 i2 l1 l2)
    (hz0 : ZSt s.heap z TI TO) (hTI : IsPair s.heap TI (.ref i1) (.ref i2)) (hTO : IsPair s.heap TO a b)
    (h1 : s.heap.IsTupleIter i1 l1 k1) (h2 : s.heap.IsTupleIter i2 l2 k2) (hl1 : s.heap.IsTuple l1 xs) (hl2 : s.heap.IsTuple l2 ys) (hx : xs[k1]? = some x) (hy : ys[k2]? = some y)
    (hQ : ∀ h' a b, ZSt h' z TI TO → IsPair h' TO a b → h'.IsTupleIter i1 l1 (k1 + 1) → h'.IsTupleIter i2 l2 (k2 + 1) → IsPair h' s.heap.objs.size x y → h'.objs.size = s.heap.objs.size + 1 →
      (∀ c o, c ≠ z → c ≠ TO → c ≠ i1 → c ≠ i2 → s.heap.get? c = some o → h'.get? c = some o) → Q (.ref s.heap.objs.size) { s with heap := h' }) :
    wpAny (model prog w) A (Builtin.«zip.__next__» ⟨[.ref z], []⟩) (fun fin s' => ∃ v, fin = .done (.ret v) ∧ Q v s') E s := by
  obtain ⟨f0, f1, hz, hf⟩ := hz0
  show wpAny _ _ (field (.ref z) 2 >>= _) _ _ _
  refine wpAny_bind (wpAny_field hz rfl (x := .bool false) rfl ?_)
  show wpAny _ _ (field (.ref z) 3 >>= _) _ _ _
  refine wpAny_bind (wpAny_field hz rfl (x := .ref TI) rfl ?_)
  refine wpAny_bind (wpAny_seqItems hTI rfl ?_)
  show wpAny _ _ (Builtin.SmallTypes.ownedTupleIsFree (.ref z) >>= _) _ _ _
  refine wpAny_bind (isFree hz hf ?_ fun h0 f1' hz0 hs0 => ?_)
  · simp only [if_true]
    refine wpAny_bind (wpAny_rule ?_)
    refine wpAny_bind (wpAny_field hz rfl (x := .ref TO) rfl ?_)
    refine wpAny_bind (wpAny_setField_rec hz (by simp) fun h₁ hz₁ hs₁ => ?_)
    replace hz₁ : ZObj h₁ z TI TO .ellipsis f1 := hz₁
    refine wpAny_bind ?_
    simp only [List.zipIdx_cons, List.zipIdx_nil, List.forIn_cons, List.forIn_nil]
    refine wpAny_bind (wpAny_bind (wpAny_onRaise ?_))
    show wpAny _ _ (Builtin.SmallTypes.nextOf (.ref i1) >>= _) _ _ _
    refine wpAny_bind (nextOf_tuple_item (h1.extBut hs₁.extBut D.i1z) (hl1.extBut hs₁.extBut D.l1z) hx fun h₂ h1₂ hs₂ => wpAny_pure ?_)
    have hTO₂ : IsPair h₂ TO a b := hs₂.extBut _ _ D.TOi1 (hs₁.extBut _ _ D.TOz hTO)
    refine wpAny_bind (wpAny_seqItems hTO₂ rfl ?_)
    refine wpAny_bind (wpAny_updateSeq_pair hTO₂ fun h₃ hTO₃ hs₃ => ?_)
    replace hTO₃ : IsPair h₃ TO x b := hTO₃
    refine wpAny_bind (wpAny_letGo (wpAny_pure ?_))
    refine wpAny_bind (wpAny_bind (wpAny_onRaise ?_))
    show wpAny _ _ (Builtin.SmallTypes.nextOf (.ref i2) >>= _) _ _ _
    refine wpAny_bind (nextOf_tuple_item (((h2.extBut hs₁.extBut D.i2z).extBut hs₂.extBut D.i12.symm).extBut hs₃.extBut D.TOi2.symm)
      (((hl2.extBut hs₁.extBut D.l2z).extBut hs₂.extBut D.l2i1).extBut hs₃.extBut D.l2TO) hy fun h₄ h2₄ hs₄ => wpAny_pure ?_)
    have hTO₄ : IsPair h₄ TO x b := hs₄.extBut _ _ D.TOi2 hTO₃
    refine wpAny_bind (wpAny_seqItems hTO₄ rfl ?_)
    refine wpAny_bind (wpAny_updateSeq_pair hTO₄ fun h₅ hTO₅ hs₅ => ?_)
    replace hTO₅ : IsPair h₅ TO x y := hTO₅
    refine wpAny_bind (wpAny_letGo (wpAny_pure (wpAny_pure ?_)))
    refine wpAny_bind (wpAny_seqItems hTO₅ rfl ?_)
    refine wpAny_bind (wpAny_newTuple ?_)
    have hsz : h₅.objs.size = s.heap.objs.size := by rw [hs₅.1, hs₄.1, hs₃.1, hs₂.1, hs₁.1]
    have hz₅ : ZObj h₅ z TI TO .ellipsis f1 := hs₅.extBut _ _ D.TOz.symm (hs₄.extBut _ _ D.i2z.symm (hs₃.extBut _ _ D.TOz.symm (hs₂.extBut _ _ D.i1z.symm hz₁)))
    have hk₅ : ∀ c o, c ≠ z → c ≠ TO → c ≠ i1 → c ≠ i2 → s.heap.get? c = some o → h₅.get? c = some o := fun c o c1 c2 c3 c4 e =>
      hs₅.extBut _ _ c2 (hs₄.extBut _ _ c4 (hs₃.extBut _ _ c2 (hs₂.extBut _ _ c3 (hs₁.extBut _ _ c1 e))))
    have h1₅ : h₅.IsTupleIter i1 l1 (k1 + 1) := ((h1₂.extBut hs₃.extBut D.TOi1.symm).extBut hs₄.extBut D.i12).extBut hs₅.extBut D.TOi1.symm
    have h2₅ : h₅.IsTupleIter i2 l2 (k2 + 1) := h2₄.extBut hs₅.extBut D.TOi2.symm
    have hzlt : z < h₅.objs.size := Heap.lt_size hz₅
    show wpAny _ _ (Builtin.SmallTypes.ownedTupleHandOut (.ref z) (.ref h₅.objs.size) >>= _) _ _ _
    refine wpAny_bind ?_
    unfold Builtin.SmallTypes.ownedTupleHandOut
    have hz₆ : ZObj (h₅.push { cls := .type "tuple", data := .seq #[x, y] }) z TI TO .ellipsis f1 := Heap.get?_push_of_some _ hz₅
    refine wpAny_bind (wpAny_setField_rec hz₆ (by simp) fun h₇ hz₇ hs₇ => ?_)
    refine wpAny_setField_rec hz₇ (by simp) fun h₈ hz₈ hs₈ => ?_
    replace hz₈ : ZObj h₈ z TI TO (rawInt h₅.objs.size) (.bool false) := hz₈
    have up : ∀ c o, c ≠ z → h₅.get? c = some o → h₈.get? c = some o := fun c o c1 e => hs₈.extBut _ _ c1 (hs₇.extBut _ _ c1 (Heap.get?_push_of_some _ e))
    have hT₈ : IsPair h₈ h₅.objs.size x y := hs₈.extBut _ _ (Nat.ne_of_gt hzlt) (hs₇.extBut _ _ (Nat.ne_of_gt hzlt) (Heap.get?_push_size _ rfl))
    have hz8 : h₈.objs.size = h₅.objs.size + 1 := by rw [hs₈.1, hs₇.1, Heap.size_push]
    rw [hsz] at hz₈ hT₈ hz8
    refine wpAny_pure ⟨_, rfl, ?_⟩
    show Q (.ref h₅.objs.size) _
    rw [hsz]
    exact hQ h₈ x y ⟨_, _, hz₈, .inr ⟨_, rfl⟩⟩ (up _ _ D.TOz hTO₅) (h1₅.at fun o e => up _ o D.i1z e) (h2₅.at fun o e => up _ o D.i2z e) hT₈ hz8 fun c o c1 c2 c3 c4 e => up c o c1 (hk₅ c o c1 c2 c3 c4 e)
  · simp only [Bool.false_eq_true, if_false]
    refine wpAny_bind ?_
    rw [List.forIn_toArray]
    simp only [List.forIn_cons, List.forIn_nil]
    have k0 : ∀ c o, c ≠ z → s.heap.get? c = some o → h0.get? c = some o := fun c o c1 e => hs0.extBut _ _ c1 e
    refine wpAny_bind (wpAny_bind (wpAny_holding ?_))
    show wpAny _ _ (Builtin.SmallTypes.nextOf (.ref i1) >>= _) _ _ _
    refine wpAny_bind (nextOf_tuple_item (h1.extBut hs0.extBut D.i1z) (hl1.extBut hs0.extBut D.l1z) hx fun h₂ h1₂ hs₂ => wpAny_pure (wpAny_pure ?_))
    refine wpAny_bind (wpAny_bind (wpAny_holding ?_))
    show wpAny _ _ (Builtin.SmallTypes.nextOf (.ref i2) >>= _) _ _ _
    refine wpAny_bind (nextOf_tuple_item ((h2.extBut hs0.extBut D.i2z).extBut hs₂.extBut D.i12.symm) ((hl2.extBut hs0.extBut D.l2z).extBut hs₂.extBut D.l2i1) hy fun h₄ h2₄ hs₄ => wpAny_pure (wpAny_pure (wpAny_pure ?_)))
    show wpAny _ _ (newTuple [x, y] >>= _) _ _ _
    refine wpAny_bind (wpAny_newTuple ?_)
    have hsz : h₄.objs.size = s.heap.objs.size := by rw [hs₄.1, hs₂.1, hs0.1]
    have up : ∀ c o, c ≠ z → c ≠ i1 → c ≠ i2 → s.heap.get? c = some o → (h₄.push { cls := .type "tuple", data := .seq #[x, y] }).get? c = some o := fun c o c1 c3 c4 e =>
      Heap.get?_push_of_some _ (hs₄.extBut _ _ c4 (hs₂.extBut _ _ c3 (k0 c o c1 e)))
    have hz4 : ZObj (h₄.push { cls := .type "tuple", data := .seq #[x, y] }) z TI TO f0 f1' := Heap.get?_push_of_some _ (hs₄.extBut _ _ D.i2z.symm (hs₂.extBut _ _ D.i1z.symm hz0))
    have hT4 : IsPair (h₄.push { cls := .type "tuple", data := .seq #[x, y] }) h₄.objs.size x y := Heap.get?_push_size _ rfl
    have hz8 : (h₄.push { cls := .type "tuple", data := .seq #[x, y] }).objs.size = h₄.objs.size + 1 := Heap.size_push ..
    have h1₄ : (h₄.push { cls := .type "tuple", data := .seq #[x, y] }).IsTupleIter i1 l1 (k1 + 1) := (h1₂.extBut hs₄.extBut D.i12).at fun o e => Heap.get?_push_of_some _ e
    have h2₅ : (h₄.push { cls := .type "tuple", data := .seq #[x, y] }).IsTupleIter i2 l2 (k2 + 1) := h2₄.at fun o e => Heap.get?_push_of_some _ e
    rw [hsz] at hT4 hz8
    refine wpAny_pure ⟨_, rfl, ?_⟩
    show Q (.ref h₄.objs.size) _
    rw [hsz]
    exact hQ _ a b ⟨_, _, hz4, hf⟩ (up _ _ D.TOz D.TOi1 D.TOi2 hTO) h1₄ h2₅ hT4 hz8 fun c o c1 c2 c3 c4 e => up c o c1 c3 c4 e
theorem zip_end {z TI TO i1 i2 l1 l2 : Addr} {k1 k2 : Nat} {xs ys : Array Value} {a b : Value} {Q : Fin → Shared → Prop} (hh : A.handled = none) (D : ZipApart z TI TO i1 i2 l1 l2)
    (hz0 : ZSt s.heap z TI TO) (hTI : IsPair s.heap TI (.ref i1) (.ref i2)) (hTO : IsPair s.heap TO a b)
    (h1 : s.heap.IsTupleIter i1 l1 k1) (h2 : s.heap.IsTupleIter i2 l2 k2) (hl1 : s.heap.IsTuple l1 xs) (hl2 : s.heap.IsTuple l2 ys) (hend : xs[k1]? = none ∨ ys[k2]? = none)
    (hE : ∀ h' e, (∀ c o, c ≠ z → c ≠ TO → c ≠ i1 → c ≠ i2 → s.heap.get? c = some o → h'.get? c = some o) → (∃ o, h'.get? e = some o ∧ o.cls = .type "StopIteration") → E (.ref e) { s with heap := h' }) :
    wpAny (model prog w) A (Builtin.«zip.__next__» ⟨[.ref z], []⟩) Q E s := by
  obtain ⟨f0, f1, hz, hf⟩ := hz0
  show wpAny _ _ (field (.ref z) 2 >>= _) _ _ _
  refine wpAny_bind (wpAny_field hz rfl (x := .bool false) rfl ?_)
  show wpAny _ _ (field (.ref z) 3 >>= _) _ _ _
  refine wpAny_bind (wpAny_field hz rfl (x := .ref TI) rfl ?_)
  refine wpAny_bind (wpAny_seqItems hTI rfl ?_)
  show wpAny _ _ (Builtin.SmallTypes.ownedTupleIsFree (.ref z) >>= _) _ _ _
  refine wpAny_bind (isFree hz hf ?_ fun h0 f1' hz0 hs0 => ?_)
  · simp only [if_true]
    refine wpAny_bind (wpAny_rule ?_)
    refine wpAny_bind (wpAny_field hz rfl (x := .ref TO) rfl ?_)
    refine wpAny_bind (wpAny_setField_rec hz (by simp) fun h₁ hz₁ hs₁ => ?_)
    replace hz₁ : ZObj h₁ z TI TO .ellipsis f1 := hz₁
    refine wpAny_bind ?_
    simp only [List.zipIdx_cons, List.zipIdx_nil, List.forIn_cons, List.forIn_nil]
    refine wpAny_bind (wpAny_bind (wpAny_onRaise ?_))
    show wpAny _ _ (Builtin.SmallTypes.nextOf (.ref i1) >>= _) _ _ _
    cases hx : xs[k1]? with
    | none =>
      refine wpAny_bind (nextOf_tuple_end hh (h1.extBut hs₁.extBut D.i1z) (hl1.extBut hs₁.extBut D.l1z) hx fun h₂ e hs₂ he => ?_)
      obtain ⟨oe, hoe, hce⟩ := he
      have hz₂ : ZObj h₂ z TI TO .ellipsis f1 := hs₂ _ _ D.i1z.symm hz₁
      have hez : e ≠ z := fun x => by subst x; rw [hz₂] at hoe; cases hoe; simp at hce
      refine wpAny_setField_rec hz₂ (by simp) fun h₃ _ hs₃ => hE h₃ e (fun c o c1 _ c3 _ x => hs₃.extBut _ _ c1 (hs₂ _ _ c3 (hs₁.extBut _ _ c1 x))) ⟨oe, hs₃.extBut _ _ hez hoe, hce⟩
    | some x =>
      have hy : ys[k2]? = none := by rcases hend with h | h; rw [hx] at h; cases h; exact h
      refine wpAny_bind (nextOf_tuple_item (h1.extBut hs₁.extBut D.i1z) (hl1.extBut hs₁.extBut D.l1z) hx fun h₂ h1₂ hs₂ => wpAny_pure ?_)
      have hTO₂ : IsPair h₂ TO a b := hs₂.extBut _ _ D.TOi1 (hs₁.extBut _ _ D.TOz hTO)
      refine wpAny_bind (wpAny_seqItems hTO₂ rfl ?_)
      refine wpAny_bind (wpAny_updateSeq_pair hTO₂ fun h₃ hTO₃ hs₃ => ?_)
      refine wpAny_bind (wpAny_letGo (wpAny_pure ?_))
      refine wpAny_bind (wpAny_bind (wpAny_onRaise ?_))
      show wpAny _ _ (Builtin.SmallTypes.nextOf (.ref i2) >>= _) _ _ _
      refine wpAny_bind (nextOf_tuple_end hh (((h2.extBut hs₁.extBut D.i2z).extBut hs₂.extBut D.i12.symm).extBut hs₃.extBut D.TOi2.symm)
        (((hl2.extBut hs₁.extBut D.l2z).extBut hs₂.extBut D.l2i1).extBut hs₃.extBut D.l2TO) hy fun h₄ e hs₄ he => ?_)
      obtain ⟨oe, hoe, hce⟩ := he
      have hz₄ : ZObj h₄ z TI TO .ellipsis f1 := hs₄ _ _ D.i2z.symm (hs₃.extBut _ _ D.TOz.symm (hs₂.extBut _ _ D.i1z.symm hz₁))
      have hez : e ≠ z := fun x => by subst x; rw [hz₄] at hoe; cases hoe; simp at hce
      refine wpAny_setField_rec hz₄ (by simp) fun h₅ _ hs₅ => hE h₅ e (fun c o c1 c2 c3 c4 x => hs₅.extBut _ _ c1 (hs₄ _ _ c4 (hs₃.extBut _ _ c2 (hs₂.extBut _ _ c3 (hs₁.extBut _ _ c1 x))))) ⟨oe, hs₅.extBut _ _ hez hoe, hce⟩
  · simp only [Bool.false_eq_true, if_false]
    refine wpAny_bind ?_
    rw [List.forIn_toArray]
    simp only [List.forIn_cons, List.forIn_nil]
    refine wpAny_bind (wpAny_bind (wpAny_holding ?_))
    show wpAny _ _ (Builtin.SmallTypes.nextOf (.ref i1) >>= _) _ _ _
    cases hx : xs[k1]? with
    | none =>
      exact wpAny_bind (nextOf_tuple_end hh (h1.extBut hs0.extBut D.i1z) (hl1.extBut hs0.extBut D.l1z) hx fun h₂ e hs₂ he => hE h₂ e (fun c o c1 _ c3 _ x => hs₂ _ _ c3 (hs0.extBut _ _ c1 x)) he)
    | some x =>
      have hy : ys[k2]? = none := by rcases hend with h | h; rw [hx] at h; cases h; exact h
      refine wpAny_bind (nextOf_tuple_item (h1.extBut hs0.extBut D.i1z) (hl1.extBut hs0.extBut D.l1z) hx fun h₂ h1₂ hs₂ => wpAny_pure (wpAny_pure ?_))
      refine wpAny_bind (wpAny_bind (wpAny_holding ?_))
      show wpAny _ _ (Builtin.SmallTypes.nextOf (.ref i2) >>= _) _ _ _
      exact wpAny_bind (nextOf_tuple_end hh ((h2.extBut hs0.extBut D.i2z).extBut hs₂.extBut D.i12.symm) ((hl2.extBut hs0.extBut D.l2z).extBut hs₂.extBut D.l2i1) hy fun h₄ e hs₄ he => hE h₄ e (fun c o c1 _ c3 c4 x => hs₄ _ _ c4 (hs₂.extBut _ _ c3 (hs0.extBut _ _ c1 x))) he)
theorem ZSt.typeIs {h : Heap} {z TI TO : Addr} (st : ZSt s.heap z TI TO) : s.TypeIs (.ref z) "zip" := by
  obtain ⟨f0, f1, hz, _⟩ := st
  exact ⟨_, hz, rfl⟩
/-- what an enumerate asks of a zip -/
theorem nextOf_zip {z TI TO i1 i2 l1 l2 : Addr} {k1 k2 : Nat} {xs ys : Array Value} {x y a b : Value} {Q : Value → Shared → Prop} (D : ZipApart z TI TO i1 i2 l1 l2)
    (hz0 : ZSt s.heap z TI TO) (hTI : IsPair s.heap TI (.ref i1) (.ref i2)) (hTO : IsPair s.heap TO a b)
    (h1 : s.heap.IsTupleIter i1 l1 k1) (h2 : s.heap.IsTupleIter i2 l2 k2) (hl1 : s.heap.IsTuple l1 xs) (hl2 : s.heap.IsTuple l2 ys) (hx : xs[k1]? = some x) (hy : ys[k2]? = some y)
    (hQ : ∀ h' a b, ZSt h' z TI TO → IsPair h' TO a b → h'.IsTupleIter i1 l1 (k1 + 1) → h'.IsTupleIter i2 l2 (k2 + 1) → IsPair h' s.heap.objs.size x y → h'.objs.size = s.heap.objs.size + 1 →
      (∀ c o, c ≠ z → c ≠ TO → c ≠ i1 → c ≠ i2 → s.heap.get? c = some o → h'.get? c = some o) → Q (.ref s.heap.objs.size) { s with heap := h' }) :
    wpAny (model prog w) A (Builtin.SmallTypes.nextOf (.ref z)) Q E s := by
  have hT := ZSt.typeIs (h := s.heap) hz0
  unfold Builtin.SmallTypes.nextOf
  refine wpAny_bind (wpAny_callSpecial?_slot (name := Str.ofString "__next__") hT F.slot_zip_next
    (wpAny_call_entry F.slot_zip_next hT F.entry_zip_next (zip_item D hz0 hTI hTO h1 h2 hl1 hl2 hx hy fun h' a b b1 b2 b3 b4 b5 b6 b7 => ?_) (F.args_zip_next_1 _)))
  exact wpAny_pure (hQ h' a b b1 b2 b3 b4 b5 b6 b7)
theorem nextOf_zip_end {z TI TO i1 i2 l1 l2 : Addr} {k1 k2 : Nat} {xs ys : Array Value} {a b : Value} {Q : Value → Shared → Prop} (hh : A.handled = none) (D : ZipApart z TI TO i1 i2 l1 l2)
    (hz0 : ZSt s.heap z TI TO) (hTI : IsPair s.heap TI (.ref i1) (.ref i2)) (hTO : IsPair s.heap TO a b)
    (h1 : s.heap.IsTupleIter i1 l1 k1) (h2 : s.heap.IsTupleIter i2 l2 k2) (hl1 : s.heap.IsTuple l1 xs) (hl2 : s.heap.IsTuple l2 ys) (hend : xs[k1]? = none ∨ ys[k2]? = none)
    (hE : ∀ h' e, (∀ c o, c ≠ z → c ≠ TO → c ≠ i1 → c ≠ i2 → s.heap.get? c = some o → h'.get? c = some o) → (∃ o, h'.get? e = some o ∧ o.cls = .type "StopIteration") → E (.ref e) { s with heap := h' }) :
    wpAny (model prog w) A (Builtin.SmallTypes.nextOf (.ref z)) Q E s := by
  have hT := ZSt.typeIs (h := s.heap) hz0
  unfold Builtin.SmallTypes.nextOf
  exact wpAny_bind (wpAny_callSpecial?_slot (name := Str.ofString "__next__") hT F.slot_zip_next
    (wpAny_call_entry F.slot_zip_next hT F.entry_zip_next (zip_end hh D hz0 hTI hTO h1 h2 hl1 hl2 hend hE) (F.args_zip_next_1 _)))
end
end ZipG
end PySem
namespace PySem
namespace ZipG
open Sem (wp)
open RZ
section
variable {prog : Program} {w : World} {A : Around} {E : Value → Shared → Prop} {s : Shared}
structure EApart (e z TI TO i1 i2 : Addr) : Prop where
  z : e ≠ z
  TI : e ≠ TI
  TO : e ≠ TO
  i1 : e ≠ i1
  i2 : e ≠ i2
theorem pyNext_item {e z TI TO i1 i2 l1 l2 : Addr} {k : Nat} {xs ys : Array Value} {x y a b old : Value} {Q : Option Value → Shared → Prop} (he : IsEnum s.heap e z ((k : Nat) : Int) old) (D : ZipApart z TI TO i1 i2 l1 l2) (DE : EApart e z TI TO i1 i2)
    (hz0 : ZSt s.heap z TI TO) (hTI : IsPair s.heap TI (.ref i1) (.ref i2)) (hTO : IsPair s.heap TO a b)
    (h1 : s.heap.IsTupleIter i1 l1 k) (h2 : s.heap.IsTupleIter i2 l2 k) (hl1 : s.heap.IsTuple l1 xs) (hl2 : s.heap.IsTuple l2 ys) (hx : xs[k]? = some x) (hy : ys[k]? = some y)
    (hQ : ∀ h' a b, IsEnumOut h' e z ((k : Int) + 1) (.ref s.heap.objs.size) (s.heap.objs.size + 1) → ZSt h' z TI TO → IsPair h' TI (.ref i1) (.ref i2) → IsPair h' TO a b → h'.IsTupleIter i1 l1 (k + 1) → h'.IsTupleIter i2 l2 (k + 1) → IsPair h' s.heap.objs.size x y →
      h'.get? (s.heap.objs.size + 1) = some { cls := .type "tuple", data := .seq #[.int k s.toks, .ref s.heap.objs.size] } →
      (∀ c o, c ≠ e → c ≠ z → c ≠ TO → c ≠ i1 → c ≠ i2 → s.heap.get? c = some o → h'.get? c = some o) → Q (some (.ref (s.heap.objs.size + 1))) { s with heap := h', toks := s.toks + 1 }) :
    wpAny (model prog w) A (pyNext (.ref e)) Q E s := by
  have hT : s.TypeIs (.ref e) "enumerate" := ⟨_, he, rfl⟩
  unfold pyNext
  refine wpAny_bind (wpAny_attempt (wpAny_callSpecial?_slot (name := Str.ofString "__next__") hT F.slot_enumerate_next
    (wpAny_call_entry F.slot_enumerate_next hT F.entry_enumerate_next (EnumG.next_item (N := fun v s₁ => v = .ref s.heap.objs.size ∧ ∃ h₁ a b, s₁ = { s with heap := h₁ } ∧ ZSt h₁ z TI TO ∧ IsPair h₁ TI (.ref i1) (.ref i2) ∧ IsPair h₁ TO a b ∧ h₁.IsTupleIter i1 l1 (k + 1) ∧ h₁.IsTupleIter i2 l2 (k + 1) ∧ IsPair h₁ s.heap.objs.size x y ∧ h₁.objs.size = s.heap.objs.size + 1 ∧
      (∀ c o, c ≠ z → c ≠ TO → c ≠ i1 → c ≠ i2 → s.heap.get? c = some o → h₁.get? c = some o)) he (fun A' E' => ?_) (fun v s₁ h' hN ho ht kk => ?_)) (F.args_enumerate_next_1 _))))
  · refine nextOf_zip D hz0 hTI hTO h1 h2 hl1 hl2 hx hy fun h' a b b1 b2 b3 b4 b5 b6 b7 => ?_
    exact ⟨b7 _ _ DE.z DE.TO DE.i1 DE.i2 he, rfl, h', a, b, rfl, b1, b7 _ _ D.TIz D.TITO D.TIi1 D.TIi2 hTI, b2, b3, b4, b5, b6, b7⟩
  · obtain ⟨rfl, h₁, a', b', rfl, b1, b0, b2, b3, b4, b5, b6, b7⟩ := hN
    simp only [b6] at ho ht ⊢
    obtain ⟨f0, f1, zz, zf⟩ := b1
    obtain ⟨o1, ho1, r1⟩ := b3
    obtain ⟨o2, ho2, r2⟩ := b4
    have ne5 : s.heap.objs.size ≠ e := Nat.ne_of_gt (Heap.lt_size he)
    exact wpAny_pure (hQ h' a' b' ho ⟨f0, f1, kk _ _ DE.z.symm zz, zf⟩ (kk _ _ DE.TI.symm b0) (kk _ _ DE.TO.symm b2) ⟨o1, kk _ _ DE.i1.symm ho1, r1⟩ ⟨o2, kk _ _ DE.i2.symm ho2, r2⟩ (kk _ _ ne5 b5) ht fun c o ce cz cT c1 c2 q => kk c o ce (b7 c o cz cT c1 c2 q))
theorem pyNext_end {e z TI TO i1 i2 l1 l2 : Addr} {k : Nat} {xs ys : Array Value} {a b old : Value} {Q : Option Value → Shared → Prop} (hh : A.handled = none) (he : IsEnum s.heap e z ((k : Nat) : Int) old) (D : ZipApart z TI TO i1 i2 l1 l2)
    (hz0 : ZSt s.heap z TI TO) (hTI : IsPair s.heap TI (.ref i1) (.ref i2)) (hTO : IsPair s.heap TO a b)
    (h1 : s.heap.IsTupleIter i1 l1 k) (h2 : s.heap.IsTupleIter i2 l2 k) (hl1 : s.heap.IsTuple l1 xs) (hl2 : s.heap.IsTuple l2 ys) (hend : xs[k]? = none ∨ ys[k]? = none)
    (hQ : ∀ h', (∀ c o, c ≠ z → c ≠ TO → c ≠ i1 → c ≠ i2 → s.heap.get? c = some o → h'.get? c = some o) → Q none { s with heap := h' }) :
    wpAny (model prog w) A (pyNext (.ref e)) Q E s := by
  have hT : s.TypeIs (.ref e) "enumerate" := ⟨_, he, rfl⟩
  unfold pyNext
  refine wpAny_bind (wpAny_attempt (wpAny_callSpecial?_slot (name := Str.ofString "__next__") hT F.slot_enumerate_next
    (wpAny_call_entry F.slot_enumerate_next hT F.entry_enumerate_next ?_ (F.args_enumerate_next_1 _))))
  show wpAny _ _ (field (.ref e) 2 >>= _) _ _ _
  refine wpAny_bind (wpAny_field he rfl (x := .ref z) rfl ?_)
  refine wpAny_bind (nextOf_zip_end hh D hz0 hTI hTO h1 h2 hl1 hl2 hend fun h' x he' ⟨o, ho, hc⟩ => ?_)
  exact wpAny_bind (wpAny_isInstance (T := "StopIteration") (b := true) ⟨o, ho, hc⟩ isSubtype_stop (wpAny_pure (hQ _ he')))
/-- enumerate(z), z a zip -/
theorem meets_newZ (z TI TO : Addr) :
    Meets (Builtin.«enumerate.__new__» ⟨[.type "enumerate", .ref z], []⟩) (fun _ R s => IsZip s.heap z TI TO .none ∧
      R (.ok (.ret (.ref s.heap.objs.size))) { s with heap := s.heap.push { cls := .type "enumerate", data := .fields #[.none, .bool false, .ref z, rawInt 0, .none, .none] } }) :=
  .of_wp fun prog w A R s h => by
    obtain ⟨hp, g, d, tk, os⟩ := s; obtain ⟨hl, h⟩ := h
    have hsub := sub_enumerate
    wp_walk using AutoSeq1.wpAny_loadPart' hl, wpAny_pyIter_zip hl
    refine wpAny_stack_any fun st => wpAny_pure ?_
    split
    · rename_i c _ _ _ _ _
      cases (c == Value.type "enumerate") <;>
      · wp_walk using AutoSeq1.wpAny_loadPart' hl, wpAny_pyIter_zip hl
        exact ⟨_, rfl, h⟩
    · wp_walk using AutoSeq1.wpAny_loadPart' hl, wpAny_pyIter_zip hl
      exact ⟨_, rfl, h⟩
theorem call_enumZ {z TI TO : Addr} {Q : Value → Shared → Prop} (hz : IsZip s.heap z TI TO .none)
    (h : ∀ h', IsEnum h' s.heap.objs.size z 0 .none → h'.objs.size = s.heap.objs.size + 1 → (∀ b o, s.heap.get? b = some o → h'.get? b = some o) → Q (.ref s.heap.objs.size) { s with heap := h' }) :
    wpAny (model prog w) A (call (.type "enumerate") [.ref z]) Q E s := by
  refine callType_new F.called_enumerate (by decide) (F.typeCall_enumerate_1 _) (F.newCall_enumerate_1 _) (fun obj => F.args_object_init_2 obj _) F.entry_enumerate_new (meets_newZ z TI TO) ⟨hz, ?_⟩
  have he : IsEnum (s.heap.push { cls := .type "enumerate", data := .fields #[.none, .bool false, .ref z, rawInt 0, .none, .none] }) s.heap.objs.size z 0 .none := Heap.get?_push_size _ rfl
  exact ⟨⟨_, he, rfl⟩, h _ he (Heap.size_push ..) fun b o x => Heap.get?_push_of_some _ x⟩
end
end ZipG
end PySem
namespace L2
open PySem PySem.Spec PyProof.Rows PySem.ZipG RZ
/-- the tuples at a and b: each pair of items in a new pair, that with its number in a new pair -/
def IteZ (K : PySem.W.Frag) (a b : Addr) : It :=
  ⟨fun i H => ∃ (xs ys : List V) (x y : V), SqT K H a xs ∧ SqT K H b ys ∧ xs[i]? = some x ∧ ys[i]? = some y,
    fun i H v H' => ∃ P T x y, v = .ref T ∧ H P = none ∧ H T = none ∧ P ≠ T ∧ H' = upd (upd H P (.tup [x, y])) T (.tup [.int (i : Nat), .ref P]) ∧ (∀ xs, SqT K H a xs → xs[i]? = some x) ∧ ∀ ys, SqT K H b ys → ys[i]? = some y,
    fun i H => ∃ xs ys : List V, SqT K H a xs ∧ SqT K H b ys ∧ (xs.length ≤ i ∨ ys.length ≤ i)⟩
theorem turn_enumZ {P : Program} {w : World} {K : PySem.W.Frag} {elts : List Expr} {kk : Nat} {tpos : Pos} {a b e z TI TO i1 i2 : Addr} (D : ZipApart z TI TO i1 i2 a b) (DE : EApart e z TI TO i1 i2) :
    Turn P w K (.Tuple elts kk tpos) (IteZ K a b) [e, z, TI, TO, i1, i2] e (fun i h => (∃ old, IsEnum h e z ((i : Nat) : Int) old) ∧ ZSt h z TI TO ∧ IsPair h TI (.ref i1) (.ref i2) ∧ (∃ x y, IsPair h TO x y) ∧ h.IsTupleIter i1 a i ∧ h.IsTupleIter i2 b i) where
  mem := by simp
  obj := fun i h st c hc => by
    obtain ⟨⟨old, he⟩, ⟨f0, f1, hz, _⟩, hTI, ⟨x, y, hTO⟩, ⟨o1, e1, _, d1⟩, ⟨o2, e2, _, d2⟩⟩ := st
    have e' : c = e ∨ c = z ∨ c = TI ∨ c = TO ∨ c = i1 ∨ c = i2 := by simpa using hc
    rcases e' with q | q | q | q | q | q
    · rw [q]; exact ⟨_, he, fun v q => nomatch q⟩
    · rw [q]; exact ⟨_, hz, fun v q => nomatch q⟩
    · rw [q]; exact ⟨_, hTI, fun v q => nomatch q⟩
    · rw [q]; exact ⟨_, hTO, fun v q => nomatch q⟩
    · rw [q]; exact ⟨o1, e1, fun v q => by rw [d1] at q; cases q⟩
    · rw [q]; exact ⟨o2, e2, fun v q => by rw [d2] at q; cases q⟩
  keep := fun i h h' st k => by
    obtain ⟨⟨old, he⟩, ⟨f0, f1, hz, hf⟩, hTI, ⟨x, y, hTO⟩, h1, h2⟩ := st
    exact ⟨⟨old, k e (by simp) _ he⟩, ⟨f0, f1, k z (by simp) _ hz, hf⟩, k TI (by simp) _ hTI, ⟨x, y, k TO (by simp) _ hTO⟩, h1.at fun o q => k i1 (by simp) o q, h2.at fun o q => k i2 (by simp) o q⟩
  item := by
    intro X hP hw hK hc i pins s σ H E I hf st hg
    subst hP hw hK
    obtain ⟨⟨old, he⟩, hz, hTI, ⟨x0, y0, hTO⟩, h1, h2⟩ := st
    obtain ⟨xs, ys, x, y, hqx, hqy, hx, hy⟩ := hg
    obtain ⟨its, rv, p, _⟩ := I.tuple hqx
    obtain ⟨its2, rv2, p2, _⟩ := I.tuple hqy
    obtain ⟨u, hu, ru⟩ := rv.get hx
    obtain ⟨u2, hu2, ru2⟩ := rv2.get hy
    have hel : e < s.heap.objs.size := Heap.lt_size he
    have hzl : z < s.heap.objs.size := by obtain ⟨_, _, q, _⟩ := id hz; exact Heap.lt_size q
    have lts : ∀ c ∈ [e, z, TI, TO, i1, i2], c < s.heap.objs.size := fun c hcm => by
      have e' : c = e ∨ c = z ∨ c = TI ∨ c = TO ∨ c = i1 ∨ c = i2 := by simpa using hcm
      rcases e' with q | q | q | q | q | q
      · rw [q]; exact hel
      · rw [q]; exact hzl
      · rw [q]; exact Heap.lt_size hTI
      · rw [q]; exact Heap.lt_size hTO
      · rw [q]; obtain ⟨_, e1, _⟩ := h1; exact Heap.lt_size e1
      · rw [q]; obtain ⟨_, e2, _⟩ := h2; exact Heap.lt_size e2
    refine ZipG.pyNext_item he D DE hz hTI hTO h1 h2 p p2 (x := u) (y := u2) (by simpa using hu) (by simpa using hu2) fun h' a' b' ho z' TI' TO' h1' h2' hP' hT' hk => ?_
    refine ⟨_, rfl, wpAny_letOwnedTupleGo_enum (s := { s with heap := h', toks := s.toks + 1 }) ho fun h'' he' sb => ?_⟩
    have up : ∀ c o, c ≠ e → h'.get? c = some o → h''.get? c = some o := fun c o hc q => (sb.2 c hc).trans q
    have neP : s.heap.objs.size ≠ e := Nat.ne_of_gt hel
    have neT : s.heap.objs.size + 1 ≠ e := Nat.ne_of_gt (Nat.lt_succ_of_lt hel)
    have hP2 := up _ _ neP hP'
    have hT2 := up _ _ neT hT'
    obtain ⟨G, g1, g2⟩ := restrict h'' fun c => decide (c ≠ s.heap.objs.size + 1)
    have gk : ∀ c, c ≠ s.heap.objs.size + 1 → G.get? c = h''.get? c := fun c hc => g1 c (decide_eq_true hc)
    have gT : G.get? (s.heap.objs.size + 1) = none := g2 _ (by simp)
    have newP : ObjOk X.prog X.w (upd H s.heap.objs.size (.tup [x, y])) G s.heap.objs.size (.tup [x, y]) :=
      ⟨by show 2 ≤ sizeLine; decide, [u, u2], .cons ru (.cons ru2 .nil), ⟨_, (gk _ (Nat.ne_of_lt (Nat.lt_succ_self _))).trans hP2, rfl, _, rfl⟩⟩
    have I1 : Inv X pins σ (upd H s.heap.objs.size (.tup [x, y])) { s with heap := G, toks := s.toks + 1 } :=
      I.turnedNew (t' := s.toks + 1) (ch := [e, z, TI, TO, i1, i2]) (fun c o hb q => (gk c (Nat.ne_of_lt (Nat.lt_succ_of_lt (Heap.lt_size q)))).trans (up c o (fun q' => hb (by simp [q'])) (hk c o (fun q' => hb (by simp [q'])) (fun q' => hb (by simp [q'])) (fun q' => hb (by simp [q'])) (fun q' => hb (by simp [q'])) (fun q' => hb (by simp [q'])) q))) hf (Nat.le_refl _) newP
    have nT : upd H s.heap.objs.size (.tup [x, y]) (s.heap.objs.size + 1) = none := by
      rw [upd_ne (Nat.ne_of_gt (Nat.lt_succ_self _))]
      exact I.hok.fresh (Nat.le_succ _)
    have newT : ObjOk X.prog X.w (upd (upd H s.heap.objs.size (.tup [x, y])) (s.heap.objs.size + 1) (.tup [.int (i : Nat), .ref s.heap.objs.size])) h'' (s.heap.objs.size + 1) (.tup [.int (i : Nat), .ref s.heap.objs.size]) :=
      ⟨by show 2 ≤ sizeLine; decide, [.int i s.toks, .ref s.heap.objs.size], .cons ⟨_, rfl⟩ (.cons rfl .nil), ⟨_, hT2, rfl, _, rfl⟩⟩
    have I2 : Inv X pins σ (upd (upd H s.heap.objs.size (.tup [x, y])) (s.heap.objs.size + 1) (.tup [.int (i : Nat), .ref s.heap.objs.size])) { s with heap := h'', toks := s.toks + 1 } :=
      I1.laidN (t' := s.toks + 1) (fun c o q => by
        by_cases hc : c = s.heap.objs.size + 1
        · have q' : G.get? c = some o := q
          rw [hc, gT] at q'; cases q'
        · exact (gk c hc).symm.trans q) gT nT newT
    refine ⟨.ref (s.heap.objs.size + 1), _, I2, rfl, ⟨_, _, x, y, rfl, I.hok.fresh (Nat.le_refl _), I.hok.fresh (Nat.le_succ _), Nat.ne_of_lt (Nat.lt_succ_self _), rfl, fun l hl => by rw [I.tuple_inj hl hqx]; exact hx, fun l hl => by rw [I.tuple_inj hl hqy]; exact hy⟩, ⟨⟨.ref s.heap.objs.size, ?_⟩, ?_, ?_, ⟨a', b', ?_⟩, ?_, ?_⟩, fun c hcm => ?_⟩
    · have e1 : ((i + 1 : Nat) : Int) = (i : Int) + 1 := by omega
      rw [e1]; exact he'
    · obtain ⟨f0, f1, zz, zf⟩ := z'
      exact ⟨f0, f1, up _ _ DE.z.symm zz, zf⟩
    · exact up _ _ DE.TI.symm TI'
    · exact up _ _ DE.TO.symm TO'
    · exact h1'.at fun o q => up _ o DE.i1.symm q
    · exact h2'.at fun o q => up _ o DE.i2.symm q
    · have hlt := lts c hcm
      rw [upd_ne (Nat.ne_of_lt (Nat.lt_succ_of_lt hlt)), upd_ne (Nat.ne_of_lt hlt)]
      exact (hf c hcm).1
  done := by
    intro X hP hw hK hc i pins s σ H E I hf st hg
    subst hP hw hK
    obtain ⟨⟨old, he⟩, hz, hTI, ⟨x0, y0, hTO⟩, h1, h2⟩ := st
    obtain ⟨xs, ys, hqx, hqy, hend⟩ := hg
    obtain ⟨its, rv, p, _⟩ := I.tuple hqx
    obtain ⟨its2, rv2, p2, _⟩ := I.tuple hqy
    have l1 := rv.length
    have l2 := rv2.length
    have hn : its.toArray[i]? = none ∨ its2.toArray[i]? = none := by
      rcases hend with q | q
      · exact .inl (by simp; omega)
      · exact .inr (by simp; omega)
    exact ZipG.pyNext_end (I.ok.hd hc) he D hz hTI hTO h1 h2 p p2 hn fun h' hk => ⟨rfl, I.turnedL (t' := s.toks) (ch := [e, z, TI, TO, i1, i2]) (fun c o hb q =>
      hk c o (fun q' => hb (by simp [q'])) (fun q' => hb (by simp [q'])) (fun q' => hb (by simp [q'])) (fun q' => hb (by simp [q'])) q) hf⟩
  self := fun A i s Q E ⟨⟨_, he⟩, _⟩ h => wpAny_pyIter_enum he h
def iEnumZ (K : PySem.W.Frag) (ta : TA) : TI := fun σ H R => ta σ H fun vs H1 => ∃ a b xs ys, vs = [.ref a, .ref b] ∧ SqT K H1 a xs ∧ SqT K H1 b ys ∧ R (IteZ K a b) H1
theorem pi_enumZ {X : Cx} {e e2 : Expr} {ta : TA} {p pos p2 pos2 tpos : Pos} {elts : List Expr} {kk : Nat} (hg : Gl X "enumerate") (hm : X.mg "enumerate" = none) (hg2 : Gl X "zip") (hm2 : X.mg "zip" = none) (ha : PA X [e, e2] ta)
    (hs0 : starEach [Expr.Call (.Name "zip" p2) [e, e2] [] pos2] X.env = [(false, eval (Expr.Call (.Name "zip" p2) [e, e2] [] pos2) X.env)] := by rfl)
    (hs : starEach [e, e2] X.env = (false, eval e X.env) :: starEach [e2] X.env := by rfl) (hpl : (backTo pos2 (starEach [e2] X.env)).any (·.1) = false := by rfl) :
    PI X (.Tuple elts kk tpos) (.Call (.Name "enumerate" p) [.Call (.Name "zip" p2) [e, e2] [] pos2] [] pos) (iEnumZ X.K ta) := by
  refine ⟨fun pins s σ H R I h => ?_⟩
  refine Call_ (ld_blt I hg hm boot_enumerate (PyProof.Rows.callWith_type1 (args_cons (Call_ (ld_blt I hg2 hm2 PyProof.Rows.boot_zip (PyProof.Rows.callWith_type1 (thn (ha.run pos2 pins s σ H _ I h) fun us s1 ⟨vs, H1, I1, r1, q1⟩ => ?_) hs hpl))) hs0) hs0 rfl))
  obtain ⟨a, b, xs, ys, ex, hqx, hqy, q⟩ := q1
  subst ex
  cases r1 with
  | cons r rr =>
    cases rr with
    | cons r' rr =>
      cases rr
      cases r
      cases r'
      obtain ⟨its, rv, p1, _⟩ := I1.tuple hqx
      obtain ⟨its2, rv2, p2', _⟩ := I1.tuple hqy
      obtain ⟨o1, ho1, _⟩ := id p1
      obtain ⟨o2, ho2, _⟩ := id p2'
      refine call_zipT (show s1.heap.IsTuple a its.toArray from p1) (show s1.heap.IsTuple b its2.toArray from p2') fun h' hz hTI hTO h1 h2 hsz hk => args_nil ?_
      refine ZipG.call_enumZ hz fun h2' he hsz2 hk2 => wpAny_pyIter_enum he ?_
      have hsz' : h'.objs.size = s1.heap.objs.size + 5 := hsz
      replace he : IsEnum h2' (s1.heap.objs.size + 5) (s1.heap.objs.size + 4) 0 .none := by
        rw [← hsz']
        exact he
      have I2 : Inv X pins σ H1 { s1 with heap := h2' } := I1.kept (t' := s1.toks) fun c o q => hk2 c o (hk c o q)
      have ap : ∀ n : Nat, EApart (n + 5) (n + 4) (n + 2) (n + 3) n (n + 1) := fun n => ⟨Nat.ne_of_gt (Nat.lt_succ_self _), Nat.ne_of_gt (show n + 2 < n + 5 by omega), Nat.ne_of_gt (show n + 3 < n + 5 by omega), Nat.ne_of_gt (show n < n + 5 by omega), Nat.ne_of_gt (show n + 1 < n + 5 by omega)⟩
      obtain ⟨q1, w1, r1⟩ := h1
      obtain ⟨q2, w2, r2⟩ := h2
      refine ⟨s1.heap.objs.size + 5, [s1.heap.objs.size + 5, s1.heap.objs.size + 4, s1.heap.objs.size + 2, s1.heap.objs.size + 3, s1.heap.objs.size, s1.heap.objs.size + 1], _, _, H1, congrArg Value.ref hsz', I2,
        turn_enumZ (PySem.W.ktu_apart s1.heap.objs.size a b (Heap.lt_size ho1) (Heap.lt_size ho2)) (ap s1.heap.objs.size), ⟨⟨_, he⟩, ⟨_, _, hk2 _ _ hz, .inl rfl⟩, hk2 _ _ hTI, ⟨_, _, hk2 _ _ hTO⟩, ⟨q1, hk2 _ _ w1, r1⟩, ⟨q2, hk2 _ _ w2, r2⟩⟩, fun c hcm => ?_, q⟩
      have e' : c = s1.heap.objs.size + 5 ∨ c = s1.heap.objs.size + 4 ∨ c = s1.heap.objs.size + 2 ∨ c = s1.heap.objs.size + 3 ∨ c = s1.heap.objs.size ∨ c = s1.heap.objs.size + 1 := by simpa using hcm
      have hle : s1.heap.objs.size ≤ c := by
        rcases e' with z | z | z | z | z | z <;> (rw [z]; first | exact Nat.le_refl _ | exact Nat.le_add_right _ _)
      exact I1.fpOk hle (I1.hok.fresh hle)
end L2
namespace My
open PySem PySem.Spec PyProof.Rows L2
/-- for i, (x, y) in enumerate(zip(t, u)), t and u tuples of one length or not -/
theorem forEZ {K : PySem.W.Frag} {ta : TA} {g : TG} {tb : TS} {D : Ends} {σ : L2.St} {H : Hp} {a b : Addr} {xs ys : List V} (i1 i2 i3 : Nat) (Pv : Nat → L2.St → Hp → Prop) (ht : ∀ R : List V → Hp → Prop, R [.ref a, .ref b] H → ta σ H R) (hA : SqT K H a xs) (hB : SqT K H b ys) (h0 : Pv 0 σ H)
    (hl : ∀ j σ H, Pv j σ H → SqT K H a xs ∧ SqT K H b ys) (hx : ∀ j σ H T o, Pv j σ H → H T = none → Pv j σ (upd H T o))
    (hs : ∀ j x y σ H, xs[j]? = some x → ys[j]? = some y → Pv j σ H → tb { D with nx := Pv (j + 1), ct := Pv (j + 1), bk := D.nx } (((σ.set i1 (some (.int (j : Nat)))).set i2 (some x)).set i3 (some y)) H) (hd : ∀ σ H, Pv (min xs.length ys.length) σ H → D.nx σ H)
    (hg : g = gTup K 2 (gCons (gName i1) (gCons (gTup K 2 (gCons (gName i2) (gCons (gName i3) gNil))) gNil)) := by rfl) : tFor (iEnumZ K ta) g tb D σ H := by
  subst hg
  refine ht _ ⟨a, b, xs, ys, rfl, hA, hB, fun i m σ H => m = min xs.length ys.length - i ∧ i ≤ min xs.length ys.length ∧ Pv i σ H, ⟨min xs.length ys.length, by simp, Nat.zero_le _, h0⟩, ?_⟩
  rintro i m σ H ⟨rfl, hi, p⟩
  obtain ⟨q1, q2⟩ := hl i σ H p
  by_cases hlt : i < min xs.length ys.length
  · have hlt1 : i < xs.length := by omega
    have hlt2 : i < ys.length := by omega
    refine .inr ⟨⟨xs, ys, xs[i], ys[i], q1, q2, by simp [hlt1], by simp [hlt2]⟩, Pv (i + 1), fun σ' H' p' => ⟨min xs.length ys.length - (i + 1), by omega, rfl, hlt, p'⟩, fun v H' y => ?_⟩
    obtain ⟨P, T, x', y', rfl, hP, hT, hne, rfl, f1, f2⟩ := y
    have nT : upd H P (.tup [x', y']) T = none := by rw [upd_ne (Ne.symm hne)]; exact hT
    have hP2 : SqT K (upd (upd H P (.tup [x', y'])) T (.tup [.int (i : Nat), .ref P])) P [x', y'] := SqT.of (by rw [upd_ne hne, upd_same])
    exact ⟨T, _, rfl, SqT.of upd_same, rfl, _, _, rfl, _, _, rfl, P, _, rfl, hP2, rfl, _, _, rfl, _, _, rfl, rfl, rfl, hs i x' y' σ _ (f1 xs q1) (f2 ys q2) (hx i σ _ T _ (hx i σ H P _ p hP) nT)⟩
  · have e : i = min xs.length ys.length := by omega
    subst e
    exact .inl ⟨⟨xs, ys, q1, q2, by omega⟩, hd σ H p⟩
end My

namespace My
open PySem PySem.Spec PyProof.Rows L2
def rInDT (K : PySem.W.Frag) : R2 := fun x y H Q => ∃ d ds, Dp K H x d ∧ Dp K H y (.tuple ds) ∧ SeqAt.shaped d = true ∧ SeqAt.shaped (.tuple ds) = true ∧ Q (.bl (ds.any fun z => PyData.eqv z d)) H
def rNotInDT (K : PySem.W.Frag) : R2 := fun x y H Q => ∃ d ds, Dp K H x d ∧ Dp K H y (.tuple ds) ∧ SeqAt.shaped d = true ∧ SeqAt.shaped (.tuple ds) = true ∧ Q (.bl (!ds.any fun z => PyData.eqv z d)) H
theorem hu65 {A : Around} {k : Nat} (hr : Room k A) : A.units + 65 < cLine := by
  have := hr.un
  omega
theorem op_notInDT {X : Cx} (hu : X.A.units + 65 < cLine) : OpR X (compareOp .NotIn) (rNotInDT X.K) := by
  intro pins s σ H x y v u Q I rx ry h
  obtain ⟨d, ds, hd, he, sd, se, q⟩ := h
  obtain ⟨as, r1⟩ := Dp.reads I d x v hd rx
  obtain ⟨bs, r2⟩ := Dp.reads I (.tuple ds) y u he ry
  exact SeqAt.notIn_tuple_reads r2 r1 (SeqAt.canLay_of_shaped se) (SeqAt.canLay_of_shaped sd) (room_in_shaped sd hu) ⟨.bl _, H, I, rfl, q⟩
end My

namespace My
open PySem PySem.Spec PyProof.Rows L2
def topS (i : Nat) : Stmt := PySem.Challenge.pw_plugtree_k22_journals_looked_at.main.body.getD i (.Pass ⟨0, 0, 0, 0⟩)
abbrev s_is_number : Stmt := topS 1
abbrev s_are_bytes : Stmt := topS 2
abbrev s_is_token : Stmt := topS 7
abbrev s_is_frame : Stmt := topS 8
abbrev s_is_piece : Stmt := topS 9
abbrev s_is_data : Stmt := topS 10
abbrev s_is_answer : Stmt := topS 11
abbrev s_is_packet : Stmt := topS 12
abbrev s_said_behind : Stmt := topS 25
abbrev s_is_numbered : Stmt := topS 26
abbrev s_room_behind : Stmt := topS 27
abbrev s_first_wrong : Stmt := topS 28
abbrev s__law_bag : Stmt := topS 30
abbrev s__law_pull : Stmt := topS 31
abbrev s__law_whole : Stmt := topS 32
abbrev s__law_same : Stmt := topS 33
abbrev s__law_one : Stmt := topS 34
abbrev s__law_bytes : Stmt := topS 35
abbrev s__law_turn : Stmt := topS 36
abbrev s__law_made : Stmt := topS 37
abbrev s__law_after : Stmt := topS 38
abbrev s__law_shape : Stmt := topS 39
abbrev s__law_wrong : Stmt := topS 40
abbrev s__law_bent : Stmt := topS 41
abbrev s_law : Stmt := topS 42
structure Ad where
  w : World
  f_is_number : Addr
  d_is_number : FuncData
  f_are_bytes : Addr
  d_are_bytes : FuncData
  f_is_token : Addr
  d_is_token : FuncData
  f_is_frame : Addr
  d_is_frame : FuncData
  f_is_piece : Addr
  d_is_piece : FuncData
  f_is_data : Addr
  d_is_data : FuncData
  f_is_answer : Addr
  d_is_answer : FuncData
  f_is_packet : Addr
  d_is_packet : FuncData
  f_said_behind : Addr
  d_said_behind : FuncData
  f_is_numbered : Addr
  d_is_numbered : FuncData
  f_room_behind : Addr
  d_room_behind : FuncData
  f_first_wrong : Addr
  d_first_wrong : FuncData
  f__law_bag : Addr
  d__law_bag : FuncData
  f__law_pull : Addr
  d__law_pull : FuncData
  f__law_whole : Addr
  d__law_whole : FuncData
  f__law_same : Addr
  d__law_same : FuncData
  f__law_one : Addr
  d__law_one : FuncData
  f__law_bytes : Addr
  d__law_bytes : FuncData
  f__law_turn : Addr
  d__law_turn : FuncData
  f__law_made : Addr
  d__law_made : FuncData
  f__law_after : Addr
  d__law_after : FuncData
  f__law_shape : Addr
  d__law_shape : FuncData
  f__law_wrong : Addr
  d__law_wrong : FuncData
  f__law_bent : Addr
  d__law_bent : FuncData
  f_law : Addr
  d_law : FuncData
  k_TOKENS_packets : Addr
  k_ANSWERS : Addr
  k_MOST_DATA : Tok
  k_FRAME_ROOM : Tok
  k_BEGINNING_ROOM : Tok
  k_TURN_ROOM : Tok
  k_FRAME_NUMBERS : Tok
  k_TOKENS_journal : Addr
  k_FREE : Addr
  k_FREE_0 : Addr
  k_FREE_1 : Addr
  k_FREE_2 : Addr
  k_FREE_3 : Addr
  k_BEGINNING : Addr
  k_BEGINNING_0 : Addr
  k_BEHIND_OUT : Addr
  k_BEHIND_OUT_0 : Addr
  k_ANSWERS_TO_PIECE : Addr
  k_ANSWERS_TO_PIECE_0 : Addr
  k_ANSWERS_TO_PIECE_1 : Addr
  k_ANSWERS_TO_PIECE_2 : Addr
  k_ANSWERS_TO_IN : Addr
  k_ANSWERS_TO_IN_0 : Addr
  k_ANSWERS_TO_IN_1 : Addr
  k_ANSWERS_TO_IN_2 : Addr
  k_BEHIND_GIVEN : Addr
  k_BEHIND_GIVEN_0 : Addr
structure Txt (K : PySem.W.Frag) (mg : Str → Option Value) (a : Ad) : Prop where
  g_is_number : mg "is_number" = some (.ref a.f_is_number)
  F_is_number : Fun K "is_number" "is_number" s_is_number a.f_is_number a.d_is_number
  b_is_number : Binds K a.d_is_number ["value", "low", "high"] []
  g_are_bytes : mg "are_bytes" = some (.ref a.f_are_bytes)
  F_are_bytes : Fun K "are_bytes" "are_bytes" s_are_bytes a.f_are_bytes a.d_are_bytes
  b_are_bytes : Binds K a.d_are_bytes ["data"] []
  g_is_token : mg "is_token" = some (.ref a.f_is_token)
  F_is_token : Fun K "is_token" "is_token" s_is_token a.f_is_token a.d_is_token
  b_is_token : Binds K a.d_is_token ["packet"] []
  g_is_frame : mg "is_frame" = some (.ref a.f_is_frame)
  F_is_frame : Fun K "is_frame" "is_frame" s_is_frame a.f_is_frame a.d_is_frame
  b_is_frame : Binds K a.d_is_frame ["packet"] []
  g_is_piece : mg "is_piece" = some (.ref a.f_is_piece)
  F_is_piece : Fun K "is_piece" "is_piece" s_is_piece a.f_is_piece a.d_is_piece
  b_is_piece : Binds K a.d_is_piece ["value"] []
  g_is_data : mg "is_data" = some (.ref a.f_is_data)
  F_is_data : Fun K "is_data" "is_data" s_is_data a.f_is_data a.d_is_data
  b_is_data : Binds K a.d_is_data ["packet"] []
  g_is_answer : mg "is_answer" = some (.ref a.f_is_answer)
  F_is_answer : Fun K "is_answer" "is_answer" s_is_answer a.f_is_answer a.d_is_answer
  b_is_answer : Binds K a.d_is_answer ["packet"] []
  g_is_packet : mg "is_packet" = some (.ref a.f_is_packet)
  F_is_packet : Fun K "is_packet" "is_packet" s_is_packet a.f_is_packet a.d_is_packet
  b_is_packet : Binds K a.d_is_packet ["packet"] []
  g_said_behind : mg "said_behind" = some (.ref a.f_said_behind)
  F_said_behind : Fun K "said_behind" "said_behind" s_said_behind a.f_said_behind a.d_said_behind
  b_said_behind : Binds K a.d_said_behind ["row"] []
  g_is_numbered : mg "is_numbered" = some (.ref a.f_is_numbered)
  F_is_numbered : Fun K "is_numbered" "is_numbered" s_is_numbered a.f_is_numbered a.d_is_numbered
  b_is_numbered : Binds K a.d_is_numbered ["row", "ahead"] []
  g_room_behind : mg "room_behind" = some (.ref a.f_room_behind)
  F_room_behind : Fun K "room_behind" "room_behind" s_room_behind a.f_room_behind a.d_room_behind
  b_room_behind : Binds K a.d_room_behind ["room", "packet"] []
  g_first_wrong : mg "first_wrong" = some (.ref a.f_first_wrong)
  F_first_wrong : Fun K "first_wrong" "first_wrong" s_first_wrong a.f_first_wrong a.d_first_wrong
  b_first_wrong : Binds K a.d_first_wrong ["rows"] []
  g__law_bag : mg "_law_bag" = some (.ref a.f__law_bag)
  F__law_bag : Fun K "_law_bag" "_law_bag" s__law_bag a.f__law_bag a.d__law_bag
  b__law_bag : Binds K a.d__law_bag ["_law_script"] []
  g__law_pull : mg "_law_pull" = some (.ref a.f__law_pull)
  F__law_pull : Fun K "_law_pull" "_law_pull" s__law_pull a.f__law_pull a.d__law_pull
  b__law_pull : Binds K a.d__law_pull ["_law_bag_here", "_law_upto"] []
  g__law_whole : mg "_law_whole" = some (.ref a.f__law_whole)
  F__law_whole : Fun K "_law_whole" "_law_whole" s__law_whole a.f__law_whole a.d__law_whole
  b__law_whole : Binds K a.d__law_whole ["_law_found"] []
  g__law_same : mg "_law_same" = some (.ref a.f__law_same)
  F__law_same : Fun K "_law_same" "_law_same" s__law_same a.f__law_same a.d__law_same
  b__law_same : Binds K a.d__law_same ["_law_found", "_law_due"] []
  g__law_one : mg "_law_one" = some (.ref a.f__law_one)
  F__law_one : Fun K "_law_one" "_law_one" s__law_one a.f__law_one a.d__law_one
  b__law_one : Binds K a.d__law_one ["_law_bag_here", "_law_row"] []
  g__law_bytes : mg "_law_bytes" = some (.ref a.f__law_bytes)
  F__law_bytes : Fun K "_law_bytes" "_law_bytes" s__law_bytes a.f__law_bytes a.d__law_bytes
  b__law_bytes : Binds K a.d__law_bytes ["_law_bag_here", "_law_most"] []
  g__law_turn : mg "_law_turn" = some (.ref a.f__law_turn)
  F__law_turn : Fun K "_law_turn" "_law_turn" s__law_turn a.f__law_turn a.d__law_turn
  b__law_turn : Binds K a.d__law_turn ["_law_bag_here", "_law_frame"] []
  g__law_made : mg "_law_made" = some (.ref a.f__law_made)
  F__law_made : Fun K "_law_made" "_law_made" s__law_made a.f__law_made a.d__law_made
  b__law_made : Binds K a.d__law_made ["_law_bag_here"] []
  g__law_after : mg "_law_after" = some (.ref a.f__law_after)
  F__law_after : Fun K "_law_after" "_law_after" s__law_after a.f__law_after a.d__law_after
  b__law_after : Binds K a.d__law_after ["_law_row"] []
  g__law_shape : mg "_law_shape" = some (.ref a.f__law_shape)
  F__law_shape : Fun K "_law_shape" "_law_shape" s__law_shape a.f__law_shape a.d__law_shape
  b__law_shape : Binds K a.d__law_shape ["_law_row"] []
  g__law_wrong : mg "_law_wrong" = some (.ref a.f__law_wrong)
  F__law_wrong : Fun K "_law_wrong" "_law_wrong" s__law_wrong a.f__law_wrong a.d__law_wrong
  b__law_wrong : Binds K a.d__law_wrong ["_law_rows"] []
  g__law_bent : mg "_law_bent" = some (.ref a.f__law_bent)
  F__law_bent : Fun K "_law_bent" "_law_bent" s__law_bent a.f__law_bent a.d__law_bent
  b__law_bent : Binds K a.d__law_bent ["_law_bag_here", "_law_rows"] []
  g_law : mg "law" = some (.ref a.f_law)
  F_law : Fun K "law" "law" s_law a.f_law a.d_law
  b_law : Binds K a.d_law ["_law_script"] []
  g_TOKENS_packets : mg "TOKENS_packets" = some (.ref a.k_TOKENS_packets)
  t_TOKENS_packets : KTup K a.k_TOKENS_packets [.str ("out" : Str), .str ("in" : Str), .str ("setup" : Str)]
  g_ANSWERS : mg "ANSWERS" = some (.ref a.k_ANSWERS)
  t_ANSWERS : KTup K a.k_ANSWERS [.str ("ack" : Str), .str ("nak" : Str), .str ("stall" : Str)]
  g_MOST_DATA : mg "MOST_DATA" = some (.int 64 a.k_MOST_DATA)
  g_FRAME_ROOM : mg "FRAME_ROOM" = some (.int 1500 a.k_FRAME_ROOM)
  g_BEGINNING_ROOM : mg "BEGINNING_ROOM" = some (.int 6 a.k_BEGINNING_ROOM)
  g_TURN_ROOM : mg "TURN_ROOM" = some (.int 13 a.k_TURN_ROOM)
  g_FRAME_NUMBERS : mg "FRAME_NUMBERS" = some (.int 2048 a.k_FRAME_NUMBERS)
  g_TOKENS_journal : mg "TOKENS_journal" = some (.ref a.k_TOKENS_journal)
  t_TOKENS_journal : KTup K a.k_TOKENS_journal [.str ("out" : Str), .str ("in" : Str), .str ("setup" : Str)]
  g_FREE : mg "FREE" = some (.ref a.k_FREE)
  t_FREE : KTup K a.k_FREE [.ref a.k_FREE_0, .ref a.k_FREE_1, .ref a.k_FREE_2, .ref a.k_FREE_3]
  kt_FREE_0 : KTup K a.k_FREE_0 [.str ("host" : Str), .str ("frame" : Str)]
  kt_FREE_1 : KTup K a.k_FREE_1 [.str ("host" : Str), .str ("out" : Str)]
  kt_FREE_2 : KTup K a.k_FREE_2 [.str ("host" : Str), .str ("in" : Str)]
  kt_FREE_3 : KTup K a.k_FREE_3 [.str ("host" : Str), .str ("setup" : Str)]
  g_BEGINNING : mg "BEGINNING" = some (.ref a.k_BEGINNING)
  t_BEGINNING : KTup K a.k_BEGINNING [.ref a.k_BEGINNING_0]
  kt_BEGINNING_0 : KTup K a.k_BEGINNING_0 [.str ("host" : Str), .str ("frame" : Str)]
  g_BEHIND_OUT : mg "BEHIND_OUT" = some (.ref a.k_BEHIND_OUT)
  t_BEHIND_OUT : KTup K a.k_BEHIND_OUT [.ref a.k_BEHIND_OUT_0]
  kt_BEHIND_OUT_0 : KTup K a.k_BEHIND_OUT_0 [.str ("host" : Str), .str ("data" : Str)]
  g_ANSWERS_TO_PIECE : mg "ANSWERS_TO_PIECE" = some (.ref a.k_ANSWERS_TO_PIECE)
  t_ANSWERS_TO_PIECE : KTup K a.k_ANSWERS_TO_PIECE [.ref a.k_ANSWERS_TO_PIECE_0, .ref a.k_ANSWERS_TO_PIECE_1, .ref a.k_ANSWERS_TO_PIECE_2]
  kt_ANSWERS_TO_PIECE_0 : KTup K a.k_ANSWERS_TO_PIECE_0 [.str ("thing" : Str), .str ("ack" : Str)]
  kt_ANSWERS_TO_PIECE_1 : KTup K a.k_ANSWERS_TO_PIECE_1 [.str ("thing" : Str), .str ("nak" : Str)]
  kt_ANSWERS_TO_PIECE_2 : KTup K a.k_ANSWERS_TO_PIECE_2 [.str ("thing" : Str), .str ("stall" : Str)]
  g_ANSWERS_TO_IN : mg "ANSWERS_TO_IN" = some (.ref a.k_ANSWERS_TO_IN)
  t_ANSWERS_TO_IN : KTup K a.k_ANSWERS_TO_IN [.ref a.k_ANSWERS_TO_IN_0, .ref a.k_ANSWERS_TO_IN_1, .ref a.k_ANSWERS_TO_IN_2]
  kt_ANSWERS_TO_IN_0 : KTup K a.k_ANSWERS_TO_IN_0 [.str ("thing" : Str), .str ("data" : Str)]
  kt_ANSWERS_TO_IN_1 : KTup K a.k_ANSWERS_TO_IN_1 [.str ("thing" : Str), .str ("nak" : Str)]
  kt_ANSWERS_TO_IN_2 : KTup K a.k_ANSWERS_TO_IN_2 [.str ("thing" : Str), .str ("stall" : Str)]
  g_BEHIND_GIVEN : mg "BEHIND_GIVEN" = some (.ref a.k_BEHIND_GIVEN)
  t_BEHIND_GIVEN : KTup K a.k_BEHIND_GIVEN [.ref a.k_BEHIND_GIVEN_0]
  kt_BEHIND_GIVEN_0 : KTup K a.k_BEHIND_GIVEN_0 [.str ("host" : Str), .str ("ack" : Str)]
  n_all : mg "all" = none
  n_bool : mg "bool" = none
  n_enumerate : mg "enumerate" = none
  n_int : mg "int" = none
  n_isinstance : mg "isinstance" = none
  n_len : mg "len" = none
  n_list : mg "list" = none
  n_range : mg "range" = none
  n_str : mg "str" = none
  n_tuple : mg "tuple" = none
/-! ### the promises -/
def sp_is_number (K : PySem.W.Frag) (_ : Ad) : Sp := fun vs H Q _ => ∃ (v : V) (d : PyData) (lo hi : Int), vs = [v, .int lo, .int hi] ∧ Dp K H v d ∧ (∀ b, d ≠ .bool b) ∧ Q (.bl (isNum d lo hi)) H
def sp__law_bag (K : PySem.W.Frag) (_ : Ad) : Sp := fun vs H Q _ => ∃ (p : Addr) (cs : List Int), vs = [.ref p] ∧ SqL K H p (cs.map V.int) ∧ cs.length ≤ 63 ∧ ∀ q c H', H q = none → Ex H H' → Bag K c cs H' q → Q (.ref q) H'
def sp__law_pull (K : PySem.W.Frag) (_ : Ad) : Sp := fun vs H Q _ => ∃ (p c : Addr) (cs : List Int) (u : Int), vs = [.ref p, .int u] ∧ Bag K c cs H p ∧ 0 < u ∧ u < 2 ^ 1000 ∧
  ∀ r H', 0 ≤ r → r < u → Bag K c cs H' p → (∀ b, b ≠ p → H' b = H b) → Q (.int r) H'
def sp__law_whole (K : PySem.W.Frag) (_ : Ad) : Sp := fun vs H Q _ => ∃ (v : V) (d : PyData), vs = [v] ∧ Dp K H v d ∧ Q (.bl (isInt d)) H
def sp_same (n : Nat) (K : PySem.W.Frag) : Sp := fun vs H Q _ => ∃ (v w : V) (d : PyData), vs = [v, w] ∧ Dp K H v d ∧ Dp K H w d ∧ okD n d ∧ ∀ H', Ex H H' → Q (.bl true) H'
def sp__law_same (K : PySem.W.Frag) (_ : Ad) : Sp := sp_same 4 K
def spLaw (K : PySem.W.Frag) : Sp := fun vs H Q _ => ∃ (p : Addr) (cs : List Int), vs = [.ref p] ∧ SqL K H p (cs.map V.int) ∧ cs.length ≤ 63 ∧ ∀ H', Q (.bl true) H'
def sp_law (K : PySem.W.Frag) (_ : Ad) : Sp := spLaw K
def sp__law_one (K : PySem.W.Frag) (_ : Ad) : Sp := fun vs H Q _ => ∃ (p c : Addr) (cs : List Int) (q : Addr) (xs : List V), vs = [.ref p, .ref q] ∧ Bag K c cs H p ∧ SqL K (wo [p] H) q xs ∧ 0 < xs.length ∧ xs.length ≤ 1000 ∧
  ∀ x H', x ∈ xs → Bag K c cs H' p → (∀ b, b ≠ p → H' b = H b) → Q x H'
def sp_are_bytes (K : PySem.W.Frag) (_ : Ad) : Sp := fun vs H Q _ => ∃ (p : Addr) (ns : List Int), vs = [.ref p] ∧ SqT K H p (ns.map V.int) ∧ ns.length ≤ 1000 ∧ ∀ H', Ex H H' → Q (.bl (ns.all byteN)) H'
def sp_is_token (K : PySem.W.Frag) (_ : Ad) : Sp := fun vs H Q _ => ∃ (v : V) (ds : List PyData), vs = [v] ∧ Dp K H v (.tuple ds) ∧ Shape ds ∧ Q (.bl (isTokD ds)) H
def sp_is_frame (K : PySem.W.Frag) (_ : Ad) : Sp := fun vs H Q _ => ∃ (v : V) (ds : List PyData), vs = [v] ∧ Dp K H v (.tuple ds) ∧ Shape ds ∧ Q (.bl (isFrmD ds)) H
def sp_is_piece (K : PySem.W.Frag) (_ : Ad) : Sp := fun vs H Q _ => ∃ (v : V) (x : Arg), vs = [v] ∧ Dp K H v x.d ∧ (∀ ns, x = .byt ns → ns.length ≤ 1000) ∧ ∀ H', Ex H H' → Q (.bl (isPcD x.d)) H'
def sp_is_data (K : PySem.W.Frag) (_ : Ad) : Sp := fun vs H Q _ => ∃ (v : V) (ds : List PyData), vs = [v] ∧ Dp K H v (.tuple ds) ∧ Shape ds ∧ Small ds ∧ ∀ H', Ex H H' → Q (.bl (isDatD ds)) H'
def sp_is_answer (K : PySem.W.Frag) (_ : Ad) : Sp := fun vs H Q _ => ∃ (v : V) (ds : List PyData), vs = [v] ∧ Dp K H v (.tuple ds) ∧ Shape ds ∧ Q (.bl (isAnsD ds)) H
def isPkD (ds : List PyData) : Bool := isTokD ds || (isFrmD ds || (isDatD ds || isAnsD ds))
def sp_is_packet (K : PySem.W.Frag) (_ : Ad) : Sp := fun vs H Q _ => ∃ (v : V) (ds : List PyData), vs = [v] ∧ Dp K H v (.tuple ds) ∧ Shape ds ∧ Small ds ∧ ∀ H', Ex H H' → Q (.bl (isPkD ds)) H'
/-! ### journals -/
structure Jr where
  fr : Int
  who : Str
  w : Str
  args : List Arg
  came : Bool
def who4 : List Str := ["host", "thing", "", "hub"]
def odd4 : List Str := ["ack", "", "stall", "token"]
def w8 : List Str := ["out", "in", "setup", "frame", "data", "ack", "nak", "stall"]
/-- the packets of a journal that is made up or spoilt -/
inductive JP : Str → List Arg → Prop
  | tok (w : Str) (i j : Int) : w ∈ tokW → JP w [.int i, .int j]
  | frm (i : Int) : JP "frame" [.int i]
  | dat (i : Int) (ns : List Int) : ns.length ≤ 9 → ns.all byteN = true → JP "data" [.int i, .byt ns]
  | ans (w : Str) : w ∈ ansW → JP w []
  | odd0 (w : Str) : w ∈ odd4 → JP w []
  | odd1 (w : Str) (i : Int) : w ∈ odd4 → JP w [.int i]
  | odd2 (w : Str) (i j : Int) : w ∈ odd4 → JP w [.int i, .int j]
  | odd3 (w : Str) (i : Int) (ns : List Int) : w ∈ odd4 → ns.length ≤ 9 → ns.all byteN = true → JP w [.int i, .byt ns]
def pkD (w : Str) (args : List Arg) : List PyData := .str w :: args.map Arg.d
def Jr.d (r : Jr) : PyData := .tuple [.int r.fr, .str r.who, .tuple (pkD r.w r.args), .bool r.came]
def Jr.wd (r : Jr) : Prop := r.who ∈ who4 ∧ JP r.w r.args
def rowsD (rs : List Jr) : PyData := .list (rs.map Jr.d)
def prD (p : Str × Str) : PyData := .tuple [.str p.1, .str p.2]
def prsD (ps : List (Str × Str)) : PyData := .tuple (ps.map prD)
def may0 : List (Str × Str) := [("host", "frame")]
def freeL : List (Str × Str) := [("host", "frame"), ("host", "out"), ("host", "in"), ("host", "setup")]
def behK (k : Nat) : List (Str × Str) := match k with
  | 0 => [("host", "data")]
  | 1 => freeL
  | 2 => freeL ++ ([("thing", "data"), ("thing", "nak"), ("thing", "stall")] : List (Str × Str))
  | 3 => freeL ++ ([("thing", "ack"), ("thing", "nak"), ("thing", "stall")] : List (Str × Str))
  | _ => [("host", "ack")]
def kdJ (w who : Str) (came : Bool) : Nat := if w ∈ [("out" : Str), "setup"] then 0 else if came = false then 1 else if w = "in" then 2 else if w = "data" then (if who = "host" then 3 else 4) else 1
def behP (r : Jr) : List (Str × Str) := behK (kdJ r.w r.who r.came)
def lenA (args : List Arg) : Int := match args with
  | [_, .byt ns] => ns.length
  | _ => 0
def arg1 (args : List Arg) : Int := match args with
  | .int i :: _ => i
  | _ => 0
def roomP (room : Int) (w : Str) (args : List Arg) : Int := if w = "frame" then 6 else if w ∈ tokW then room + 13 else if w = "data" then room + lenA args else room
def numP (r : Jr) (ahead : Int) : Bool := if r.w ≠ "frame" then decide (r.fr = ahead) else if r.fr < 0 ∨ arg1 r.args ≠ r.fr % 2048 then false else decide (ahead < 0) || decide (r.fr = ahead + 1)
def okP (may : List (Str × Str)) (ahead : Int) (r : Jr) : Bool := decide ((r.who, r.w) ∈ may) && (isPkD (pkD r.w r.args) && numP r ahead)
def fwP : List (Str × Str) → Int → Int → List Jr → Nat → Int
  | _, _, _, [], _ => -1
  | may, ahead, room, r :: rs, k => if okP may ahead r = true then (if 1500 < roomP room r.w r.args then (k : Int) else fwP (behP r) r.fr (roomP room r.w r.args) rs (k + 1)) else (k : Int)
def sp_said_behind (K : PySem.W.Frag) (_ : Ad) : Sp := fun vs H Q _ => ∃ (v : V) (r : Jr), vs = [v] ∧ Dp K H v r.d ∧ ∀ t H', Ex H H' → Dp K H' t (prsD (behP r)) → Q t H'
def sp_is_numbered (K : PySem.W.Frag) (_ : Ad) : Sp := fun vs H Q _ => ∃ (v : V) (r : Jr) (ahead : Int), vs = [v, .int ahead] ∧ Dp K H v r.d ∧ JP r.w r.args ∧ Q (.bl (numP r ahead)) H
def sp_room_behind (K : PySem.W.Frag) (_ : Ad) : Sp := fun vs H Q _ => ∃ (v : V) (room : Int) (w : Str) (args : List Arg), vs = [.int room, v] ∧ Dp K H v (.tuple (pkD w args)) ∧ JP w args ∧ Q (.int (roomP room w args)) H
def sp_first_wrong (K : PySem.W.Frag) (_ : Ad) : Sp := fun vs H Q _ => ∃ (v : V) (rs : List Jr), vs = [v] ∧ Dp K H v (rowsD rs) ∧ (∀ r ∈ rs, r.wd) ∧ ∀ H', Ex H H' → Q (.int (fwP may0 (-1) 0 rs 0)) H'
def sayS (who w : Str) : Str := who ++ " " ++ w
def startsS : List Str := ["host frame", "host in", "host out", "host setup"]
def aftK (k : Nat) : List Str := match k with
  | 0 => ["host data"]
  | 1 => startsS
  | 2 => startsS ++ (["thing data", "thing nak", "thing stall"] : List Str)
  | 3 => startsS ++ (["thing ack", "thing nak", "thing stall"] : List Str)
  | _ => ["host ack"]
def kdL (w who : Str) (came : Bool) : Nat := if w ∈ [("out" : Str), "setup"] then 0 else if w = "in" ∧ came = true then 2 else if w = "data" ∧ came = true then (if who = "thing" then 4 else 3) else 1
def spk (w : Str) : List Str := if w = "data" ∨ w = "ack" then ["host", "thing"] else if w = "nak" ∨ w = "stall" then ["thing"] else ["host"]
def frmJ (r : Jr) : Bool := if r.w = "frame" then decide (arg1 r.args = r.fr % 2048) else true
def shL (r : Jr) : Bool := decide (0 ≤ r.fr) && (isPkD (pkD r.w r.args) && (decide (r.who ∈ spk r.w) && frmJ r))
def prevOk (o : Option Jr) (r : Jr) : Bool := match o with
  | none => decide (r.w = "frame")
  | some p => decide (sayS r.who r.w ∈ aftK (kdL p.w p.who p.came)) && decide (r.fr = p.fr + if r.w = "frame" then 1 else 0)
def fwL : Option Jr → Int → List Jr → Nat → Int
  | _, _, [], _ => -1
  | o, room, r :: rs, k => if (shL r && prevOk o r) = true then (if 1500 < roomP room r.w r.args then (k : Int) else fwL (some r) (roomP room r.w r.args) rs (k + 1)) else (k : Int)
def sp__law_after (K : PySem.W.Frag) (_ : Ad) : Sp := fun vs H Q _ => ∃ (v : V) (r : Jr), vs = [v] ∧ Dp K H v r.d ∧ ∀ l H', Ex H H' → H' l = some (.lst ((aftK (kdL r.w r.who r.came)).map V.str)) → Q (.ref l) H'
def sp__law_shape (K : PySem.W.Frag) (_ : Ad) : Sp := fun vs H Q _ => ∃ (v : V) (r : Jr), vs = [v] ∧ Dp K H v r.d ∧ r.wd ∧ ∀ H', Ex H H' → Q (.bl (shL r)) H'
def sp__law_wrong (K : PySem.W.Frag) (_ : Ad) : Sp := fun vs H Q _ => ∃ (v : V) (rs : List Jr), vs = [v] ∧ Dp K H v (rowsD rs) ∧ (∀ r ∈ rs, r.wd) ∧ ∀ H', Ex H H' → Q (.int (fwL none 0 rs 0)) H'
/-- a list of rows, none of it in the bag -/
def LD (K : PySem.W.Frag) (B : Addr) (H : Hp) (v : V) (rs : List Jr) : Prop := ∃ b xs, v = .ref b ∧ b ≠ B ∧ H b = some (.lst xs) ∧ DpAll K (wo [B] H) xs (rs.map Jr.d)
def RowsTo (K : PySem.W.Frag) (c : Addr) (cs : List Int) (B : Addr) (n : Nat) (H : Hp) (Q : VK) : Prop := ∀ v (rs : List Jr) H', rs.length ≤ n → (∀ r ∈ rs, r.wd) → Bag K c cs H' B → Ex (wo [B] H) (wo [B] H') → LD K B H' v rs → Q v H'
def sp__law_bytes (K : PySem.W.Frag) (_ : Ad) : Sp := fun vs H Q _ => ∃ (p c : Addr) (cs : List Int) (u : Int), vs = [.ref p, .int u] ∧ Bag K c cs H p ∧ 0 ≤ u ∧ u ≤ 900 ∧
  ∀ (t : Addr) (ns : List Int) (H' : Hp), (ns.length : Int) ≤ u → ns.all byteN = true → Bag K c cs H' p → Ex (wo [p] H) (wo [p] H') → SqT K (wo [p] H') t (ns.map V.int) → Q (.ref t) H'
def sp__law_turn (K : PySem.W.Frag) (_ : Ad) : Sp := fun vs H Q _ => ∃ (B c : Addr) (cs : List Int) (f : Int), vs = [.ref B, .int f] ∧ Bag K c cs H B ∧ RowsTo K c cs B 3 H Q
def sp__law_made (K : PySem.W.Frag) (_ : Ad) : Sp := fun vs H Q _ => ∃ (B c : Addr) (cs : List Int), vs = [.ref B] ∧ Bag K c cs H B ∧ RowsTo K c cs B 1000 H Q
def sp__law_bent (K : PySem.W.Frag) (_ : Ad) : Sp := fun vs H Q _ => ∃ (B c : Addr) (cs : List Int) (v : V) (rs : List Jr), vs = [.ref B, v] ∧ Bag K c cs H B ∧ LD K B H v rs ∧ (∀ r ∈ rs, r.wd) ∧ rs.length ≤ 2000 ∧ RowsTo K c cs B (rs.length + 1) H Q
/-! ### is_number -/
abbrev N_is_number : List Str := ["value", "low", "high"]
abbrev P_is_number : List Str := ["value", "low", "high"]
theorem sc_is_number : FnScope N_is_number P_is_number (defScope s_is_number) := ⟨rfl, rfl, rfl, by decide +kernel, rfl, by decide +kernel, by decide +kernel⟩
def t_is_number (K : PySem.W.Frag) (a : Ad) : TS :=
    (tRet (tAndV (tCB (rIsi K) (tCons (tVar 0) (tCons (tC (.ty "int")) tNil))) (tChain rLeI rLeI (tVar 1) (tVar 0) (tVar 2))))
/-! ### are_bytes -/
abbrev N_are_bytes : List Str := ["data", "value"]
abbrev P_are_bytes : List Str := ["data"]
theorem sc_are_bytes : FnScope N_are_bytes P_are_bytes (defScope s_are_bytes) := ⟨rfl, rfl, rfl, by decide +kernel, rfl, by decide +kernel, by decide +kernel⟩
def t_are_bytes (K : PySem.W.Frag) (a : Ad) : TS :=
    (tRet (tCB (rAll K) (tCons (tLc (iTup K (tVar 0)) (gName 1) tYes (tCall (sp_is_number K a) [] E0 (tCons (tVar 1) (tCons (tC (.int 0)) (tCons (tC (.int 255)) tNil)))) [1]) tNil)))
/-! ### is_token -/
abbrev N_is_token : List Str := ["packet"]
abbrev P_is_token : List Str := ["packet"]
theorem sc_is_token : FnScope N_is_token P_is_token (defScope s_is_token) := ⟨rfl, rfl, rfl, by decide +kernel, rfl, by decide +kernel, by decide +kernel⟩
def t_is_token (K : PySem.W.Frag) (a : Ad) : TS :=
    (tSeq (tIfS (tOr (tTest (tOp rNe (tCB (rLenQ K) (tCons (tVar 0) tNil)) (tC (.int 3)))) (tTest (tOp (rIn K true) (tOp (rIxT K) (tVar 0) (tC (.int 0))) (tC (.ref a.k_TOKENS_packets))))) (tRet (tC (.bl false))) tNext)
    (tRet (tAndV (tCall (sp_is_number K a) [] E0 (tCons (tOp (rIxT K) (tVar 0) (tC (.int 1))) (tCons (tC (.int 0)) (tCons (tC (.int 127)) tNil)))) (tCall (sp_is_number K a) [] E0 (tCons (tOp (rIxT K) (tVar 0) (tC (.int 2))) (tCons (tC (.int 0)) (tCons (tC (.int 15)) tNil)))))))
/-! ### is_frame -/
abbrev N_is_frame : List Str := ["packet"]
abbrev P_is_frame : List Str := ["packet"]
theorem sc_is_frame : FnScope N_is_frame P_is_frame (defScope s_is_frame) := ⟨rfl, rfl, rfl, by decide +kernel, rfl, by decide +kernel, by decide +kernel⟩
def t_is_frame (K : PySem.W.Frag) (a : Ad) : TS :=
    (tRet (tAndV (tOp rEq (tCB (rLenQ K) (tCons (tVar 0) tNil)) (tC (.int 2))) (tAndV (tOp rEq (tOp (rIxT K) (tVar 0) (tC (.int 0))) (tC (.str ("frame" : Str)))) (tCall (sp_is_number K a) [] E0 (tCons (tOp (rIxT K) (tVar 0) (tC (.int 1))) (tCons (tC (.int 0)) (tCons (tC (.int 2047)) tNil)))))))
/-! ### is_piece -/
abbrev N_is_piece : List Str := ["value"]
abbrev P_is_piece : List Str := ["value"]
theorem sc_is_piece : FnScope N_is_piece P_is_piece (defScope s_is_piece) := ⟨rfl, rfl, rfl, by decide +kernel, rfl, by decide +kernel, by decide +kernel⟩
def t_is_piece (K : PySem.W.Frag) (a : Ad) : TS :=
    (tRet (tAndV (tCB (rIsi K) (tCons (tVar 0) (tCons (tC (.ty "tuple")) tNil))) (tAndV (tOp rLeI (tCB (rLenQ K) (tCons (tVar 0) tNil)) (tC (.int 64))) (tCall (sp_are_bytes K a) [] E0 (tCons (tVar 0) tNil)))))
/-! ### is_data -/
abbrev N_is_data : List Str := ["packet"]
abbrev P_is_data : List Str := ["packet"]
theorem sc_is_data : FnScope N_is_data P_is_data (defScope s_is_data) := ⟨rfl, rfl, rfl, by decide +kernel, rfl, by decide +kernel, by decide +kernel⟩
def t_is_data (K : PySem.W.Frag) (a : Ad) : TS :=
    (tSeq (tIfS (tOr (tTest (tOp rNe (tCB (rLenQ K) (tCons (tVar 0) tNil)) (tC (.int 3)))) (tTest (tOp rNe (tOp (rIxT K) (tVar 0) (tC (.int 0))) (tC (.str ("data" : Str)))))) (tRet (tC (.bl false))) tNext)
    (tRet (tAndV (tCall (sp_is_number K a) [] E0 (tCons (tOp (rIxT K) (tVar 0) (tC (.int 1))) (tCons (tC (.int 0)) (tCons (tC (.int 1)) tNil)))) (tCall (sp_is_piece K a) [] E0 (tCons (tOp (rIxT K) (tVar 0) (tC (.int 2))) tNil)))))
/-! ### is_answer -/
abbrev N_is_answer : List Str := ["packet"]
abbrev P_is_answer : List Str := ["packet"]
theorem sc_is_answer : FnScope N_is_answer P_is_answer (defScope s_is_answer) := ⟨rfl, rfl, rfl, by decide +kernel, rfl, by decide +kernel, by decide +kernel⟩
def t_is_answer (K : PySem.W.Frag) (a : Ad) : TS :=
    (tRet (tAndV (tOp rEq (tCB (rLenQ K) (tCons (tVar 0) tNil)) (tC (.int 1))) (tOp (rIn K false) (tOp (rIxT K) (tVar 0) (tC (.int 0))) (tC (.ref a.k_ANSWERS)))))
/-! ### is_packet -/
abbrev N_is_packet : List Str := ["packet"]
abbrev P_is_packet : List Str := ["packet"]
theorem sc_is_packet : FnScope N_is_packet P_is_packet (defScope s_is_packet) := ⟨rfl, rfl, rfl, by decide +kernel, rfl, by decide +kernel, by decide +kernel⟩
def t_is_packet (K : PySem.W.Frag) (a : Ad) : TS :=
    (tRet (tOrV (tCall (sp_is_token K a) [] E0 (tCons (tVar 0) tNil)) (tOrV (tCall (sp_is_frame K a) [] E0 (tCons (tVar 0) tNil)) (tOrV (tCall (sp_is_data K a) [] E0 (tCons (tVar 0) tNil)) (tCall (sp_is_answer K a) [] E0 (tCons (tVar 0) tNil))))))
/-! ### said_behind -/
abbrev N_said_behind : List Str := ["row", "_", "speaker", "packet", "came", "word"]
abbrev P_said_behind : List Str := ["row"]
theorem sc_said_behind : FnScope N_said_behind P_said_behind (defScope s_said_behind) := ⟨rfl, rfl, rfl, by decide +kernel, rfl, by decide +kernel, by decide +kernel⟩
def t_said_behind (K : PySem.W.Frag) (a : Ad) : TS :=
    (tSeq (tAsg (tVar 0) (gTup K 4 (gCons (gName 1) (gCons (gName 2) (gCons (gName 3) (gCons (gName 4) gNil))))))
    (tSeq (tAsg (tOp (rIxT K) (tVar 3) (tC (.int 0))) (gName 5))
    (tSeq (tIfS (tTest (tOp (rIn K false) (tVar 5) (tTup (tCons (tC (.str ("out" : Str))) (tCons (tC (.str ("setup" : Str))) tNil))))) (tRet (tC (.ref a.k_BEHIND_OUT))) tNext)
    (tSeq (tIfS (tNot (tB (tVar 4))) (tRet (tC (.ref a.k_FREE))) tNext)
    (tSeq (tIfS (tTest (tOp rEq (tVar 5) (tC (.str ("in" : Str))))) (tRet (tOp (rCatA K) (tC (.ref a.k_FREE)) (tC (.ref a.k_ANSWERS_TO_IN)))) tNext)
    (tSeq (tIfS (tTest (tOp rEq (tVar 5) (tC (.str ("data" : Str))))) (tRet (tIf (tTest (tOp rEq (tVar 2) (tC (.str ("host" : Str))))) (tOp (rCatA K) (tC (.ref a.k_FREE)) (tC (.ref a.k_ANSWERS_TO_PIECE))) (tC (.ref a.k_BEHIND_GIVEN)))) tNext)
    (tRet (tC (.ref a.k_FREE)))))))))
/-! ### is_numbered -/
abbrev N_is_numbered : List Str := ["row", "ahead", "frame", "_", "packet"]
abbrev P_is_numbered : List Str := ["row", "ahead"]
theorem sc_is_numbered : FnScope N_is_numbered P_is_numbered (defScope s_is_numbered) := ⟨rfl, rfl, rfl, by decide +kernel, rfl, by decide +kernel, by decide +kernel⟩
def t_is_numbered (K : PySem.W.Frag) (a : Ad) : TS :=
    (tSeq (tAsg (tVar 0) (gTup K 4 (gCons (gName 2) (gCons (gName 3) (gCons (gName 4) (gCons (gName 3) gNil))))))
    (tSeq (tIfS (tTest (tOp rNe (tOp (rIxT K) (tVar 4) (tC (.int 0))) (tC (.str ("frame" : Str))))) (tRet (tOp rEq (tVar 2) (tVar 1))) tNext)
    (tSeq (tIfS (tOr (tTest (tOp rLtI (tVar 2) (tC (.int 0)))) (tTest (tOp rNe (tOp (rIxT K) (tVar 4) (tC (.int 1))) (tOp rModI (tVar 2) (tC (.int 2048)))))) (tRet (tC (.bl false))) tNext)
    (tRet (tOrV (tOp rLtI (tVar 1) (tC (.int 0))) (tOp rEq (tVar 2) (tOp rAddI (tVar 1) (tC (.int 1)))))))))
/-! ### room_behind -/
abbrev N_room_behind : List Str := ["room", "packet"]
abbrev P_room_behind : List Str := ["room", "packet"]
theorem sc_room_behind : FnScope N_room_behind P_room_behind (defScope s_room_behind) := ⟨rfl, rfl, rfl, by decide +kernel, rfl, by decide +kernel, by decide +kernel⟩
def t_room_behind (K : PySem.W.Frag) (a : Ad) : TS :=
    (tSeq (tIfS (tTest (tOp rEq (tOp (rIxT K) (tVar 1) (tC (.int 0))) (tC (.str ("frame" : Str))))) (tRet (tC (.int 6))) tNext)
    (tSeq (tIfS (tTest (tOp (rIn K false) (tOp (rIxT K) (tVar 1) (tC (.int 0))) (tC (.ref a.k_TOKENS_journal)))) (tRet (tOp rAddI (tVar 0) (tC (.int 13)))) tNext)
    (tSeq (tIfS (tTest (tOp rEq (tOp (rIxT K) (tVar 1) (tC (.int 0))) (tC (.str ("data" : Str))))) (tRet (tOp rAddI (tVar 0) (tCB (rLenQ K) (tCons (tOp (rIxT K) (tVar 1) (tC (.int 2))) tNil)))) tNext)
    (tRet (tVar 0)))))
/-! ### first_wrong -/
abbrev N_first_wrong : List Str := ["rows", "may_be_said", "frame", "room", "at", "row", "packet"]
abbrev P_first_wrong : List Str := ["rows"]
theorem sc_first_wrong : FnScope N_first_wrong P_first_wrong (defScope s_first_wrong) := ⟨rfl, rfl, rfl, by decide +kernel, rfl, by decide +kernel, by decide +kernel⟩
def t_first_wrong (K : PySem.W.Frag) (a : Ad) : TS :=
    (tSeq (tAsg (tC (.ref a.k_BEGINNING)) (gName 1))
    (tSeq (tAsg (tUn rNegI (tC (.int 1))) (gName 2))
    (tSeq (tAsg (tC (.int 0)) (gName 3))
    (tSeq (tFor (iEnum K (tCons (tVar 0) tNil)) (gTup K 2 (gCons (gName 4) (gCons (gName 5) gNil))) (tSeq (tAsg (tOp (rIxT K) (tVar 5) (tC (.int 2))) (gName 6))
    (tSeq (tIfS (tOr (tTest (tOp (rNotInDT K) (tTup (tCons (tOp (rIxT K) (tVar 5) (tC (.int 1))) (tCons (tOp (rIxT K) (tVar 6) (tC (.int 0))) tNil))) (tVar 1))) (tOr (tNot (tB (tCall (sp_is_packet K a) [] E0 (tCons (tVar 6) tNil)))) (tNot (tB (tCall (sp_is_numbered K a) [] E0 (tCons (tVar 5) (tCons (tVar 2) tNil))))))) (tRet (tVar 4)) tNext)
    (tSeq (tAsg (tCall (sp_room_behind K a) [] E0 (tCons (tVar 3) (tCons (tVar 6) tNil))) (gName 3))
    (tSeq (tIfS (tTest (tOp rGtI (tVar 3) (tC (.int 1500)))) (tRet (tVar 4)) tNext)
    (tSeq (tAsg (tCall (sp_said_behind K a) [] E0 (tCons (tVar 5) tNil)) (gName 1))
    (tAsg (tOp (rIxT K) (tVar 5) (tC (.int 0))) (gName 2))))))))
    (tRet (tUn rNegI (tC (.int 1))))))))
/-! ### _law_bag -/
abbrev N__law_bag : List Str := ["_law_script", "_law_cells", "_law_knot", "_law_cell"]
abbrev P__law_bag : List Str := ["_law_script"]
theorem sc__law_bag : FnScope N__law_bag P__law_bag (defScope s__law_bag) := ⟨rfl, rfl, rfl, by decide +kernel, rfl, by decide +kernel, by decide +kernel⟩
def t__law_bag (K : PySem.W.Frag) (a : Ad) : TS :=
    (tSeq (tAsg (tCB (rListOf K) (tCons (tSl (rSlL K) (tVar 0) tNoPart (tPart (tC (.int 63)))) tNil)) (gName 1))
    (tSeq (tAsg (tOp rAddI (tC (.int 17)) (tCB (rLenQ K) (tCons (tVar 1) tNil))) (gName 2))
    (tSeq (tFor (iList K (tVar 1)) (gName 3) (tAsg (tOp rModI (tOp rAddI (tOp rMulI (tVar 2) (tC (.int 1543))) (tVar 3)) (tC (.int 2147483629))) (gName 2)))
    (tRet (tLst (tCons (tVar 1) (tCons (tC (.int 0)) (tCons (tC (.int 0)) (tCons (tVar 2) tNil)))))))))
/-! ### _law_pull -/
abbrev N__law_pull : List Str := ["_law_bag_here", "_law_upto", "_law_seed", "_law_fold", "_law_twist", "_law_drawn"]
abbrev P__law_pull : List Str := ["_law_bag_here", "_law_upto"]
theorem sc__law_pull : FnScope N__law_pull P__law_pull (defScope s__law_pull) := ⟨rfl, rfl, rfl, by decide +kernel, rfl, by decide +kernel, by decide +kernel⟩
def t__law_pull (K : PySem.W.Frag) (a : Ad) : TS :=
    (tSeq (tIfS (tTest (tOp rLtI (tOp (rIxL K) (tVar 0) (tC (.int 2))) (tC (.int 2)))) (tSeq (tAsg (tOp rAddI (tOp (rIxL K) (tVar 0) (tC (.int 1))) (tC (.int 1))) (gSub (tVar 0) (tC (.int 1)) rSetL))
    (tSeq (tAsg (tOp rAddI (tOp (rIxL K) (tVar 0) (tC (.int 3))) (tOp rMulI (tOp (rIxL K) (tVar 0) (tC (.int 1))) (tC (.int 7919)))) (gName 2))
    (tSeq (tIfS (tTest (tOp rLeI (tOp (rIxL K) (tVar 0) (tC (.int 1))) (tCB (rLenQ K) (tCons (tOp (rIxL K) (tVar 0) (tC (.int 0))) tNil)))) (tAsg (tOp (rIxL K) (tOp (rIxL K) (tVar 0) (tC (.int 0))) (tOp rSubI (tOp (rIxL K) (tVar 0) (tC (.int 1))) (tC (.int 1)))) (gName 2)) tNext)
    (tSeq (tIfS (tOr (tTest (tOp rGtI (tOp (rIxL K) (tVar 0) (tC (.int 1))) (tCB (rLenQ K) (tCons (tOp (rIxL K) (tVar 0) (tC (.int 0))) tNil)))) (tTest (tOp rLtI (tVar 2) (tOp rPowI (tC (.int 10)) (tC (.int 18)))))) (tSeq (tAsg (tOp rModI (tOp rAddI (tOp rAddI (tOp rMulI (tVar 2) (tC (.int 48271))) (tOp rMulI (tOp (rIxL K) (tVar 0) (tC (.int 1))) (tC (.int 40692)))) (tOp (rIxL K) (tVar 0) (tC (.int 3)))) (tC (.int 2147483647))) (gName 3))
    (tSeq (tAsg (tOp rModI (tOp rAddI (tOp rMulI (tVar 3) (tVar 3)) (tOp (rIxL K) (tVar 0) (tC (.int 1)))) (tC (.int 998244353))) (gName 4))
    (tRet (tOp rModI (tOp rDivW (tOp rModI (tOp rAddI (tOp rMulI (tVar 4) (tC (.int 69621))) (tVar 3)) (tC (.int 2147483629))) (tC (.int 7))) (tVar 1))))) tNext)
    (tAsg (tVar 2) (gSub (tVar 0) (tC (.int 2)) rSetL)))))) tNext)
    (tSeq (tAsg (tOp rModI (tOp (rIxL K) (tVar 0) (tC (.int 2))) (tVar 1)) (gName 5))
    (tSeq (tAsg (tOp rDivW (tOp (rIxL K) (tVar 0) (tC (.int 2))) (tVar 1)) (gSub (tVar 0) (tC (.int 2)) rSetL))
    (tRet (tVar 5)))))
/-! ### _law_whole -/
abbrev N__law_whole : List Str := ["_law_found"]
abbrev P__law_whole : List Str := ["_law_found"]
theorem sc__law_whole : FnScope N__law_whole P__law_whole (defScope s__law_whole) := ⟨rfl, rfl, rfl, by decide +kernel, rfl, by decide +kernel, by decide +kernel⟩
def t__law_whole (K : PySem.W.Frag) (a : Ad) : TS :=
    (tRet (tAndV (tCB (rIsi K) (tCons (tVar 0) (tCons (tC (.ty "int")) tNil))) (tNotV (tCB (rIsi K) (tCons (tVar 0) (tCons (tC (.ty "bool")) tNil))))))
/-! ### _law_same -/
abbrev N__law_same : List Str := ["_law_found", "_law_due", "_law_spot"]
abbrev P__law_same : List Str := ["_law_found", "_law_due"]
theorem sc__law_same : FnScope N__law_same P__law_same (defScope s__law_same) := ⟨rfl, rfl, rfl, by decide +kernel, rfl, by decide +kernel, by decide +kernel⟩
def t__law_same (K : PySem.W.Frag) (a : Ad) (spR : Sp) : TS :=
    (tSeq (tIfS (tTest (tOp rIsN (tVar 1) (tC .non))) (tRet (tOp rIsN (tVar 0) (tC .non))) tNext)
    (tSeq (tIfS (tB (tCB (rIsi K) (tCons (tVar 1) (tCons (tC (.ty "bool")) tNil)))) (tRet (tAndV (tCB (rIsi K) (tCons (tVar 0) (tCons (tC (.ty "bool")) tNil))) (tOp rEq (tVar 0) (tVar 1)))) tNext)
    (tSeq (tIfS (tB (tCB (rIsi K) (tCons (tVar 1) (tCons (tC (.ty "int")) tNil)))) (tRet (tAndV (tCall (sp__law_whole K a) [] E0 (tCons (tVar 0) tNil)) (tOp rEq (tVar 0) (tVar 1)))) tNext)
    (tSeq (tIfS (tB (tCB (rIsi K) (tCons (tVar 1) (tCons (tC (.ty "str")) tNil)))) (tRet (tAndV (tCB (rIsi K) (tCons (tVar 0) (tCons (tC (.ty "str")) tNil))) (tOp rEq (tVar 0) (tVar 1)))) tNext)
    (tSeq (tIfS (tOr (tTest (tOp rNe (tCB (rIsi K) (tCons (tVar 1) (tCons (tC (.ty "list")) tNil))) (tCB (rIsi K) (tCons (tVar 0) (tCons (tC (.ty "list")) tNil))))) (tTest (tOp rNe (tCB (rIsi K) (tCons (tVar 1) (tCons (tC (.ty "tuple")) tNil))) (tCB (rIsi K) (tCons (tVar 0) (tCons (tC (.ty "tuple")) tNil)))))) (tRet (tC (.bl false))) tNext)
    (tSeq (tIfS (tTest (tOp rNe (tCB (rLenQ K) (tCons (tVar 0) tNil)) (tCB (rLenQ K) (tCons (tVar 1) tNil)))) (tRet (tC (.bl false))) tNext)
    (tRet (tCB (rAll K) (tCons (tLc (iRng1 (tCons (tCB (rLenQ K) (tCons (tVar 1) tNil)) tNil)) (gName 2) tYes (tCall spR [] E0 (tCons (tOp (rIx K) (tVar 0) (tVar 2)) (tCons (tOp (rIx K) (tVar 1) (tVar 2)) tNil))) [2]) tNil)))))))))
/-! ### _law_one -/
abbrev N__law_one : List Str := ["_law_bag_here", "_law_row"]
abbrev P__law_one : List Str := ["_law_bag_here", "_law_row"]
theorem sc__law_one : FnScope N__law_one P__law_one (defScope s__law_one) := ⟨rfl, rfl, rfl, by decide +kernel, rfl, by decide +kernel, by decide +kernel⟩
def t__law_one (K : PySem.W.Frag) (a : Ad) : TS :=
    (tRet (tOp (rIxL K) (tVar 1) (tCall (sp__law_pull K a) [] E0 (tCons (tVar 0) (tCons (tCB (rLenQ K) (tCons (tVar 1) tNil)) tNil)))))
/-! ### _law_bytes -/
abbrev N__law_bytes : List Str := ["_law_bag_here", "_law_most", "_law_many", "_law_k"]
abbrev P__law_bytes : List Str := ["_law_bag_here", "_law_most"]
theorem sc__law_bytes : FnScope N__law_bytes P__law_bytes (defScope s__law_bytes) := ⟨rfl, rfl, rfl, by decide +kernel, rfl, by decide +kernel, by decide +kernel⟩
def t__law_bytes (K : PySem.W.Frag) (a : Ad) : TS :=
    (tSeq (tAsg (tCall (sp__law_pull K a) [] E0 (tCons (tVar 0) (tCons (tOp rAddI (tVar 1) (tC (.int 1))) tNil))) (gName 2))
    (tSeq (tIfS (tTest (tOp rEq (tCall (sp__law_pull K a) [] E0 (tCons (tVar 0) (tCons (tC (.int 4)) tNil))) (tC (.int 0)))) (tRet (tOp (rRepT2 K) (tTup (tCons (tCall (sp__law_pull K a) [] E0 (tCons (tVar 0) (tCons (tC (.int 256)) tNil))) tNil)) (tVar 2))) tNext)
    (tRet (tCB (rTupleOf K) (tCons (tLc (iRng1 (tCons (tVar 2) tNil)) (gName 3) tYes (tCall (sp__law_pull K a) [] E0 (tCons (tVar 0) (tCons (tC (.int 256)) tNil))) [3]) tNil)))))
/-! ### _law_turn -/
abbrev N__law_turn : List Str := ["_law_bag_here", "_law_frame", "_law_number", "_law_endpoint", "_law_came", "_law_rows", "_law_reply", "_law_there"]
abbrev P__law_turn : List Str := ["_law_bag_here", "_law_frame"]
theorem sc__law_turn : FnScope N__law_turn P__law_turn (defScope s__law_turn) := ⟨rfl, rfl, rfl, by decide +kernel, rfl, by decide +kernel, by decide +kernel⟩
def t__law_turn (K : PySem.W.Frag) (a : Ad) : TS :=
    (tSeq (tPar 2 3 (tCons (tCall (sp__law_pull K a) [] E0 (tCons (tVar 0) (tCons (tC (.int 16)) tNil))) (tCons (tCall (sp__law_pull K a) [] E0 (tCons (tVar 0) (tCons (tC (.int 8)) tNil))) tNil)))
    (tSeq (tAsg (tOp rGtI (tCall (sp__law_pull K a) [] E0 (tCons (tVar 0) (tCons (tC (.int 3)) tNil))) (tC (.int 0))) (gName 4))
    (tSeq (tIfS (tTest (tOp rEq (tCall (sp__law_pull K a) [] E0 (tCons (tVar 0) (tCons (tC (.int 2)) tNil))) (tC (.int 0)))) (tSeq (tAsg (tLst (tCons (tTup (tCons (tVar 1) (tCons (tC (.str ("host" : Str))) (tCons (tTup (tCons (tC (.str ("in" : Str))) (tCons (tVar 2) (tCons (tVar 3) tNil)))) (tCons (tVar 4) tNil))))) tNil)) (gName 5))
    (tSeq (tIfS (tAnd (tB (tVar 4)) (tTest (tOp rGtI (tCall (sp__law_pull K a) [] E0 (tCons (tVar 0) (tCons (tC (.int 4)) tNil))) (tC (.int 0))))) (tSeq (tAsg (tCall (sp__law_one K a) [] E0 (tCons (tVar 0) (tCons (tLst (tCons (tTup (tCons (tC (.str ("data" : Str))) (tCons (tCall (sp__law_pull K a) [] E0 (tCons (tVar 0) (tCons (tC (.int 2)) tNil))) (tCons (tCall (sp__law_bytes K a) [] E0 (tCons (tVar 0) (tCons (tC (.int 9)) tNil))) tNil)))) (tCons (tTup (tCons (tC (.str ("nak" : Str))) tNil)) (tCons (tTup (tCons (tC (.str ("stall" : Str))) tNil)) tNil)))) tNil))) (gName 6))
    (tSeq (tAsg (tOp rGtI (tCall (sp__law_pull K a) [] E0 (tCons (tVar 0) (tCons (tC (.int 3)) tNil))) (tC (.int 0))) (gName 7))
    (tSeq (tDrop (tBM K "list" rAppend (tVar 5) (tCons (tTup (tCons (tVar 1) (tCons (tC (.str ("thing" : Str))) (tCons (tVar 6) (tCons (tVar 7) tNil))))) tNil)))
    (tIfS (tAnd (tTest (tOp rEq (tOp (rIxT K) (tVar 6) (tC (.int 0))) (tC (.str ("data" : Str))))) (tB (tVar 7))) (tDrop (tBM K "list" rAppend (tVar 5) (tCons (tTup (tCons (tVar 1) (tCons (tC (.str ("host" : Str))) (tCons (tTup (tCons (tC (.str ("ack" : Str))) tNil)) (tCons (tOp rEq (tCall (sp__law_pull K a) [] E0 (tCons (tVar 0) (tCons (tC (.int 2)) tNil))) (tC (.int 0))) tNil))))) tNil))) tNext)))) tNext)
    (tRet (tVar 5)))) tNext)
    (tSeq (tAsg (tLst (tCons (tTup (tCons (tVar 1) (tCons (tC (.str ("host" : Str))) (tCons (tTup (tCons (tCall (sp__law_one K a) [] E0 (tCons (tVar 0) (tCons (tLst (tCons (tC (.str ("out" : Str))) (tCons (tC (.str ("setup" : Str))) tNil))) tNil))) (tCons (tVar 2) (tCons (tVar 3) tNil)))) (tCons (tVar 4) tNil))))) tNil)) (gName 5))
    (tSeq (tAsg (tAndV (tVar 4) (tOp rGtI (tCall (sp__law_pull K a) [] E0 (tCons (tVar 0) (tCons (tC (.int 3)) tNil))) (tC (.int 0)))) (gName 7))
    (tSeq (tDrop (tBM K "list" rAppend (tVar 5) (tCons (tTup (tCons (tVar 1) (tCons (tC (.str ("host" : Str))) (tCons (tTup (tCons (tC (.str ("data" : Str))) (tCons (tCall (sp__law_pull K a) [] E0 (tCons (tVar 0) (tCons (tC (.int 2)) tNil))) (tCons (tCall (sp__law_bytes K a) [] E0 (tCons (tVar 0) (tCons (tC (.int 9)) tNil))) tNil)))) (tCons (tVar 7) tNil))))) tNil)))
    (tSeq (tIfS (tAnd (tB (tVar 7)) (tTest (tOp rGtI (tCall (sp__law_pull K a) [] E0 (tCons (tVar 0) (tCons (tC (.int 4)) tNil))) (tC (.int 0))))) (tDrop (tBM K "list" rAppend (tVar 5) (tCons (tTup (tCons (tVar 1) (tCons (tC (.str ("thing" : Str))) (tCons (tTup (tCons (tCall (sp__law_one K a) [] E0 (tCons (tVar 0) (tCons (tLst (tCons (tC (.str ("ack" : Str))) (tCons (tC (.str ("nak" : Str))) (tCons (tC (.str ("stall" : Str))) tNil)))) tNil))) tNil)) (tCons (tOp rEq (tCall (sp__law_pull K a) [] E0 (tCons (tVar 0) (tCons (tC (.int 2)) tNil))) (tC (.int 0))) tNil))))) tNil))) tNext)
    (tRet (tVar 5)))))))))
/-! ### _law_made -/
abbrev N__law_made : List Str := ["_law_bag_here", "_law_frame", "_law_rows", "_law_k", "_law_more"]
abbrev P__law_made : List Str := ["_law_bag_here"]
theorem sc__law_made : FnScope N__law_made P__law_made (defScope s__law_made) := ⟨rfl, rfl, rfl, by decide +kernel, rfl, by decide +kernel, by decide +kernel⟩
def t__law_made (K : PySem.W.Frag) (a : Ad) : TS :=
    (tSeq (tAsg (tCall (sp__law_one K a) [] E0 (tCons (tVar 0) (tCons (tLst (tCons (tC (.int 0)) (tCons (tC (.int 5)) (tCons (tC (.int 2046)) (tCons (tC (.int 2047)) (tCons (tC (.int 5000)) tNil)))))) tNil))) (gName 1))
    (tSeq (tAsg (tLst tNil) (gName 2))
    (tSeq (tFor (iRng1 (tCons (tCall (sp__law_pull K a) [] E0 (tCons (tVar 0) (tCons (tC (.int 5)) tNil))) tNil)) (gName 3) (tSeq (tDrop (tBM K "list" rAppend (tVar 2) (tCons (tTup (tCons (tVar 1) (tCons (tC (.str ("host" : Str))) (tCons (tTup (tCons (tC (.str ("frame" : Str))) (tCons (tOp rModI (tVar 1) (tC (.int 2048))) tNil))) (tCons (tOp rGtI (tCall (sp__law_pull K a) [] E0 (tCons (tVar 0) (tCons (tC (.int 4)) tNil))) (tC (.int 0))) tNil))))) tNil)))
    (tSeq (tFor (iRng1 (tCons (tCall (sp__law_pull K a) [] E0 (tCons (tVar 0) (tCons (tOp (rIxL K) (tLst (tCons (tC (.int 4)) (tCons (tC (.int 80)) tNil))) (tCB rInt1 (tCons (tOp rEq (tCall (sp__law_pull K a) [] E0 (tCons (tVar 0) (tCons (tC (.int 6)) tNil))) (tC (.int 0))) tNil))) tNil))) tNil)) (gName 4) (tAsg (tOp rCat (tVar 2) (tCall (sp__law_turn K a) [] E0 (tCons (tVar 0) (tCons (tVar 1) tNil)))) (gName 2)))
    (tAsg (tOp rAddI (tVar 1) (tC (.int 1))) (gName 1)))))
    (tRet (tVar 2)))))
/-! ### _law_after -/
abbrev N__law_after : List Str := ["_law_row", "_law_frame", "_law_who", "_law_packet", "_law_came", "_law_starts"]
abbrev P__law_after : List Str := ["_law_row"]
theorem sc__law_after : FnScope N__law_after P__law_after (defScope s__law_after) := ⟨rfl, rfl, rfl, by decide +kernel, rfl, by decide +kernel, by decide +kernel⟩
def t__law_after (K : PySem.W.Frag) (a : Ad) : TS :=
    (tSeq (tAsg (tVar 0) (gTup K 4 (gCons (gName 1) (gCons (gName 2) (gCons (gName 3) (gCons (gName 4) gNil))))))
    (tSeq (tAsg (tLst (tCons (tC (.str ("host frame" : Str))) (tCons (tC (.str ("host in" : Str))) (tCons (tC (.str ("host out" : Str))) (tCons (tC (.str ("host setup" : Str))) tNil))))) (gName 5))
    (tSeq (tIfS (tTest (tOp (rIn K false) (tOp (rIxT K) (tVar 3) (tC (.int 0))) (tTup (tCons (tC (.str ("out" : Str))) (tCons (tC (.str ("setup" : Str))) tNil))))) (tRet (tLst (tCons (tC (.str ("host data" : Str))) tNil))) tNext)
    (tSeq (tIfS (tAnd (tTest (tOp rEq (tOp (rIxT K) (tVar 3) (tC (.int 0))) (tC (.str ("in" : Str))))) (tB (tVar 4))) (tRet (tOp rCat (tVar 5) (tLst (tCons (tC (.str ("thing data" : Str))) (tCons (tC (.str ("thing nak" : Str))) (tCons (tC (.str ("thing stall" : Str))) tNil)))))) tNext)
    (tSeq (tIfS (tAnd (tTest (tOp rEq (tOp (rIxT K) (tVar 3) (tC (.int 0))) (tC (.str ("data" : Str))))) (tB (tVar 4))) (tRet (tIf (tTest (tOp rEq (tVar 2) (tC (.str ("thing" : Str))))) (tLst (tCons (tC (.str ("host ack" : Str))) tNil)) (tOp rCat (tVar 5) (tLst (tCons (tC (.str ("thing ack" : Str))) (tCons (tC (.str ("thing nak" : Str))) (tCons (tC (.str ("thing stall" : Str))) tNil))))))) tNext)
    (tRet (tVar 5)))))))
/-! ### _law_shape -/
abbrev N__law_shape : List Str := ["_law_row", "_law_frame", "_law_who", "_law_packet", "_law_came", "_law_sizes", "_law_speakers", "_law_byte"]
abbrev P__law_shape : List Str := ["_law_row"]
theorem sc__law_shape : FnScope N__law_shape P__law_shape (defScope s__law_shape) := ⟨rfl, rfl, rfl, by decide +kernel, rfl, by decide +kernel, by decide +kernel⟩
def t__law_shape (K : PySem.W.Frag) (a : Ad) : TS :=
    (tSeq (tAsg (tVar 0) (gTup K 4 (gCons (gName 1) (gCons (gName 2) (gCons (gName 3) (gCons (gName 4) gNil))))))
    (tSeq (tAsg (tDisp [((tC (.str ("out" : Str))), (tC (.int 3))), ((tC (.str ("in" : Str))), (tC (.int 3))), ((tC (.str ("setup" : Str))), (tC (.int 3))), ((tC (.str ("frame" : Str))), (tC (.int 2))), ((tC (.str ("data" : Str))), (tC (.int 3))), ((tC (.str ("ack" : Str))), (tC (.int 1))), ((tC (.str ("nak" : Str))), (tC (.int 1))), ((tC (.str ("stall" : Str))), (tC (.int 1)))]) (gName 5))
    (tSeq (tIfS (tOr (tTest (tOp rLtI (tVar 1) (tC (.int 0)))) (tOr (tB (tDNotIn (tOp (rIxT K) (tVar 3) (tC (.int 0))) (tVar 5))) (tTest (tOp rNe (tCB (rLenQ K) (tCons (tVar 3) tNil)) (tDGet (tVar 5) (tOp (rIxT K) (tVar 3) (tC (.int 0)))))))) (tRet (tC (.bl false))) tNext)
    (tSeq (tAsg (tDisp [((tC (.str ("data" : Str))), (tLst (tCons (tC (.str ("host" : Str))) (tCons (tC (.str ("thing" : Str))) tNil)))), ((tC (.str ("ack" : Str))), (tLst (tCons (tC (.str ("host" : Str))) (tCons (tC (.str ("thing" : Str))) tNil)))), ((tC (.str ("nak" : Str))), (tLst (tCons (tC (.str ("thing" : Str))) tNil))), ((tC (.str ("stall" : Str))), (tLst (tCons (tC (.str ("thing" : Str))) tNil)))]) (gName 6))
    (tSeq (tIfS (tTest (tOp (rIn K true) (tVar 2) (tDGet2 (tVar 6) (tOp (rIxT K) (tVar 3) (tC (.int 0))) (tLst (tCons (tC (.str ("host" : Str))) tNil))))) (tRet (tC (.bl false))) tNext)
    (tSeq (tIfS (tTest (tOp rEq (tOp (rIxT K) (tVar 3) (tC (.int 0))) (tC (.str ("frame" : Str))))) (tRet (tOp rEq (tOp (rIxT K) (tVar 3) (tC (.int 1))) (tOp rModI (tVar 1) (tC (.int 2048))))) tNext)
    (tSeq (tIfS (tTest (tOp rEq (tOp (rIxT K) (tVar 3) (tC (.int 0))) (tC (.str ("data" : Str))))) (tRet (tAndV (tOp (rIn K false) (tOp (rIxT K) (tVar 3) (tC (.int 1))) (tTup (tCons (tC (.int 0)) (tCons (tC (.int 1)) tNil)))) (tAndV (tOp rLeI (tCB (rLenQ K) (tCons (tOp (rIxT K) (tVar 3) (tC (.int 2))) tNil)) (tC (.int 64))) (tCB (rAll K) (tCons (tLc (iTup K (tOp (rIxT K) (tVar 3) (tC (.int 2)))) (gName 7) tYes (tChain rLeI rLtI (tC (.int 0)) (tVar 7) (tC (.int 256))) [7]) tNil))))) tNext)
    (tRet (tOrV (tOp rEq (tCB (rLenQ K) (tCons (tVar 3) tNil)) (tC (.int 1))) (tAndV (tChain rLeI rLeI (tC (.int 0)) (tOp (rIxT K) (tVar 3) (tC (.int 1))) (tC (.int 127))) (tChain rLeI rLeI (tC (.int 0)) (tOp (rIxT K) (tVar 3) (tC (.int 2))) (tC (.int 15)))))))))))))
/-! ### _law_wrong -/
abbrev N__law_wrong : List Str := ["_law_rows", "_law_room", "_law_at", "_law_row", "_law_word", "_law_taken"]
abbrev P__law_wrong : List Str := ["_law_rows"]
theorem sc__law_wrong : FnScope N__law_wrong P__law_wrong (defScope s__law_wrong) := ⟨rfl, rfl, rfl, by decide +kernel, rfl, by decide +kernel, by decide +kernel⟩
def t__law_wrong (K : PySem.W.Frag) (a : Ad) : TS :=
    (tSeq (tAsg (tC (.int 0)) (gName 1))
    (tSeq (tFor (iEnum K (tCons (tVar 0) tNil)) (gTup K 2 (gCons (gName 2) (gCons (gName 3) gNil))) (tSeq (tIfS (tNot (tB (tCall (sp__law_shape K a) [] E0 (tCons (tVar 3) tNil)))) (tRet (tVar 2)) tNext)
    (tSeq (tAsg (tOp (rIxT K) (tOp (rIxT K) (tVar 3) (tC (.int 2))) (tC (.int 0))) (gName 4))
    (tSeq (tIfS (tAnd (tTest (tOp rEq (tVar 2) (tC (.int 0)))) (tTest (tOp rNe (tVar 4) (tC (.str ("frame" : Str)))))) (tRet (tVar 2)) tNext)
    (tSeq (tIfS (tAnd (tTest (tOp rGtI (tVar 2) (tC (.int 0)))) (tTest (tOp (rIn K true) (tOp rAddStr (tOp rAddStr (tOp (rIxT K) (tVar 3) (tC (.int 1))) (tC (.str (" " : Str)))) (tVar 4)) (tCall (sp__law_after K a) [] E0 (tCons (tOp (rIxL K) (tVar 0) (tOp rSubI (tVar 2) (tC (.int 1)))) tNil))))) (tRet (tVar 2)) tNext)
    (tSeq (tIfS (tAnd (tTest (tOp rGtI (tVar 2) (tC (.int 0)))) (tTest (tOp rNe (tOp (rIxT K) (tVar 3) (tC (.int 0))) (tOp rAddI (tOp (rIxT K) (tOp (rIxL K) (tVar 0) (tOp rSubI (tVar 2) (tC (.int 1)))) (tC (.int 0))) (tCB rInt1 (tCons (tOp rEq (tVar 4) (tC (.str ("frame" : Str)))) tNil)))))) (tRet (tVar 2)) tNext)
    (tSeq (tAsg (tDGet2 (tDisp [((tC (.str ("frame" : Str))), (tC (.int 6))), ((tC (.str ("in" : Str))), (tC (.int 13))), ((tC (.str ("out" : Str))), (tC (.int 13))), ((tC (.str ("setup" : Str))), (tC (.int 13)))]) (tVar 4) (tIf (tTest (tOp rEq (tVar 4) (tC (.str ("data" : Str))))) (tCB (rLenQ K) (tCons (tOp (rIxT K) (tOp (rIxT K) (tVar 3) (tC (.int 2))) (tC (.int 2))) tNil)) (tC (.int 0)))) (gName 5))
    (tSeq (tAsg (tIf (tTest (tOp rEq (tVar 4) (tC (.str ("frame" : Str))))) (tVar 5) (tOp rAddI (tVar 1) (tVar 5))) (gName 1))
    (tIfS (tTest (tOp rGtI (tVar 1) (tC (.int 1500)))) (tRet (tVar 2)) tNext)))))))))
    (tRet (tOp rSubI (tC (.int 0)) (tC (.int 1))))))
/-! ### _law_bent -/
abbrev N__law_bent : List Str := ["_law_bag_here", "_law_rows", "_law_at", "_law_other", "_law_frame", "_law_who", "_law_packet", "_law_came", "_law_pick", "_law_found"]
abbrev P__law_bent : List Str := ["_law_bag_here", "_law_rows"]
theorem sc__law_bent : FnScope N__law_bent P__law_bent (defScope s__law_bent) := ⟨rfl, rfl, rfl, by decide +kernel, rfl, by decide +kernel, by decide +kernel⟩
def t__law_bent (K : PySem.W.Frag) (a : Ad) : TS :=
    (tSeq (tIfS (tTest (tOp (rEqD K) (tVar 1) (tLst tNil))) (tRet (tVar 1)) tNext)
    (tSeq (tAsg (tCall (sp__law_pull K a) [] E0 (tCons (tVar 0) (tCons (tCB (rLenQ K) (tCons (tVar 1) tNil)) tNil))) (gName 2))
    (tSeq (tAsg (tCall (sp__law_pull K a) [] E0 (tCons (tVar 0) (tCons (tCB (rLenQ K) (tCons (tVar 1) tNil)) tNil))) (gName 3))
    (tSeq (tAsg (tOp (rIxL K) (tVar 1) (tVar 2)) (gTup K 4 (gCons (gName 4) (gCons (gName 5) (gCons (gName 6) (gCons (gName 7) gNil))))))
    (tSeq (tAsg (tCall (sp__law_pull K a) [] E0 (tCons (tVar 0) (tCons (tC (.int 8)) tNil))) (gName 8))
    (tSeq (tIfS (tTest (tOp rEq (tVar 8) (tC (.int 0)))) (tRet (tOp rCat (tSl (rSlL K) (tVar 1) tNoPart (tPart (tVar 2))) (tSl (rSlL K) (tVar 1) (tPart (tOp rAddI (tVar 2) (tC (.int 1)))) tNoPart))) tNext)
    (tSeq (tIfS (tTest (tOp rEq (tVar 8) (tC (.int 1)))) (tRet (tOp rCat (tOp rCat (tSl (rSlL K) (tVar 1) tNoPart (tPart (tVar 2))) (tLst (tCons (tOp (rIxL K) (tVar 1) (tVar 2)) tNil))) (tSl (rSlL K) (tVar 1) (tPart (tVar 2)) tNoPart))) tNext)
    (tSeq (tAsg (tCB (rListOf K) (tCons (tVar 1) tNil)) (gName 9))
    (tSeq (tIfS (tTest (tOp rEq (tVar 8) (tC (.int 2)))) (tAsg (tTup (tCons (tOp (rIxL K) (tVar 9) (tVar 3)) (tCons (tOp (rIxL K) (tVar 9) (tVar 2)) tNil))) (gTup K 2 (gCons (gSub (tVar 9) (tVar 2) rSetL) (gCons (gSub (tVar 9) (tVar 3) rSetL) gNil)))) tNext)
    (tSeq (tIfS (tTest (tOp rEq (tVar 8) (tC (.int 3)))) (tAsg (tTup (tCons (tOp rAddI (tVar 4) (tOp (rIxL K) (tLst (tCons (tC (.int 1)) (tCons (tOp rSubI (tC (.int 0)) (tC (.int 1))) (tCons (tC (.int 2048)) tNil)))) (tCall (sp__law_pull K a) [] E0 (tCons (tVar 0) (tCons (tC (.int 3)) tNil))))) (tCons (tVar 5) (tCons (tVar 6) (tCons (tVar 7) tNil))))) (gSub (tVar 9) (tVar 2) rSetL)) tNext)
    (tSeq (tIfS (tTest (tOp rEq (tVar 8) (tC (.int 4)))) (tAsg (tTup (tCons (tVar 4) (tCons (tCall (sp__law_one K a) [] E0 (tCons (tVar 0) (tCons (tLst (tCons (tC (.str ("host" : Str))) (tCons (tC (.str ("thing" : Str))) (tCons (tC (.str ("" : Str))) (tCons (tC (.str ("hub" : Str))) tNil))))) tNil))) (tCons (tVar 6) (tCons (tVar 7) tNil))))) (gSub (tVar 9) (tVar 2) rSetL)) tNext)
    (tSeq (tIfS (tTest (tOp rEq (tVar 8) (tC (.int 5)))) (tAsg (tTup (tCons (tVar 4) (tCons (tVar 5) (tCons (tVar 6) (tCons (tNotV (tVar 7)) tNil))))) (gSub (tVar 9) (tVar 2) rSetL)) tNext)
    (tSeq (tIfS (tTest (tOp rEq (tVar 8) (tC (.int 6)))) (tAsg (tTup (tCons (tVar 4) (tCons (tVar 5) (tCons (tOp (rCatA K) (tTup (tCons (tCall (sp__law_one K a) [] E0 (tCons (tVar 0) (tCons (tLst (tCons (tC (.str ("ack" : Str))) (tCons (tC (.str ("" : Str))) (tCons (tC (.str ("stall" : Str))) (tCons (tC (.str ("token" : Str))) tNil))))) tNil))) tNil)) (tSl (rSlA K) (tVar 6) (tPart (tC (.int 1))) tNoPart)) (tCons (tVar 7) tNil))))) (gSub (tVar 9) (tVar 2) rSetL)) tNext)
    (tSeq (tIfS (tAnd (tTest (tOp rEq (tVar 8) (tC (.int 7)))) (tTest (tOp rGtI (tCB (rLenQ K) (tCons (tVar 6) tNil)) (tC (.int 1))))) (tAsg (tTup (tCons (tVar 4) (tCons (tVar 5) (tCons (tOp (rCatA K) (tOp (rCatA K) (tSl (rSlA K) (tVar 6) tNoPart (tPart (tC (.int 1)))) (tTup (tCons (tOp rAddI (tOp (rIxT K) (tVar 6) (tC (.int 1))) (tC (.int 128))) tNil))) (tSl (rSlA K) (tVar 6) (tPart (tC (.int 2))) tNoPart)) (tCons (tVar 7) tNil))))) (gSub (tVar 9) (tVar 2) rSetL)) tNext)
    (tRet (tVar 9))))))))))))))))
/-! ### law -/
abbrev N_law : List Str := ["_law_script", "_law_bag_here", "_law_k", "_law_rows", "_law_more", "_law_given"]
abbrev P_law : List Str := ["_law_script"]
theorem sc_law : FnScope N_law P_law (defScope s_law) := ⟨rfl, rfl, rfl, by decide +kernel, rfl, by decide +kernel, by decide +kernel⟩
def t_law (K : PySem.W.Frag) (a : Ad) : TS :=
    (tSeq (tAsg (tCall (sp__law_bag K a) [] E0 (tCons (tVar 0) tNil)) (gName 1))
    (tSeq (tFor (iRng1 (tCons (tC (.int 3)) tNil)) (gName 2) (tSeq (tAsg (tCall (sp__law_made K a) [] E0 (tCons (tVar 1) tNil)) (gName 3))
    (tSeq (tFor (iRng1 (tCons (tCall (sp__law_pull K a) [] E0 (tCons (tVar 1) (tCons (tC (.int 3)) tNil))) tNil)) (gName 4) (tAsg (tCall (sp__law_bent K a) [] E0 (tCons (tVar 1) (tCons (tVar 3) tNil))) (gName 3)))
    (tSeq (tAsg (tCB (rListOf K) (tCons (tVar 3) tNil)) (gName 5))
    (tIfS (tOr (tNot (tB (tCall (sp__law_same K a) [] E0 (tCons (tCall (sp_first_wrong K a) [] E0 (tCons (tVar 5) tNil)) (tCons (tCall (sp__law_wrong K a) [] E0 (tCons (tVar 3) tNil)) tNil))))) (tTest (tOp (rNeD K) (tVar 5) (tVar 3)))) (tRet (tC (.bl false))) tNext)))))
    (tRet (tC (.bl true)))))
end My

namespace My
open PySem PySem.Spec PyProof.Rows L2
section
variable {P : Program} {w : World} {K : PySem.W.Frag} {mg : Str → Option Value} {base : Heap} {a : Ad}
local macro_rules | `(tactic| walk_at "sm") => `(tactic| try simp only [tSeq, tAsg, tVar, tC, tOp, tUn, tRet, tRetN, tDrop, tIfS, tNext, tAnd, tOr, tNot, tB, tTest, tChain, tAndV, tOrV, tNotV, tIf, tCB, tCons, tNil, tCall, tCallS, tPar, rInRg, rNotInRg, rRg1, rRg2, tRaiseAt, tMkAt, tByAt, tCallN, tListR3, tLstRg, tRg1, tRaiseFr, tMkFr, tByFr, rMax2, rMin2, rInt1, rInKD, rNotInKD, tLst, tTup, tSl, tNoPart, tPart,
  tAug, ipI, gName, gSub, gTup, gCons, gNil, rI0, rI, rU, rEq, rNe, rIsN, rNotN, rAddI, rSubI, rMulI, rModI, rDivW, rPowI, rShlI, rShrI, rAndI, rOrI, rXorI, rLtI, rLeI, rGtI, rGeI, rNegI, rIxL, rIxT, rLenQ, rListOf, rTupleOf, rSetL, tRevL, tRaiseC, rSlL,
  List.getElem?_cons_zero, List.getElem?_cons_succ, List.set_cons_zero, List.set_cons_succ, Option.some.injEq, V.int.injEq, V.bl.injEq, V.ref.injEq, V.str.injEq, exists_eq_left', exists_eq_left, exists_and_left, List.cons.injEq, and_true, true_and, List.append_nil, scal, Int.reduceToNat, if_true, if_false, Bool.false_eq_true])
local macro_rules | `(tactic| walk_at "bg") => `(tactic| repeat (first
  | refine ⟨_, SqL.of (by assumption), _, rfl, ?_⟩
  | refine ⟨_, SqL.of upd_same, _, rfl, ?_⟩
  | refine ⟨_, rfl, ?_⟩
  | refine ⟨_, (by assumption), _, rfl, ?_⟩
  | refine ⟨_, upd_same, _, rfl, ?_⟩
  | refine ⟨Or.inr ⟨by omega, by omega⟩, ?_⟩
  | refine ⟨Or.inl ⟨by omega, by omega⟩, ?_⟩
  | refine ⟨(show (0 : Int) < _ by omega), ?_⟩
  | refine ⟨_, .inl (SqL.of upd_same), ?_⟩
  | refine ⟨_, .inl (by assumption), ?_⟩))
local macro_rules | `(tactic| walk_at "ty") => `(tactic| try simp only [tyS, tyL, tyT, if_true, if_false, Bool.false_eq_true, reduceCtorEq, decide_false, decide_true, exists_eq_left', exists_eq_left, V.bl.injEq, and_true, true_and, Bool.not_true, Bool.not_false, decide_eq_true_eq, Bool.true_and, Bool.and_true])
theorem rd_is_number : RD (sp_is_number K a) (t_is_number K a) N_is_number := by
  rintro vs H Q E ⟨v, d, lo, hi, rfl, hd, nb, q⟩
  show t_is_number K a _ [some v, some (.int lo), some (.int hi)] H
  unfold t_is_number
  walk_at "sm"
  refine isi hd (by decide) ?_
  walk_at "sm"
  refine iteB (fun h => ?_) (fun h => ?_)
  · cases hd with
    | int i =>
      walk_at "sm"
      refine iteP (fun h1 => ?_) (fun h1 => ?_)
      · simpa only [isNum, decide_eq_true h1, Bool.true_and] using q
      · simpa only [isNum, decide_eq_false h1, Bool.false_and] using q
    | bl b => exact absurd rfl (nb b)
    | _ => exact Bool.noConfusion h
  · cases hd with
    | int i => exact Bool.noConfusion h
    | bl b => exact absurd rfl (nb b)
    | _ => exact q
theorem rd__law_bag : RD (sp__law_bag K a) (t__law_bag K a) N__law_bag := by
  rintro vs H Q E ⟨p, cs, rfl, hS, hl, q⟩
  show t__law_bag K a _ [some (.ref p), none, none, none] H
  unfold t__law_bag
  walk_at "sm"
  refine ⟨_, hS, fun p1 hp1 => ?_⟩
  rw [cutV_all (by rw [List.length_map]; omega)]
  refine ⟨_, .inl (SqL.of upd_same), fun p2 hp2 => ?_⟩
  refine ⟨_, .inl (SqL.of upd_same), ?_⟩
  have e0 : Ex H (upd (upd H p1 (.lst (cs.map V.int))) p2 (.lst (cs.map V.int))) := (Ex.new hp1).trans (Ex.new hp2)
  generalize hH2 : upd (upd H p1 (.lst (cs.map V.int))) p2 (.lst (cs.map V.int)) = H2 at e0
  have hS2 : H2 p2 = some (.lst (cs.map V.int)) := by rw [← hH2]; exact upd_same
  refine forL 3 (fun j σ H' => ∃ (k : Int) (x : Option V), σ = [some (.ref p), some (.ref p2), some (.int k), x] ∧ H' = H2 ∧ k.natAbs < 2147483629) (fun R r => ⟨_, rfl, r⟩) (SqL.of hS2) ⟨_, _, rfl, rfl, ?_⟩ ?hl ?hs ?hd
  · rw [List.length_map]
    omega
  case hl =>
    rintro j σ H' ⟨k, x, rfl, rfl, _⟩
    exact SqL.of hS2
  case hs =>
    rintro j x σ H' hj ⟨k, y, rfl, rfl, hk⟩
    rw [List.getElem?_map] at hj
    obtain ⟨b, hb1, rfl⟩ := Option.map_eq_some_iff.mp hj
    walk_at "sm"
    refine ⟨.inr ⟨by omega, by omega⟩, by omega, _, _, ⟨rfl, rfl⟩, ?_⟩
    omega
  case hd =>
    rintro σ H' ⟨k, x, rfl, rfl, hk⟩
    walk_at "sm"
    refine ⟨by show 4 ≤ sizeLine; decide, fun p3 hp3 => ?_⟩
    refine q p3 p2 _ ?_ (e0.trans (Ex.new hp3)) ⟨0, 0, k, upd_same, ?_, hl, by omega⟩
    · exact e0.free hp3
    · exact (Ex.new hp3).sqL (SqL.of hS2)
theorem rd__law_whole : RD (sp__law_whole K a) (t__law_whole K a) N__law_whole := by
  rintro vs H Q E ⟨v, d, rfl, hd, q⟩
  show t__law_whole K a _ [some v] H
  unfold t__law_whole
  walk_at "sm"
  refine isi hd (by decide) ?_
  walk_at "sm"
  refine iteB (fun h => ?_) (fun h => ?_)
  · refine isi hd (by decide) ?_
    walk_at "sm"
    cases hd <;> first | exact Bool.noConfusion h | exact q
  · cases hd <;> first | exact Bool.noConfusion h | exact q
end
end My

namespace My
open PySem PySem.Spec PyProof.Rows L2
section
variable {P : Program} {w : World} {K : PySem.W.Frag} {mg : Str → Option Value} {base : Heap} {a : Ad}
local macro_rules | `(tactic| walk_at "sm") => `(tactic| try simp only [tSeq, tAsg, tVar, tC, tOp, tUn, tRet, tRetN, tDrop, tIfS, tNext, tAnd, tOr, tNot, tB, tTest, tChain, tAndV, tOrV, tNotV, tIf, tCB, tCons, tNil, tCall, tCallS, tPar, rInRg, rNotInRg, rRg1, rRg2, tRaiseAt, tMkAt, tByAt, tCallN, tListR3, tLstRg, tRg1, tRaiseFr, tMkFr, tByFr, rMax2, rMin2, rInt1, rInKD, rNotInKD, tLst, tTup, tSl, tNoPart, tPart,
  tAug, ipI, gName, gSub, gTup, gCons, gNil, rI0, rI, rU, rEq, rNe, rIsN, rNotN, rAddI, rSubI, rMulI, rModI, rDivW, rPowI, rShlI, rShrI, rAndI, rOrI, rXorI, rLtI, rLeI, rGtI, rGeI, rNegI, rIxL, rIxT, rLenQ, rListOf, rTupleOf, rSetL, tRevL, tRaiseC, rSlL,
  List.getElem?_cons_zero, List.getElem?_cons_succ, List.set_cons_zero, List.set_cons_succ, Option.some.injEq, V.int.injEq, V.bl.injEq, V.ref.injEq, V.str.injEq, exists_eq_left', exists_eq_left, exists_and_left, List.cons.injEq, and_true, true_and, List.append_nil, scal, Int.reduceToNat, if_true, if_false, Bool.false_eq_true])
local macro_rules | `(tactic| walk_at "bg") => `(tactic| repeat (first
  | refine ⟨_, SqL.of (by assumption), _, rfl, ?_⟩
  | refine ⟨_, SqL.of upd_same, _, rfl, ?_⟩
  | refine ⟨_, rfl, ?_⟩
  | refine ⟨_, (by assumption), _, rfl, ?_⟩
  | refine ⟨_, upd_same, _, rfl, ?_⟩
  | refine ⟨Or.inr ⟨by omega, by omega⟩, ?_⟩
  | refine ⟨Or.inl ⟨by omega, by omega⟩, ?_⟩
  | refine ⟨(show (0 : Int) < _ by omega), ?_⟩
  | refine ⟨_, .inl (SqL.of upd_same), ?_⟩
  | refine ⟨_, .inl (by assumption), ?_⟩))
local macro_rules | `(tactic| walk_at "ty") => `(tactic| try simp only [tyS, tyL, tyT, if_true, if_false, Bool.false_eq_true, reduceCtorEq, decide_false, decide_true, exists_eq_left', exists_eq_left, V.bl.injEq, and_true, true_and, Bool.not_true, Bool.not_false, decide_eq_true_eq, Bool.true_and, Bool.and_true])
theorem rd__law_pull : RD (sp__law_pull K a) (t__law_pull K a) N__law_pull := by
  rintro vs H Q E ⟨p, c, cs, u, rfl, ⟨i, s, k, hp, hS, hl, h0⟩, hu, hu2, q⟩
  show t__law_pull K a _ [some (.ref p), some (.int u), none, none, none, none] H
  unfold t__law_pull
  have at0 : ∀ i s k : Int, atI [V.ref c, .int i, .int s, .int k] 0 = some (.ref c) := fun _ _ _ => rfl
  have at1 : ∀ i s k : Int, atI [V.ref c, .int i, .int s, .int k] 1 = some (.int i) := fun _ _ _ => rfl
  have at2 : ∀ i s k : Int, atI [V.ref c, .int i, .int s, .int k] 2 = some (.int s) := fun _ _ _ => rfl
  have at3 : ∀ i s k : Int, atI [V.ref c, .int i, .int s, .int k] 3 = some (.int k) := fun _ _ _ => rfl
  have mod0 : ∀ z : Int, 0 ≤ z % u ∧ z % u < u := fun z => ⟨Int.emod_nonneg _ (by omega), Int.emod_lt_of_pos _ hu⟩
  -- the end: what is left of a number
  have fin : ∀ (H : Hp) (i s k : Int) x y z, H p = some (.lst [.ref c, .int i, .int s, .int k]) → SqL K H c (cs.map V.int) → 0 ≤ i → (∀ r H', 0 ≤ r → r < u → Bag K c cs H' p → (∀ b, b ≠ p → H' b = H b) → Q (.int r) H') →
      (tSeq (tAsg (tOp rModI (tOp (rIxL K) (tVar 0) (tC (.int 2))) (tVar 1)) (gName 5)) (tSeq (tAsg (tOp rDivW (tOp (rIxL K) (tVar 0) (tC (.int 2))) (tVar 1)) (gSub (tVar 0) (tC (.int 2)) rSetL)) (tRet (tVar 5))))
        { nx := fun _ H' => Q .non H', rt := Q } [some (.ref p), some (.int u), x, y, z, none] H := by
    intro H i s k x y z hp hS h0 q
    walk_at "sm"
    refine ⟨_, SqL.of hp, _, at2 _ _ _, _, rfl, hu, ?_⟩
    walk_at "sm"
    refine ⟨_, SqL.of hp, _, at2 _ _ _, _, rfl, cdivS hu hu2, _, hp, 2, rfl, ?_⟩
    exact q _ _ (mod0 _).1 (mod0 _).2 (bag_mk hp hS hl h0) upd_off
  walk_at "sm"
  walk_at "bg"
  refine iteP (fun h => ?_) (fun h => ?_)
  · walk_at "bg"
    have hS' := bag_ne hp hS
    walk_at "sm"
    have fin2 := fun (s' : Int) x y z (hz : 0 ≤ i + 1) => fin (upd H p (.lst [V.ref c, .int (i + 1), .int s', .int k])) (i + 1) s' k x y z upd_same (hS' _) hz (fun r H' r0 r1 hb he => q r H' r0 r1 hb (fun b hbp => (he b hbp).trans (upd_ne hbp)))
    have hp2 : (upd H p (.lst [V.ref c, .int (i + 1), .int s, .int k])) p = some (.lst [V.ref c, .int (i + 1), .int s, .int k]) := upd_same
    have hS2 := hS' (.lst [V.ref c, .int (i + 1), .int s, .int k])
    have bag2 : Bag K c cs (upd H p (.lst [V.ref c, .int (i + 1), .int s, .int k])) p := ⟨_, _, _, hp2, hS2, hl, by omega⟩
    have off2 : ∀ b, b ≠ p → (upd H p (.lst [V.ref c, .int (i + 1), .int s, .int k])) b = H b := fun b hb => upd_ne hb
    have eo : ∀ s', upd (upd H p (.lst [V.ref c, .int (i + 1), .int s, .int k])) p (.lst [V.ref c, .int (i + 1), .int s', .int k]) = upd H p (.lst [V.ref c, .int (i + 1), .int s', .int k]) := fun _ => upd_upd
    generalize upd H p (.lst [V.ref c, .int (i + 1), .int s, .int k]) = H2 at hp2 hS2 bag2 off2 eo ⊢
    have drawn : ∀ (seed : Int) (x : Option V), (tSeq (tAsg (tOp rModI (tOp rAddI (tOp rAddI (tOp rMulI (tVar 2) (tC (.int 48271))) (tOp rMulI (tOp (rIxL K) (tVar 0) (tC (.int 1))) (tC (.int 40692)))) (tOp (rIxL K) (tVar 0) (tC (.int 3)))) (tC (.int 2147483647))) (gName 3))
        (tSeq (tAsg (tOp rModI (tOp rAddI (tOp rMulI (tVar 3) (tVar 3)) (tOp (rIxL K) (tVar 0) (tC (.int 1)))) (tC (.int 998244353))) (gName 4))
        (tRet (tOp rModI (tOp rDivW (tOp rModI (tOp rAddI (tOp rMulI (tVar 4) (tC (.int 69621))) (tVar 3)) (tC (.int 2147483629))) (tC (.int 7))) (tVar 1)))))
        { nx := fun _ _ => False, rt := Q } [some (.ref p), some (.int u), some (.int seed), none, none, x] H2 := by
      intro seed x
      walk_at "sm"
      walk_at "bg"
      refine ⟨cdivS (by omega) (by omega), hu, ?_⟩
      exact q _ _ (mod0 _).1 (mod0 _).2 bag2 off2
    have after : ∀ seed : Int, (tSeq (tIfS (tOr (tTest (tOp rGtI (tOp (rIxL K) (tVar 0) (tC (.int 1))) (tCB (rLenQ K) (tCons (tOp (rIxL K) (tVar 0) (tC (.int 0))) tNil)))) (tTest (tOp rLtI (tVar 2) (tOp rPowI (tC (.int 10)) (tC (.int 18)))))) (tSeq (tAsg (tOp rModI (tOp rAddI (tOp rAddI (tOp rMulI (tVar 2) (tC (.int 48271))) (tOp rMulI (tOp (rIxL K) (tVar 0) (tC (.int 1))) (tC (.int 40692)))) (tOp (rIxL K) (tVar 0) (tC (.int 3)))) (tC (.int 2147483647))) (gName 3))
        (tSeq (tAsg (tOp rModI (tOp rAddI (tOp rMulI (tVar 3) (tVar 3)) (tOp (rIxL K) (tVar 0) (tC (.int 1)))) (tC (.int 998244353))) (gName 4))
        (tRet (tOp rModI (tOp rDivW (tOp rModI (tOp rAddI (tOp rMulI (tVar 4) (tC (.int 69621))) (tVar 3)) (tC (.int 2147483629))) (tC (.int 7))) (tVar 1))))) tNext) (tAsg (tVar 2) (gSub (tVar 0) (tC (.int 2)) rSetL)))
        { nx := (tSeq (tAsg (tOp rModI (tOp (rIxL K) (tVar 0) (tC (.int 2))) (tVar 1)) (gName 5)) (tSeq (tAsg (tOp rDivW (tOp (rIxL K) (tVar 0) (tC (.int 2))) (tVar 1)) (gSub (tVar 0) (tC (.int 2)) rSetL)) (tRet (tVar 5)))) { nx := fun _ H' => Q .non H', rt := Q }, rt := Q } [some (.ref p), some (.int u), some (.int seed), none, none, none] H2 := by
      intro seed
      have dr := drawn seed none
      have f2 := fin2 seed (some (.int seed)) none none (by omega)
      rw [← eo] at f2
      revert dr f2
      walk_at "sm"
      intro dr f2
      have lastly : ∀ R : Prop, R → (∃ x, H2 p = some (.lst x) ∧ ∃ x_1, ixN x.length 2 = some x_1 ∧ R) := fun R r => ⟨_, hp2, 2, rfl, r⟩
      refine ⟨_, SqL.of hp2, _, rfl, _, SqL.of hp2, _, rfl, c, rfl, _, .inl hS2, _, rfl, ?_⟩
      refine iteP (fun h1 => dr) (fun h1 => ?_)
      refine ⟨⟨by omega, by omega, by omega⟩, ?_⟩
      refine iteP (fun h1 => dr) (fun h1 => ?_)
      exact ⟨_, hp2, 2, rfl, f2⟩
    refine ⟨_, .inl hS2, ?_⟩
    refine iteP (fun h1 => ?_) (fun h1 => ?_)
    · rw [List.length_map] at h1
      obtain ⟨b, hb⟩ : ∃ b, cs[i.toNat]? = some b := ⟨_, List.getElem?_eq_getElem (by omega)⟩
      refine ⟨_, SqL.of hp2, _, rfl, _, SqL.of hp2, _, rfl, _, rfl, c, rfl, _, hS2, .int b, ?_, ?_⟩
      · refine at_of (j := i.toNat) (by omega) ?_
        rw [List.getElem?_map, hb]
        rfl
      · have := after b
        revert this
        walk_at "sm"
        exact id
    · have := after (k + (i + 1) * 7919)
      revert this
      walk_at "sm"
      exact id
  · have := fin H i s k none none none hp hS h0 q
    revert this
    walk_at "sm"
    exact id
end
end My

namespace My
open PySem PySem.Spec PyProof.Rows L2
section
variable {P : Program} {w : World} {K : PySem.W.Frag} {mg : Str → Option Value} {base : Heap} {a : Ad}
local macro_rules | `(tactic| walk_at "sm") => `(tactic| try simp only [tSeq, tAsg, tVar, tC, tOp, tUn, tRet, tRetN, tDrop, tIfS, tNext, tAnd, tOr, tNot, tB, tTest, tChain, tAndV, tOrV, tNotV, tIf, tCB, tCons, tNil, tCall, tCallS, tPar, rInRg, rNotInRg, rRg1, rRg2, tRaiseAt, tMkAt, tByAt, tCallN, tListR3, tLstRg, tRg1, tRaiseFr, tMkFr, tByFr, rMax2, rMin2, rInt1, rInKD, rNotInKD, tLst, tTup, tSl, tNoPart, tPart,
  tAug, ipI, gName, gSub, gTup, gCons, gNil, rI0, rI, rU, rEq, rNe, rIsN, rNotN, rAddI, rSubI, rMulI, rModI, rDivW, rPowI, rShlI, rShrI, rAndI, rOrI, rXorI, rLtI, rLeI, rGtI, rGeI, rNegI, rIxL, rIxT, rLenQ, rListOf, rTupleOf, rSetL, tRevL, tRaiseC, rSlL,
  List.getElem?_cons_zero, List.getElem?_cons_succ, List.set_cons_zero, List.set_cons_succ, Option.some.injEq, V.int.injEq, V.bl.injEq, V.ref.injEq, V.str.injEq, exists_eq_left', exists_eq_left, exists_and_left, List.cons.injEq, and_true, true_and, List.append_nil, scal, Int.reduceToNat, if_true, if_false, Bool.false_eq_true])
local macro_rules | `(tactic| walk_at "bg") => `(tactic| repeat (first
  | refine ⟨_, SqL.of (by assumption), _, rfl, ?_⟩
  | refine ⟨_, SqL.of upd_same, _, rfl, ?_⟩
  | refine ⟨_, rfl, ?_⟩
  | refine ⟨_, (by assumption), _, rfl, ?_⟩
  | refine ⟨_, upd_same, _, rfl, ?_⟩
  | refine ⟨Or.inr ⟨by omega, by omega⟩, ?_⟩
  | refine ⟨Or.inl ⟨by omega, by omega⟩, ?_⟩
  | refine ⟨(show (0 : Int) < _ by omega), ?_⟩
  | refine ⟨_, .inl (SqL.of upd_same), ?_⟩
  | refine ⟨_, .inl (by assumption), ?_⟩))
local macro_rules | `(tactic| walk_at "ty") => `(tactic| try simp only [tyS, tyL, tyT, if_true, if_false, Bool.false_eq_true, reduceCtorEq, decide_false, decide_true, exists_eq_left', exists_eq_left, V.bl.injEq, and_true, true_and, Bool.not_true, Bool.not_false, decide_eq_true_eq, Bool.true_and, Bool.and_true])
/-- one level deeper: spR is what holds one level up -/
theorem rd__law_same (n : Nat) (spR : Sp) (hR : ∀ k, n = k + 1 → spR = sp_same k K) : RD (sp_same n K) (t__law_same K a spR) N__law_same := by
  rintro vs H Q E ⟨v, w, d, rfl, hv, hw, ok, q⟩
  show t__law_same K a _ _ [some v, some w, none] H
  unfold t__law_same
  cases d with
  | none =>
    cases hv
    cases hw
    walk_at "sm"
    walk_at "ty"
    exact q H (Same.refl _)
  | bool b =>
    cases id hv
    cases id hw
    walk_at "sm"
    walk_at "ty"
    refine isi hw (by decide) ?_
    walk_at "ty"
    refine isi hv (by decide) ?_
    walk_at "ty"
    exact q H (Same.refl _)
  | int i =>
    cases id hv
    cases id hw
    walk_at "sm"
    walk_at "ty"
    refine isi hw (by decide) ?_
    walk_at "ty"
    refine isi hw (by decide) ?_
    walk_at "ty"
    refine ⟨_, _, rfl, hv, ?_⟩
    walk_at "ty"
    exact q H (Same.refl _)
  | str x =>
    cases id hv
    cases id hw
    walk_at "sm"
    walk_at "ty"
    refine isi hw (by decide) ?_
    walk_at "ty"
    refine isi hw (by decide) ?_
    walk_at "ty"
    refine isi hw (by decide) ?_
    walk_at "ty"
    refine isi hv (by decide) ?_
    walk_at "ty"
    exact q H (Same.refl _)
  | dict _ => cases hv
  | list ds =>
    obtain ⟨f, xs, rfl, hx, ax⟩ : ∃ f xs, v = .ref f ∧ SqL K H f xs ∧ DpAll K H xs ds := by
      cases hv with
      | lst hs ha => exact ⟨_, _, rfl, hs, ha⟩
    obtain ⟨g, ys, rfl, hy, ay⟩ : ∃ f xs, w = .ref f ∧ SqL K H f xs ∧ DpAll K H xs ds := by
      cases hw with
      | lst hs ha => exact ⟨_, _, rfl, hs, ha⟩
    obtain ⟨hl, k, ek, hk⟩ := okD_len ok
    cases hR k ek
    walk_at "sm"
    walk_at "ty"
    refine isi hw (by decide) ?_
    walk_at "ty"
    refine isi hw (by decide) ?_
    walk_at "ty"
    refine isi hw (by decide) ?_
    walk_at "ty"
    refine isi hw (by decide) ?_
    refine isi hv (by decide) ?_
    walk_at "ty"
    refine isi hw (by decide) ?_
    refine isi hv (by decide) ?_
    walk_at "ty"
    have lx := DpAll.len ax
    have ly := DpAll.len ay
    refine ⟨_, .inl hx, _, .inl hy, iteNP (fun z => absurd (show (xs.length : Int) = ys.length by omega) z) (fun _ => ?_)⟩
    refine lcR (n := (ys.length : Int)) 2 (fun _ v _ => v = .bl true) (fun R r => ⟨_, rfl, _, _, rfl, .inl hy, r⟩) (by omega) (by omega) (fun _ _ _ _ _ h => h) (fun _ => rfl) (fun j D H1 Q1 hj hD hD1 e q' => ?_) (fun D H' zs hD e hz hm => ?_)
    · have hjd : j < ds.length := by omega
      obtain ⟨xj, x1, x2⟩ := DpAll.get ax (List.getElem?_eq_getElem hjd)
      obtain ⟨yj, y1, y2⟩ := DpAll.get ay (List.getElem?_eq_getElem hjd)
      have e1 : Ex H H1 := Same.trans e wo_ex
      refine ⟨_, rfl, _, rfl, .inl ⟨f, xs, (j : Nat), xj, rfl, rfl, e1.sqL hx, atI_nat x1, _, rfl, _, rfl, .inl ⟨g, ys, (j : Nat), yj, rfl, rfl, e1.sqL hy, atI_nat y1, ?_⟩⟩⟩
      exact ⟨xj, yj, _, rfl, e1.dp _ _ x2, e1.dp _ _ y2, hk _ (List.getElem_mem hjd), fun H' e' => q' _ _ e' rfl⟩
    · refine ⟨D, (List.range (ys.length : Int).toNat).map fun _ => true, rfl, SqL.of ?_, ?_⟩
      · rw [hz, Made.bls hm]
      · rw [all_true]
        exact q H' (e.trans wo_ex)
  | tuple ds =>
    obtain ⟨f, xs, rfl, hx, ax⟩ : ∃ f xs, v = .ref f ∧ SqT K H f xs ∧ DpAll K H xs ds := by
      cases hv with
      | tup hs ha => exact ⟨_, _, rfl, hs, ha⟩
    obtain ⟨g, ys, rfl, hy, ay⟩ : ∃ f xs, w = .ref f ∧ SqT K H f xs ∧ DpAll K H xs ds := by
      cases hw with
      | tup hs ha => exact ⟨_, _, rfl, hs, ha⟩
    obtain ⟨hl, k, ek, hk⟩ := okD_lenT ok
    cases hR k ek
    walk_at "sm"
    walk_at "ty"
    refine isi hw (by decide) ?_
    walk_at "ty"
    refine isi hw (by decide) ?_
    walk_at "ty"
    refine isi hw (by decide) ?_
    walk_at "ty"
    refine isi hw (by decide) ?_
    refine isi hv (by decide) ?_
    walk_at "ty"
    refine isi hw (by decide) ?_
    refine isi hv (by decide) ?_
    walk_at "ty"
    have lx := DpAll.len ax
    have ly := DpAll.len ay
    refine ⟨_, .inr hx, _, .inr hy, iteNP (fun z => absurd (show (xs.length : Int) = ys.length by omega) z) (fun _ => ?_)⟩
    refine lcR (n := (ys.length : Int)) 2 (fun _ v _ => v = .bl true) (fun R r => ⟨_, rfl, _, _, rfl, .inr hy, r⟩) (by omega) (by omega) (fun _ _ _ _ _ h => h) (fun _ => rfl) (fun j D H1 Q1 hj hD hD1 e q' => ?_) (fun D H' zs hD e hz hm => ?_)
    · have hjd : j < ds.length := by omega
      obtain ⟨xj, x1, x2⟩ := DpAll.get ax (List.getElem?_eq_getElem hjd)
      obtain ⟨yj, y1, y2⟩ := DpAll.get ay (List.getElem?_eq_getElem hjd)
      have e1 : Ex H H1 := Same.trans e wo_ex
      refine ⟨_, rfl, _, rfl, .inr <| .inl ⟨f, xs, (j : Nat), xj, rfl, rfl, e1.sqT hx, atI_nat x1, _, rfl, _, rfl, .inr <| .inl ⟨g, ys, (j : Nat), yj, rfl, rfl, e1.sqT hy, atI_nat y1, ?_⟩⟩⟩
      exact ⟨xj, yj, _, rfl, e1.dp _ _ x2, e1.dp _ _ y2, hk _ (List.getElem_mem hjd), fun H' e' => q' _ _ e' rfl⟩
    · refine ⟨D, (List.range (ys.length : Int).toNat).map fun _ => true, rfl, SqL.of ?_, ?_⟩
      · rw [hz, Made.bls hm]
      · rw [all_true]
        exact q H' (e.trans wo_ex)
end
end My

namespace My
open PySem PySem.Spec PyProof.Rows L2
section
variable {P : Program} {w : World} {K : PySem.W.Frag} {mg : Str → Option Value} {base : Heap} {a : Ad}
local macro_rules | `(tactic| walk_at "sm") => `(tactic| try simp only [tSeq, tAsg, tVar, tC, tOp, tUn, tRet, tRetN, tDrop, tIfS, tNext, tAnd, tOr, tNot, tB, tTest, tChain, tAndV, tOrV, tNotV, tIf, tCB, tCons, tNil, tCall, tCallS, tPar, rInRg, rNotInRg, rRg1, rRg2, tRaiseAt, tMkAt, tByAt, tCallN, tListR3, tLstRg, tRg1, tRaiseFr, tMkFr, tByFr, rMax2, rMin2, rInt1, rInKD, rNotInKD, tLst, tTup, tSl, tNoPart, tPart,
  tAug, ipI, gName, gSub, gTup, gCons, gNil, rI0, rI, rU, rEq, rNe, rIsN, rNotN, rAddI, rSubI, rMulI, rModI, rDivW, rPowI, rShlI, rShrI, rAndI, rOrI, rXorI, rLtI, rLeI, rGtI, rGeI, rNegI, rIxL, rIxT, rLenQ, rListOf, rTupleOf, rSetL, tRevL, tRaiseC, rSlL,
  List.getElem?_cons_zero, List.getElem?_cons_succ, List.set_cons_zero, List.set_cons_succ, Option.some.injEq, V.int.injEq, V.bl.injEq, V.ref.injEq, V.str.injEq, exists_eq_left', exists_eq_left, exists_and_left, List.cons.injEq, and_true, true_and, List.append_nil, scal, Int.reduceToNat, if_true, if_false, Bool.false_eq_true])
local macro_rules | `(tactic| walk_at "bg") => `(tactic| repeat (first
  | refine ⟨_, SqL.of (by assumption), _, rfl, ?_⟩
  | refine ⟨_, SqL.of upd_same, _, rfl, ?_⟩
  | refine ⟨_, rfl, ?_⟩
  | refine ⟨_, (by assumption), _, rfl, ?_⟩
  | refine ⟨_, upd_same, _, rfl, ?_⟩
  | refine ⟨Or.inr ⟨by omega, by omega⟩, ?_⟩
  | refine ⟨Or.inl ⟨by omega, by omega⟩, ?_⟩
  | refine ⟨(show (0 : Int) < _ by omega), ?_⟩
  | refine ⟨_, .inl (SqL.of upd_same), ?_⟩
  | refine ⟨_, .inl (by assumption), ?_⟩))
local macro_rules | `(tactic| walk_at "ty") => `(tactic| try simp only [tyS, tyL, tyT, if_true, if_false, Bool.false_eq_true, reduceCtorEq, decide_false, decide_true, exists_eq_left', exists_eq_left, V.bl.injEq, and_true, true_and, Bool.not_true, Bool.not_false, decide_eq_true_eq, Bool.true_and, Bool.and_true])
theorem rd__law_one : RD (sp__law_one K a) (t__law_one K a) N__law_one := by
  rintro vs H Q E ⟨p, c, cs, t, xs, rfl, bag, hS, h0, h1, q⟩
  show t__law_one K a _ [some (.ref p), some (.ref t)] H
  unfold t__law_one
  walk_at "sm"
  refine ⟨xs, .inl (wo_ex.sqL hS), ?_⟩
  refine ⟨p, c, cs, _, rfl, bag, by omega, Int.lt_of_le_of_lt (show (xs.length : Int) ≤ 1000 by omega) (by decide), fun r H1 r0 r1 bag1 o1 => ?_⟩
  have hS1 : SqL K H1 t xs := wo_ex.sqL (Ex.sqL (off_wo o1) hS)
  refine ⟨_, _, rfl, hS1, xs[r.toNat]'(by omega), at_of (j := r.toNat) (by omega) (List.getElem?_eq_getElem _), q _ H1 (List.getElem_mem _) bag1 o1⟩
end
end My

namespace My
open PySem PySem.Spec PyProof.Rows L2
section
variable {P : Program} {w : World} {K : PySem.W.Frag} {mg : Str → Option Value} {base : Heap} {a : Ad}
local macro_rules | `(tactic| walk_at "sm") => `(tactic| try simp only [tSeq, tAsg, tVar, tC, tOp, tUn, tRet, tRetN, tDrop, tIfS, tNext, tAnd, tOr, tNot, tB, tTest, tChain, tAndV, tOrV, tNotV, tIf, tCB, tCons, tNil, tCall, tCallS, tPar, rInRg, rNotInRg, rRg1, rRg2, tRaiseAt, tMkAt, tByAt, tCallN, tListR3, tLstRg, tRg1, tRaiseFr, tMkFr, tByFr, rMax2, rMin2, rInt1, rInKD, rNotInKD, tLst, tTup, tSl, tNoPart, tPart,
  tAug, ipI, gName, gSub, gTup, gCons, gNil, rI0, rI, rU, rEq, rNe, rIsN, rNotN, rAddI, rSubI, rMulI, rModI, rDivW, rPowI, rShlI, rShrI, rAndI, rOrI, rXorI, rLtI, rLeI, rGtI, rGeI, rNegI, rIxL, rIxT, rLenQ, rListOf, rTupleOf, rSetL, tRevL, tRaiseC, rSlL,
  List.getElem?_cons_zero, List.getElem?_cons_succ, List.set_cons_zero, List.set_cons_succ, Option.some.injEq, V.int.injEq, V.bl.injEq, V.ref.injEq, V.str.injEq, exists_eq_left', exists_eq_left, exists_and_left, List.cons.injEq, and_true, true_and, List.append_nil, scal, Int.reduceToNat, if_true, if_false, Bool.false_eq_true])
local macro_rules | `(tactic| walk_at "bg") => `(tactic| repeat (first
  | refine ⟨_, SqL.of (by assumption), _, rfl, ?_⟩
  | refine ⟨_, SqL.of upd_same, _, rfl, ?_⟩
  | refine ⟨_, rfl, ?_⟩
  | refine ⟨_, (by assumption), _, rfl, ?_⟩
  | refine ⟨_, upd_same, _, rfl, ?_⟩
  | refine ⟨Or.inr ⟨by omega, by omega⟩, ?_⟩
  | refine ⟨Or.inl ⟨by omega, by omega⟩, ?_⟩
  | refine ⟨(show (0 : Int) < _ by omega), ?_⟩
  | refine ⟨_, .inl (SqL.of upd_same), ?_⟩
  | refine ⟨_, .inl (by assumption), ?_⟩))
local macro_rules | `(tactic| walk_at "ty") => `(tactic| try simp only [tyS, tyL, tyT, if_true, if_false, Bool.false_eq_true, reduceCtorEq, decide_false, decide_true, exists_eq_left', exists_eq_left, V.bl.injEq, and_true, true_and, Bool.not_true, Bool.not_false, decide_eq_true_eq, Bool.true_and, Bool.and_true])
theorem rd_are_bytes : RD (sp_are_bytes K a) (t_are_bytes K a) N_are_bytes := by
  rintro vs H Q E ⟨p, ns, rfl, hS, hl, q⟩
  show t_are_bytes K a _ [some (.ref p), none] H
  unfold t_are_bytes
  walk_at "sm"
  refine lcT (xs := ns.map V.int) 1 (fun j v _ => v = .bl (byteN (ns.getD j 0))) (fun R r => ⟨_, rfl, r⟩) hS (by rw [List.length_map]; omega) (fun _ _ _ _ _ h => h) (fun _ => rfl) (fun j x D H1 Q1 hx _ _ e q' => ?_) (fun D H' ys hD e hy hm => ?_)
  · rw [List.getElem?_map] at hx
    obtain ⟨b, hb1, rfl⟩ := Option.map_eq_some_iff.mp hx
    simp only [wipe]
    walk_at "sm"
    refine ⟨_, _, _, _, rfl, .int b, (fun _ z => nomatch z), q' _ _ (Same.refl _) ?_⟩
    rw [List.getD_eq_getElem?_getD, hb1]
    rfl
  · rw [List.length_map] at hm
    refine ⟨D, _, rfl, SqL.of (hy.trans (congrArg _ (congrArg _ hm.bls))), ?_⟩
    have : ((List.range ns.length).map fun j => byteN (ns.getD j 0)) = ns.map byteN := by
      apply List.ext_getElem?
      intro j
      by_cases hj : j < ns.length
      · simp [hj, List.getElem?_eq_getElem]
      · rw [List.getElem?_eq_none (by simp; omega), List.getElem?_eq_none (by simp; omega)]
    rw [this, List.all_map]
    exact q H' (e.trans wo_ex)
theorem Arg.nb (x : Arg) : ∀ b, x.d ≠ .bool b := fun b h => by cases x <;> cases h
theorem rd_is_token (T : Txt K mg a) : RD (sp_is_token K a) (t_is_token K a) N_is_token := by
  rintro vs H Q E ⟨v, ds, rfl, hd, sh, q⟩
  obtain ⟨p, xs, rfl, hS, ha⟩ := Dp.tupE hd
  show t_is_token K a _ [some (.ref p)] H
  unfold t_is_token
  walk_at "sm"
  refine ⟨_, .inr hS, ?_⟩
  have hl := DpAll.len ha
  rcases sh with rfl | ⟨w, args, rfl⟩
  · refine iteNP (fun _ => q) (fun z => ?_)
    rw [hl] at z
    exact absurd z (by decide)
  · refine iteNP (fun n3 => ?_) (fun e3 => ?_)
    · rcases args with _ | ⟨x, _ | ⟨y, _ | ⟨z, r⟩⟩⟩
      · exact q
      · exact q
      · exact absurd (by rw [hl]; rfl) n3
      · exact q
    · rw [hl] at e3
      rcases args with _ | ⟨x, _ | ⟨y, _ | ⟨z, r⟩⟩⟩
      · exact absurd e3 (by simp)
      · exact absurd e3 (by simp)
      · cases ha with
        | cons h0 h1 =>
          cases h1 with
          | cons hx h2 =>
            cases h2 with
            | cons hy h3 =>
              cases h3
              cases h0
              refine ⟨_, hS, _, rfl, a.k_TOKENS_packets, _, rfl, .inr (T.t_TOKENS_packets.sq H), rfl, by decide, ?_⟩
              simp only [if_true]
              rw [show ([V.str "out", V.str "in", V.str "setup"] : List V) = tokW.map V.str from rfl, inV_strs]
              have q2 : Q (.bl (decide (w ∈ tokW) && (isNum x.d 0 127 && isNum y.d 0 15))) H := q
              refine ⟨_, rfl, iteB (fun c => ?_) (fun c => ?_)⟩
              · have : decide (w ∈ tokW) = false := by simpa using c
                rw [this] at q2
                exact q2
              · have : decide (w ∈ tokW) = true := by simpa using c
                rw [this, Bool.true_and] at q2
                refine ⟨_, hS, _, rfl, _, _, _, _, rfl, hx, x.nb, ?_⟩
                refine ⟨_, rfl, iteB (fun c => ?_) (fun c => ?_)⟩
                · rw [c, Bool.true_and] at q2
                  exact ⟨_, hS, _, rfl, _, _, _, _, rfl, hy, y.nb, q2⟩
                · rw [c] at q2
                  exact q2
      · exact absurd e3 (by simp; omega)
theorem rd_is_frame : RD (sp_is_frame K a) (t_is_frame K a) N_is_frame := by
  rintro vs H Q E ⟨v, ds, rfl, hd, sh, q⟩
  obtain ⟨p, xs, rfl, hS, ha⟩ := Dp.tupE hd
  show t_is_frame K a _ [some (.ref p)] H
  unfold t_is_frame
  walk_at "sm"
  refine ⟨_, .inr hS, ?_⟩
  have hl := DpAll.len ha
  rcases sh with rfl | ⟨w, args, rfl⟩
  · refine iteP (fun z => ?_) (fun _ => q)
    rw [hl] at z
    exact absurd z (by decide)
  · refine iteP (fun e2 => ?_) (fun n2 => ?_)
    · rw [hl] at e2
      rcases args with _ | ⟨x, _ | ⟨y, r⟩⟩
      · exact absurd e2 (by simp)
      · cases ha with
        | cons h0 h1 =>
          cases h1 with
          | cons hx h2 =>
            cases h2
            cases h0
            refine ⟨_, hS, _, rfl, rfl, ?_⟩
            have q2 : Q (.bl (decide (w = "frame") && isNum x.d 0 2047)) H := q
            walk_at "sm"
            refine iteP (fun c => ?_) (fun c => ?_)
            · rw [decide_eq_true c, Bool.true_and] at q2
              exact ⟨_, hS, _, rfl, _, _, _, _, rfl, hx, x.nb, q2⟩
            · rw [decide_eq_false c] at q2
              exact q2
      · exact absurd e2 (by simp; omega)
    · rcases args with _ | ⟨x, _ | ⟨y, r⟩⟩
      · exact q
      · exact absurd (by rw [hl]; rfl) n2
      · exact q
theorem allByte_num (ns : List Int) : ((ns.map PyData.int).all fun d => isNum d 0 255) = ns.all byteN := by
  rw [List.all_map]
  rfl
theorem rd_is_piece : RD (sp_is_piece K a) (t_is_piece K a) N_is_piece := by
  rintro vs H Q E ⟨v, x, rfl, hd, hl, q⟩
  show t_is_piece K a _ [some v] H
  unfold t_is_piece
  walk_at "sm"
  refine isi hd (by decide) ?_
  cases x with
  | int i =>
    rw [show isTyp (Arg.int i).d "tuple" = false from by show isTypN "int" "tuple" = false; decide]
    walk_at "sm"
    exact q H (Same.refl _)
  | byt ns =>
    obtain ⟨p, xs, rfl, hS, ha⟩ := Dp.tupE hd
    rw [show isTyp (Arg.byt ns).d "tuple" = true from by show isTypN "tuple" "tuple" = true; decide]
    walk_at "sm"
    have ex : xs = ns.map V.int := by
      clear hS hd hl q
      induction ns generalizing xs with
      | nil =>
        cases ha
        rfl
      | cons n ns ih =>
        cases ha with
        | cons h1 h2 =>
          cases h1
          rw [ih _ h2]
          rfl
    subst ex
    have hl2 := hl ns rfl
    have qq : ∀ H', Ex H H' → Q (.bl (decide (ns.length ≤ 64) && ns.all byteN)) H' := fun H' e => by
      have := q H' e
      rw [show isPcD (Arg.byt ns).d = (decide ((ns.map PyData.int).length ≤ 64) && (ns.map PyData.int).all fun d => isNum d 0 255) from rfl, allByte_num, List.length_map] at this
      exact this
    refine ⟨_, .inr hS, iteP (fun c => ?_) (fun c => ?_)⟩
    · rw [List.length_map] at c
      refine ⟨p, ns, rfl, hS, hl2, fun H' e => ?_⟩
      have := qq H' e
      rwa [decide_eq_true (show ns.length ≤ 64 by omega), Bool.true_and] at this
    · rw [List.length_map] at c
      have := qq H (Same.refl _)
      rwa [decide_eq_false (show ¬ ns.length ≤ 64 by omega), Bool.false_and] at this
theorem rd_is_data : RD (sp_is_data K a) (t_is_data K a) N_is_data := by
  rintro vs H Q E ⟨v, ds, rfl, hd, sh, sm, q⟩
  obtain ⟨p, xs, rfl, hS, ha⟩ := Dp.tupE hd
  show t_is_data K a _ [some (.ref p)] H
  unfold t_is_data
  walk_at "sm"
  refine ⟨_, .inr hS, ?_⟩
  have hl := DpAll.len ha
  have q0 := q H (Same.refl _)
  rcases sh with rfl | ⟨w, args, rfl⟩
  · refine iteNP (fun _ => q0) (fun z => ?_)
    rw [hl] at z
    exact absurd z (by decide)
  · refine iteNP (fun n3 => ?_) (fun e3 => ?_)
    · rcases args with _ | ⟨x, _ | ⟨y, _ | ⟨z, r⟩⟩⟩
      · exact q0
      · exact q0
      · exact absurd (by rw [hl]; rfl) n3
      · exact q0
    · rw [hl] at e3
      rcases args with _ | ⟨x, _ | ⟨y, _ | ⟨z, r⟩⟩⟩
      · exact absurd e3 (by simp)
      · exact absurd e3 (by simp)
      · cases ha with
        | cons h0 h1 =>
          cases h1 with
          | cons hx h2 =>
            cases h2 with
            | cons hy h3 =>
              cases h3
              cases h0
              refine ⟨_, hS, _, rfl, rfl, ?_⟩
              walk_at "sm"
              have qq : ∀ H', Ex H H' → Q (.bl (decide (w = "data") && (isNum x.d 0 1 && isPcD y.d))) H' := q
              refine iteNP (fun c => ?_) (fun c => ?_)
              · have := qq H (Same.refl _)
                rwa [decide_eq_false (fun z => c (by rw [z]))] at this
              · have cw : w = "data" := by simpa using c
                refine ⟨_, hS, _, rfl, _, _, _, _, rfl, hx, x.nb, ?_⟩
                refine ⟨_, rfl, iteB (fun c => ?_) (fun c => ?_)⟩
                · refine ⟨_, hS, _, rfl, _, y, rfl, hy, fun ns e => ?_, fun H' e => ?_⟩
                  · refine sm ns ?_
                    rw [e]
                    simp [Arg.d]
                  · have := qq H' e
                    rwa [decide_eq_true cw, c, Bool.true_and, Bool.true_and] at this
                · have := qq H (Same.refl _)
                  rwa [decide_eq_true cw, c, Bool.true_and, Bool.false_and] at this
      · exact absurd e3 (by simp; omega)
theorem rd_is_answer (T : Txt K mg a) : RD (sp_is_answer K a) (t_is_answer K a) N_is_answer := by
  rintro vs H Q E ⟨v, ds, rfl, hd, sh, q⟩
  obtain ⟨p, xs, rfl, hS, ha⟩ := Dp.tupE hd
  show t_is_answer K a _ [some (.ref p)] H
  unfold t_is_answer
  walk_at "sm"
  refine ⟨_, .inr hS, ?_⟩
  have hl := DpAll.len ha
  rcases sh with rfl | ⟨w, args, rfl⟩
  · refine iteP (fun z => ?_) (fun _ => q)
    rw [hl] at z
    exact absurd z (by decide)
  · refine iteP (fun e1 => ?_) (fun n1 => ?_)
    · rw [hl] at e1
      rcases args with _ | ⟨x, r⟩
      · cases ha with
        | cons h0 h1 =>
          cases h1
          cases h0
          refine ⟨_, hS, _, rfl, a.k_ANSWERS, _, rfl, .inr (T.t_ANSWERS.sq H), rfl, by decide, ?_⟩
          simp only [if_false, Bool.false_eq_true]
          rw [show ([V.str "ack", V.str "nak", V.str "stall"] : List V) = ansW.map V.str from rfl, inV_strs]
          exact q
      · exact absurd e1 (by simp; omega)
    · rcases args with _ | ⟨x, r⟩
      · exact absurd (by rw [hl]; rfl) n1
      · exact q
end
end My

namespace My
open PySem PySem.Spec PyProof.Rows L2
section
variable {P : Program} {w : World} {K : PySem.W.Frag} {mg : Str → Option Value} {base : Heap} {a : Ad}
local macro_rules | `(tactic| walk_at "sm") => `(tactic| try simp only [tSeq, tAsg, tVar, tC, tOp, tUn, tRet, tRetN, tDrop, tIfS, tNext, tAnd, tOr, tNot, tB, tTest, tChain, tAndV, tOrV, tNotV, tIf, tCB, tCons, tNil, tCall, tCallS, tPar, rInRg, rNotInRg, rRg1, rRg2, tRaiseAt, tMkAt, tByAt, tCallN, tListR3, tLstRg, tRg1, tRaiseFr, tMkFr, tByFr, rMax2, rMin2, rInt1, rInKD, rNotInKD, tLst, tTup, tSl, tNoPart, tPart,
  tAug, ipI, gName, gSub, gTup, gCons, gNil, rI0, rI, rU, rEq, rNe, rIsN, rNotN, rAddI, rSubI, rMulI, rModI, rDivW, rPowI, rShlI, rShrI, rAndI, rOrI, rXorI, rLtI, rLeI, rGtI, rGeI, rNegI, rIxL, rIxT, rLenQ, rListOf, rTupleOf, rSetL, tRevL, tRaiseC, rSlL,
  List.getElem?_cons_zero, List.getElem?_cons_succ, List.set_cons_zero, List.set_cons_succ, Option.some.injEq, V.int.injEq, V.bl.injEq, V.ref.injEq, V.str.injEq, exists_eq_left', exists_eq_left, exists_and_left, List.cons.injEq, and_true, true_and, List.append_nil, scal, Int.reduceToNat, if_true, if_false, Bool.false_eq_true])
local macro_rules | `(tactic| walk_at "bg") => `(tactic| repeat (first
  | refine ⟨_, SqL.of (by assumption), _, rfl, ?_⟩
  | refine ⟨_, SqL.of upd_same, _, rfl, ?_⟩
  | refine ⟨_, rfl, ?_⟩
  | refine ⟨_, (by assumption), _, rfl, ?_⟩
  | refine ⟨_, upd_same, _, rfl, ?_⟩
  | refine ⟨Or.inr ⟨by omega, by omega⟩, ?_⟩
  | refine ⟨Or.inl ⟨by omega, by omega⟩, ?_⟩
  | refine ⟨(show (0 : Int) < _ by omega), ?_⟩
  | refine ⟨_, .inl (SqL.of upd_same), ?_⟩
  | refine ⟨_, .inl (by assumption), ?_⟩))
local macro_rules | `(tactic| walk_at "ty") => `(tactic| try simp only [tyS, tyL, tyT, if_true, if_false, Bool.false_eq_true, reduceCtorEq, decide_false, decide_true, exists_eq_left', exists_eq_left, V.bl.injEq, and_true, true_and, Bool.not_true, Bool.not_false, decide_eq_true_eq, Bool.true_and, Bool.and_true])
theorem at0 {v : V} {r : List V} : atI (v :: r) 0 = some v := at_of (j := 0) (by simp) rfl
theorem jr_open {H : Hp} {v : V} {r : Jr} (h : Dp K H v r.d) : ∃ p q xs, v = .ref p ∧ SqT K H p [.int r.fr, .str r.who, .ref q, .bl r.came] ∧ SqT K H q (.str r.w :: xs) ∧ DpAll K H xs (r.args.map Arg.d) := by
  obtain ⟨p, ys, rfl, h1, h2⟩ := h.tupE
  obtain ⟨v1, r1, rfl, a1, h2⟩ := h2.consE
  obtain ⟨v2, r2, rfl, a2, h2⟩ := h2.consE
  obtain ⟨v3, r3, rfl, a3, h2⟩ := h2.consE
  obtain ⟨v4, r4, rfl, a4, h2⟩ := h2.consE
  cases h2.nilE
  cases a1.intE
  cases a2.strE
  cases a4.blE
  obtain ⟨q, zs, rfl, h3, h4⟩ := a3.tupE
  obtain ⟨w1, r5, rfl, b1, h5⟩ := DpAll.consE h4
  cases b1.strE
  exact ⟨p, q, r5, rfl, h1, h3, h5⟩
theorem jr_pk {H : Hp} {q : Addr} {w : Str} {xs : List V} {args : List Arg} (h : SqT K H q (.str w :: xs)) (g : DpAll K H xs (args.map Arg.d)) : Dp K H (.ref q) (.tuple (pkD w args)) := .tup h (.cons (.str _) g)
theorem pk_open {H : Hp} {v : V} {w : Str} {args : List Arg} (h : Dp K H v (.tuple (pkD w args))) : ∃ p xs, v = .ref p ∧ SqT K H p (.str w :: xs) ∧ DpAll K H xs (args.map Arg.d) := by
  obtain ⟨q, zs, rfl, h3, h4⟩ := h.tupE
  obtain ⟨w1, r5, rfl, b1, h5⟩ := DpAll.consE h4
  cases b1.strE
  exact ⟨q, r5, rfl, h3, h5⟩
theorem rd_is_packet : RD (sp_is_packet K a) (t_is_packet K a) N_is_packet := by
  rintro vs H Q E ⟨v, ds, rfl, hd, sh, sm, q⟩
  show t_is_packet K a _ [some v] H
  unfold t_is_packet
  walk_at "sm"
  have q0 := q H (Same.refl _)
  unfold isPkD at q q0
  refine ⟨v, ds, rfl, hd, sh, _, rfl, iteB (fun c => ?_) (fun c => ?_)⟩
  · rw [c, Bool.true_or] at q0
    exact q0
  · rw [c, Bool.false_or] at q0
    simp only [c, Bool.false_or] at q
    refine ⟨v, ds, rfl, hd, sh, _, rfl, iteB (fun c => ?_) (fun c => ?_)⟩
    · rw [c, Bool.true_or] at q0
      exact q0
    · simp only [c, Bool.false_or] at q
      refine ⟨v, ds, rfl, hd, sh, sm, fun H1 e1 => ⟨_, rfl, iteB (fun c => ?_) (fun c => ?_)⟩⟩
      · have := q H1 e1
        rw [c, Bool.true_or] at this
        exact this
      · have := q H1 e1
        rw [c, Bool.false_or] at this
        exact ⟨v, ds, rfl, Ex.dp e1 _ _ hd, sh, this⟩
theorem prA {H : Hp} {p : Addr} {x y : Str} (h : SqT K H p [.str x, .str y]) : Dp K H (.ref p) (prD (x, y)) := .tup h (.cons (.str _) (.cons (.str _) .nil))
theorem allFree (T : Txt K mg a) (H : Hp) : DpAll K H [.ref a.k_FREE_0, .ref a.k_FREE_1, .ref a.k_FREE_2, .ref a.k_FREE_3] (freeL.map prD) :=
  .cons (prA (T.kt_FREE_0.sq H)) (.cons (prA (T.kt_FREE_1.sq H)) (.cons (prA (T.kt_FREE_2.sq H)) (.cons (prA (T.kt_FREE_3.sq H)) .nil)))
theorem allIn (T : Txt K mg a) (H : Hp) : DpAll K H [.ref a.k_ANSWERS_TO_IN_0, .ref a.k_ANSWERS_TO_IN_1, .ref a.k_ANSWERS_TO_IN_2] (([("thing", "data"), ("thing", "nak"), ("thing", "stall")] : List (Str × Str)).map prD) :=
  .cons (prA (T.kt_ANSWERS_TO_IN_0.sq H)) (.cons (prA (T.kt_ANSWERS_TO_IN_1.sq H)) (.cons (prA (T.kt_ANSWERS_TO_IN_2.sq H)) .nil))
theorem allPc (T : Txt K mg a) (H : Hp) : DpAll K H [.ref a.k_ANSWERS_TO_PIECE_0, .ref a.k_ANSWERS_TO_PIECE_1, .ref a.k_ANSWERS_TO_PIECE_2] (([("thing", "ack"), ("thing", "nak"), ("thing", "stall")] : List (Str × Str)).map prD) :=
  .cons (prA (T.kt_ANSWERS_TO_PIECE_0.sq H)) (.cons (prA (T.kt_ANSWERS_TO_PIECE_1.sq H)) (.cons (prA (T.kt_ANSWERS_TO_PIECE_2.sq H)) .nil))
theorem rd_said_behind (T : Txt K mg a) : RD (sp_said_behind K a) (t_said_behind K a) N_said_behind := by
  rintro vs H Q E ⟨v, r, rfl, hd, q⟩
  obtain ⟨p, b, xs, rfl, hS, hP, hA⟩ := jr_open hd
  show t_said_behind K a _ [some (.ref p), none, none, none, none, none] H
  unfold t_said_behind
  walk_at "sm"
  refine ⟨_, hS, rfl, _, _, rfl, _, _, rfl, _, _, rfl, _, _, rfl, rfl, _, rfl, _, hP, _, at0, up2, fun z hz => ⟨_, [("out" : Str), "setup"].map V.str, rfl, .inr (SqT.of upd_same), rfl, by decide, _, rfl, ?_⟩⟩
  rw [inV_strs]
  have n1 := Ex.new hz (o := .tup [V.str "out", V.str "setup"])
  generalize upd H z (.tup [V.str "out", V.str "setup"]) = H1 at n1
  unfold behP at q
  have free : ∀ H', Ex H H' → kdJ r.w r.who r.came = 1 → Q (.ref a.k_FREE) H' := fun H' e h => by
    rw [h] at q
    exact q _ H' e (.tup (T.t_FREE.sq H') (allFree T H'))
  refine iteP (fun c => ?_) (fun c => ?_)
  · have hk : kdJ r.w r.who r.came = 0 := if_pos c
    rw [hk] at q
    exact q _ H1 n1 (.tup (T.t_BEHIND_OUT.sq H1) (.cons (prA (T.kt_BEHIND_OUT_0.sq H1)) .nil))
  · have hk : kdJ r.w r.who r.came = if r.came = false then 1 else if r.w = "in" then 2 else if r.w = "data" then (if r.who = "host" then 3 else 4) else 1 := if_neg c
    refine ⟨_, rfl, ?_⟩
    cases hc : r.came with
    | false =>
      rw [if_pos hc] at hk
      exact iteY rfl (free H1 n1 hk)
    | true =>
      rw [if_neg (by rw [hc]; decide)] at hk
      refine iteN rfl ⟨rfl, iteP (fun c2 => ?_) (fun c2 => ⟨rfl, iteP (fun c3 => ?_) (fun c3 => ?_)⟩)⟩
      · rw [if_pos (V.str.inj c2)] at hk
        rw [hk] at q
        refine catT_go (T.t_FREE.sq H1) (T.t_ANSWERS_TO_IN.sq H1) (by show 4 + 3 ≤ 100000; decide) fun t H2 e2 h2 => q _ H2 (Same.trans n1 e2) (.tup h2 ?_)
        show DpAll K H2 _ ((freeL ++ _).map prD)
        rw [List.map_append]
        exact DpAll.app (allFree T H2) (allIn T H2)
      · rw [if_neg (fun z => c2 (congrArg V.str z)), if_pos (V.str.inj c3)] at hk
        refine ⟨rfl, iteP (fun c4 => ?_) (fun c4 => ?_)⟩
        · rw [if_pos (V.str.inj c4)] at hk
          rw [hk] at q
          refine catT_go (T.t_FREE.sq H1) (T.t_ANSWERS_TO_PIECE.sq H1) (by show 4 + 3 ≤ 100000; decide) fun t H2 e2 h2 => q _ H2 (Same.trans n1 e2) (.tup h2 ?_)
          show DpAll K H2 _ ((freeL ++ _).map prD)
          rw [List.map_append]
          exact DpAll.app (allFree T H2) (allPc T H2)
        · rw [if_neg (fun z => c4 (congrArg V.str z))] at hk
          rw [hk] at q
          exact q _ H1 n1 (.tup (T.t_BEHIND_GIVEN.sq H1) (.cons (prA (T.kt_BEHIND_GIVEN_0.sq H1)) .nil))
      · rw [if_neg (fun z => c2 (congrArg V.str z)), if_neg (fun z => c3 (congrArg V.str z))] at hk
        exact free H1 n1 hk
theorem JP.frame {w : Str} {args : List Arg} (h : JP w args) (hw : w = "frame") : ∃ i, args = [.int i] := by
  cases h with
  | frm i => exact ⟨i, rfl⟩
  | tok w i j h => subst hw; exact absurd h (by decide)
  | dat i ns h g => exact absurd hw (by decide)
  | ans w h => subst hw; exact absurd h (by decide)
  | odd0 w h => subst hw; exact absurd h (by decide)
  | odd1 w i h => subst hw; exact absurd h (by decide)
  | odd2 w i j h => subst hw; exact absurd h (by decide)
  | odd3 w i ns h => subst hw; exact absurd h (by decide)
theorem JP.data {w : Str} {args : List Arg} (h : JP w args) (hw : w = "data") : ∃ i ns, args = [.int i, .byt ns] ∧ ns.length ≤ 9 ∧ ns.all byteN = true := by
  cases h with
  | frm i => exact absurd hw (by decide)
  | tok w i j h => subst hw; exact absurd h (by decide)
  | dat i ns h g => exact ⟨i, ns, rfl, h, g⟩
  | ans w h => subst hw; exact absurd h (by decide)
  | odd0 w h => subst hw; exact absurd h (by decide)
  | odd1 w i h => subst hw; exact absurd h (by decide)
  | odd2 w i j h => subst hw; exact absurd h (by decide)
  | odd3 w i ns h => subst hw; exact absurd h (by decide)
theorem dec_int (i j : Int) : decide (V.int i = V.int j) = decide (i = j) := by
  by_cases h : i = j
  · rw [decide_eq_true h, decide_eq_true (congrArg V.int h)]
  · rw [decide_eq_false h, decide_eq_false fun z => h (V.int.inj z)]
theorem rd_is_numbered : RD (sp_is_numbered K a) (t_is_numbered K a) N_is_numbered := by
  rintro vs H Q E ⟨v, r, ahead, rfl, hd, jp, q⟩
  obtain ⟨p, b, xs, rfl, hS, hP, hA⟩ := jr_open hd
  show t_is_numbered K a _ [some (.ref p), some (.int ahead), none, none, none] H
  unfold t_is_numbered
  walk_at "sm"
  refine ⟨_, hS, rfl, _, _, rfl, _, _, rfl, _, _, rfl, _, _, rfl, rfl, _, rfl, _, hP, _, at0, rfl, iteNP (fun c => ?_) (fun c => ?_)⟩
  · have e : numP r ahead = decide (r.fr = ahead) := if_pos (fun z => c (congrArg V.str z))
    rw [e] at q
    refine ⟨rfl, ?_⟩
    rw [dec_int]
    exact q
  · have cw : r.w = "frame" := V.str.inj c
    have e : numP r ahead = if r.fr < 0 ∨ arg1 r.args ≠ r.fr % 2048 then false else decide (ahead < 0) || decide (r.fr = ahead + 1) := if_neg (not_not_intro cw)
    rw [e] at q
    obtain ⟨i, hi⟩ := jp.frame cw
    rw [hi] at hA q
    obtain ⟨v1, r1, rfl, a1, hA⟩ := DpAll.consE hA
    cases a1.intE
    refine ⟨_, rfl, iteP (fun c2 => ?_) (fun c2 => ?_)⟩
    · rw [if_pos (.inl c2)] at q
      exact q
    · refine ⟨_, rfl, _, hP, _, at_of (j := 1) rfl rfl, _, rfl, by decide, rfl, iteNP (fun c3 => ?_) (fun c3 => ?_)⟩
      · rw [if_pos (.inr fun z => c3 (congrArg V.int z))] at q
        exact q
      · rw [if_neg (fun z => z.elim c2 fun z => z (V.int.inj c3))] at q
        refine iteP (fun c4 => ?_) (fun c4 => ?_)
        · rw [decide_eq_true c4, Bool.true_or] at q
          exact q
        · rw [decide_eq_false c4, Bool.false_or] at q
          refine ⟨rfl, ?_⟩
          rw [dec_int]
          exact q
theorem rd_room_behind (T : Txt K mg a) : RD (sp_room_behind K a) (t_room_behind K a) N_room_behind := by
  rintro vs H Q E ⟨v, room, w, args, rfl, hd, jp, q⟩
  obtain ⟨p, xs, rfl, hS, hA⟩ := pk_open hd
  show t_room_behind K a _ [some (.int room), some (.ref p)] H
  unfold t_room_behind
  walk_at "sm"
  unfold roomP at q
  refine ⟨_, hS, _, at0, rfl, iteP (fun c => ?_) (fun c => ?_)⟩
  · rw [if_pos (V.str.inj c)] at q
    exact q
  · rw [if_neg (fun z => c (congrArg V.str z))] at q
    refine ⟨_, hS, _, at0, _, tokW.map V.str, rfl, .inr (T.t_TOKENS_journal.sq H), rfl, by decide, _, rfl, ?_⟩
    rw [inV_strs]
    refine iteP (fun c2 => ?_) (fun c2 => ?_)
    · rw [if_pos c2] at q
      exact q
    · rw [if_neg c2] at q
      refine ⟨_, hS, _, at0, rfl, iteP (fun c3 => ?_) (fun c3 => ?_)⟩
      · rw [if_pos (V.str.inj c3)] at q
        obtain ⟨i, ns, rfl, _, _⟩ := jp.data (V.str.inj c3)
        obtain ⟨v1, r1, rfl, a1, hA⟩ := DpAll.consE hA
        obtain ⟨v2, r2, rfl, a2, hA⟩ := DpAll.consE hA
        obtain ⟨q2, rfl, h2⟩ := Dp.intsE a2
        refine ⟨_, hS, _, at_of (j := 2) rfl rfl, _, rfl, _, .inr h2, ?_⟩
        rw [List.length_map]
        exact q
      · rw [if_neg (fun z => c3 (congrArg V.str z))] at q
        exact q
def wAll : List Str := ["out", "in", "setup", "frame", "data", "ack", "nak", "stall", "", "token"]
theorem JP.word {x : Str} {args : List Arg} (h : JP x args) : x ∈ wAll := by
  have t : ∀ x ∈ tokW, x ∈ wAll := by decide
  have n : ∀ x ∈ ansW, x ∈ wAll := by decide
  have o : ∀ x ∈ odd4, x ∈ wAll := by decide
  cases h with
  | frm i => decide
  | tok w i j h => exact t _ h
  | dat i ns h g => decide
  | ans w h => exact n _ h
  | odd0 w h => exact o _ h
  | odd1 w i h => exact o _ h
  | odd2 w i j h => exact o _ h
  | odd3 w i ns h => exact o _ h
def mayS : List (List (Str × Str)) := [may0, behK 0, behK 1, behK 2, behK 3, behK 4]
theorem behP_in (r : Jr) : behP r ∈ mayS := by
  unfold behP kdJ
  split
  · simp [mayS]
  · split
    · simp [mayS]
    · split
      · simp [mayS]
      · split
        · split <;> simp [mayS]
        · simp [mayS]
theorem may_shp : ∀ may ∈ mayS, SeqAt.shaped (.tuple (may.map prD)) = true := by decide +kernel
theorem pr_shp {x y : Str} (hx : x ∈ who4) (hy : y ∈ wAll) : SeqAt.shaped (prD (x, y)) = true := by
  have : ∀ x ∈ who4, ∀ y ∈ wAll, SeqAt.shaped (prD (x, y)) = true := by decide +kernel
  exact this x hx y hy
theorem any_pr (may : List (Str × Str)) (x : Str × Str) : ((may.map prD).any fun z => PyData.eqv z (prD x)) = decide (x ∈ may) := by
  induction may with
  | nil => rfl
  | cons y ys ih =>
    rw [List.map_cons, List.any_cons, ih]
    have : PyData.eqv (prD y) (prD x) = decide (x = y) := by
      obtain ⟨x1, x2⟩ := x
      obtain ⟨y1, y2⟩ := y
      show (y1 == x1 && (y2 == x2 && true)) = _
      rw [beq_dec, beq_dec, Bool.and_true]
      by_cases h1 : y1 = x1
      · by_cases h2 : y2 = x2
        · subst h1 h2; simp
        · rw [decide_eq_false h2, Bool.and_false]; exact (decide_eq_false fun z => h2 (Prod.mk.inj z).2.symm).symm
      · rw [decide_eq_false h1, Bool.false_and]; exact (decide_eq_false fun z => h1 (Prod.mk.inj z).1.symm).symm
    rw [this]
    by_cases h : x = y
    · simp [h]
    · simp [h]
theorem JP.shape {w : Str} {args : List Arg} : Shape (pkD w args) := .inr ⟨w, args, rfl⟩
theorem JP.small {w : Str} {args : List Arg} (h : JP w args) : Small (pkD w args) := by
  intro ns hn
  have key : ∀ (x : Arg) (ms : List Int), x = .byt ms → ms.length ≤ 9 → PyData.tuple (ns.map PyData.int) = x.d → ns.length ≤ 1000 := by
    intro x ms hx hl e
    subst hx
    have e1 : ns.map PyData.int = ms.map PyData.int := PyData.tuple.inj e
    have : ns.length = ms.length := by
      have := congrArg List.length e1
      simpa using this
    omega
  unfold pkD at hn
  cases h with
  | dat i ms hl hb =>
    simp only [List.map_cons, List.map_nil, List.mem_cons, List.not_mem_nil, or_false] at hn
    rcases hn with h | h | h
    · cases h
    · cases h
    · exact key _ ms rfl hl h
  | odd3 w i ms ho hl hb =>
    simp only [List.map_cons, List.map_nil, List.mem_cons, List.not_mem_nil, or_false] at hn
    rcases hn with h | h | h
    · cases h
    · cases h
    · exact key _ ms rfl hl h
  | _ =>
    simp only [List.map_cons, List.map_nil, List.mem_cons, List.not_mem_nil, or_false] at hn
    first
      | (rcases hn with h | h | h <;> cases h)
      | (rcases hn with h | h <;> cases h)
      | cases hn
theorem rd_first_wrong (T : Txt K mg a) : RD (sp_first_wrong K a) (t_first_wrong K a) N_first_wrong := by
  rintro vs H Q E ⟨v, rs, rfl, hd, hw, q⟩
  obtain ⟨p, xs, rfl, hS, hA⟩ := hd.lstE
  have hlen : xs.length = rs.length := by rw [DpAll.len hA, List.length_map]
  show t_first_wrong K a _ [some (.ref p), none, none, none, none, none, none] H
  unfold t_first_wrong
  walk_at "sm"
  refine forE (a := p) (xs := xs) 4 5 (fun j σ H' => (∃ m ahead room x4 x5 x6 may, may ∈ mayS ∧ σ = [some (.ref p), some m, some (.int ahead), some (.int room), x4, x5, x6] ∧ Dp K H' m (prsD may) ∧ fwP may ahead room (rs.drop j) j = fwP may0 (-1) 0 rs 0) ∧ Ex H H') (fun R r => by walk_at "sm"; exact r) hS ⟨⟨_, _, _, _, _, _, may0, by simp [mayS], rfl, .tup (T.t_BEGINNING.sq H) (.cons (prA (T.kt_BEGINNING_0.sq H)) .nil), rfl⟩, Same.refl _⟩ (fun j σ H' h => Ex.sqL h.2 hS) (fun j σ H' T o h hT => ?_) ?hs ?hd
  · obtain ⟨⟨m, ahead, room, x4, x5, x6, may, h0, h1, h2, h3⟩, e⟩ := h
    exact ⟨⟨m, ahead, room, x4, x5, x6, may, h0, h1, Ex.dp (Ex.new hT) _ _ h2, h3⟩, Same.trans e (Ex.new hT)⟩
  case hd =>
    rintro σ H1 ⟨⟨m, ahead, room, x4, x5, x6, may, hm, rfl, h2, h3⟩, e⟩
    walk_at "sm"
    rw [hlen, List.drop_length] at h3
    have := q H1 e
    rw [← h3] at this
    exact this
  case hs =>
    rintro j x σ H1 hx ⟨⟨m, ahead, room, x4, x5, x6, may, hm, rfl, h2, h3⟩, e⟩
    have hj : j < rs.length := by
      have := (List.getElem?_eq_some_iff.mp hx).1
      omega
    obtain ⟨v', e1, hv⟩ := DpAll.get hA (show (rs.map Jr.d)[j]? = some rs[j].d by rw [List.getElem?_map, List.getElem?_eq_getElem hj]; rfl)
    rw [hx] at e1
    cases e1
    have hr := hw rs[j] (List.getElem_mem hj)
    rw [List.drop_eq_getElem_cons hj] at h3
    generalize rs[j] = r at hv hr h3
    obtain ⟨p1, b, ys, rfl, hR, hP, hB⟩ := jr_open (Ex.dp e _ _ hv)
    have dr := Ex.dp e _ _ hv
    have dp := jr_pk hP hB
    walk_at "sm"
    have ret : ∀ H', Ex H1 H' → fwP may ahead room (r :: rs.drop (j + 1)) j = j → Q (.int (j : Nat)) H' := fun H' e' h => by
      have := q H' (Same.trans e e')
      rw [← h3, h] at this
      exact this
    refine ⟨_, hR, _, rfl, _, hR, _, rfl, _, rfl, _, hP, _, at0, up2, fun z hz => ?_⟩
    have n1 := Ex.new hz (o := .tup [V.str r.who, .str r.w])
    have hz' : Dp K (upd H1 z (.tup [V.str r.who, .str r.w])) (.ref z) (prD (r.who, r.w)) := prA (SqT.of upd_same)
    generalize upd H1 z (.tup [V.str r.who, .str r.w]) = H2 at n1 hz'
    refine ⟨prD (r.who, r.w), may.map prD, hz', Ex.dp n1 _ _ h2, pr_shp hr.1 hr.2.word, may_shp may hm, _, rfl, ?_⟩
    rw [any_pr]
    have f1 : okP may ahead r = (decide ((r.who, r.w) ∈ may) && (isPkD (pkD r.w r.args) && numP r ahead)) := rfl
    have no : okP may ahead r = false → fwP may ahead room (r :: rs.drop (j + 1)) j = j := fun h => if_neg (by rw [h]; decide)
    refine iteNP (fun c => ?_) (fun c => ?_)
    · exact ret H2 n1 (no (by rw [f1, decide_eq_false c]; rfl))
    rw [decide_eq_true c, Bool.true_and] at f1
    refine ⟨_, _, rfl, Ex.dp n1 _ _ dp, JP.shape, hr.2.small, fun H3 e3 => ⟨_, rfl, ?_⟩⟩
    have e13 := Same.trans n1 e3
    cases c2 : isPkD (pkD r.w r.args) with
    | false => exact iteY rfl (ret H3 e13 (no (by rw [f1, c2]; rfl)))
    | true =>
      rw [c2, Bool.true_and] at f1
      refine iteN rfl ⟨_, r, ahead, rfl, Ex.dp e13 _ _ dr, hr.2, _, rfl, ?_⟩
      cases c3 : numP r ahead with
      | false => exact iteY rfl (ret H3 e13 (no (by rw [f1, c3])))
      | true =>
        rw [c3] at f1
        have yes : fwP may ahead room (r :: rs.drop (j + 1)) j = if 1500 < roomP room r.w r.args then ((j : Nat) : Int) else fwP (behP r) r.fr (roomP room r.w r.args) (rs.drop (j + 1)) (j + 1) := if_pos f1
        refine iteN rfl ⟨_, room, r.w, r.args, rfl, Ex.dp e13 _ _ dp, hr.2, _, rfl, iteP (fun c4 => ?_) (fun c4 => ?_)⟩
        · exact ret H3 e13 (by rw [yes, if_pos c4])
        · rw [if_neg c4] at yes
          refine ⟨_, r, rfl, Ex.dp e13 _ _ dr, fun t H4 e4 h4 => ⟨_, Ex.sqT (Same.trans e13 e4) hR, _, rfl, ?_⟩⟩
          refine ⟨⟨_, _, _, _, _, _, _, behP_in r, ⟨rfl, rfl, rfl, rfl, rfl, rfl⟩, h4, ?_⟩, Same.trans e (Same.trans e13 e4)⟩
          rw [← yes, h3]
end
end My

namespace My
open PySem PySem.Spec PyProof.Rows L2
section
variable {P : Program} {w : World} {K : PySem.W.Frag} {mg : Str → Option Value} {base : Heap} {a : Ad}
local macro_rules | `(tactic| walk_at "sm") => `(tactic| try simp only [tSeq, tAsg, tVar, tC, tOp, tUn, tRet, tRetN, tDrop, tIfS, tNext, tAnd, tOr, tNot, tB, tTest, tChain, tAndV, tOrV, tNotV, tIf, tCB, tCons, tNil, tCall, tCallS, tPar, rInRg, rNotInRg, rRg1, rRg2, tRaiseAt, tMkAt, tByAt, tCallN, tListR3, tLstRg, tRg1, tRaiseFr, tMkFr, tByFr, rMax2, rMin2, rInt1, rInKD, rNotInKD, tLst, tTup, tSl, tNoPart, tPart,
  tAug, ipI, gName, gSub, gTup, gCons, gNil, rI0, rI, rU, rEq, rNe, rIsN, rNotN, rAddI, rSubI, rMulI, rModI, rDivW, rPowI, rShlI, rShrI, rAndI, rOrI, rXorI, rLtI, rLeI, rGtI, rGeI, rNegI, rIxL, rIxT, rLenQ, rListOf, rTupleOf, rSetL, tRevL, tRaiseC, rSlL,
  List.getElem?_cons_zero, List.getElem?_cons_succ, List.set_cons_zero, List.set_cons_succ, Option.some.injEq, V.int.injEq, V.bl.injEq, V.ref.injEq, V.str.injEq, exists_eq_left', exists_eq_left, exists_and_left, List.cons.injEq, and_true, true_and, List.append_nil, scal, Int.reduceToNat, if_true, if_false, Bool.false_eq_true])
local macro_rules | `(tactic| walk_at "bg") => `(tactic| repeat (first
  | refine ⟨_, SqL.of (by assumption), _, rfl, ?_⟩
  | refine ⟨_, SqL.of upd_same, _, rfl, ?_⟩
  | refine ⟨_, rfl, ?_⟩
  | refine ⟨_, (by assumption), _, rfl, ?_⟩
  | refine ⟨_, upd_same, _, rfl, ?_⟩
  | refine ⟨Or.inr ⟨by omega, by omega⟩, ?_⟩
  | refine ⟨Or.inl ⟨by omega, by omega⟩, ?_⟩
  | refine ⟨(show (0 : Int) < _ by omega), ?_⟩
  | refine ⟨_, .inl (SqL.of upd_same), ?_⟩
  | refine ⟨_, .inl (by assumption), ?_⟩))
local macro_rules | `(tactic| walk_at "ty") => `(tactic| try simp only [tyS, tyL, tyT, if_true, if_false, Bool.false_eq_true, reduceCtorEq, decide_false, decide_true, exists_eq_left', exists_eq_left, V.bl.injEq, and_true, true_and, Bool.not_true, Bool.not_false, decide_eq_true_eq, Bool.true_and, Bool.and_true])
theorem inI (i : Int) (l : List Int) : inV (.int i) (l.map V.int) = decide (i ∈ l) := by
  induction l with
  | nil => rfl
  | cons x ws ih =>
    show (eqV (.int x) (.int i) || inV (.int i) (ws.map V.int)) = _
    rw [ih]
    by_cases e : x = i
    · subst e
      simp [eqV]
    · simp [eqV, e, Ne.symm e]
def szN (x : Str) : Option Nat := if x ∈ [("out" : Str), "in", "setup", "data"] then some 3 else if x = "frame" then some 2 else if x ∈ ansW then some 1 else none
abbrev szL : List (Key × V) := [(.inr "out", V.int 3), (.inr "in", .int 3), (.inr "setup", .int 3), (.inr "frame", .int 2), (.inr "data", .int 3), (.inr "ack", .int 1), (.inr "nak", .int 1), (.inr "stall", .int 1)]
theorem sz_val {x : Str} (h : x ∈ wAll) : valV (mergeK [] szL) (.inr x) = (szN x).map fun n => V.int (n : Nat) := by
  simp only [wAll, List.mem_cons, List.not_mem_nil, or_false] at h
  rcases h with rfl | rfl | rfl | rfl | rfl | rfl | rfl | rfl | rfl | rfl <;> rfl
theorem odd_cases {x : Str} (h : x ∈ odd4) : x = "ack" ∨ x = "" ∨ x = "stall" ∨ x = "token" := by simpa [odd4] using h
theorem JP.bad {x : Str} {args : List Arg} (h : JP x args) (g : ∀ n, szN x = some n → args.length + 1 ≠ n) : isPkD (pkD x args) = false := by
  cases h with
  | tok w i j h => exact absurd rfl (g 3 (by rcases (by simpa [tokW] using h) with rfl | rfl | rfl <;> rfl))
  | frm i => exact absurd rfl (g 2 rfl)
  | dat i ns h g' => exact absurd rfl (g 3 rfl)
  | ans w h => exact absurd rfl (g 1 (by rcases (by simpa [ansW] using h) with rfl | rfl | rfl <;> rfl))
  | odd0 w h => rcases odd_cases h with rfl | rfl | rfl | rfl <;> first | rfl | exact absurd rfl (g 1 rfl)
  | odd1 w i h => rcases odd_cases h with rfl | rfl | rfl | rfl <;> rfl
  | odd2 w i j h => rcases odd_cases h with rfl | rfl | rfl | rfl <;> rfl
  | odd3 w i ns h => rcases odd_cases h with rfl | rfl | rfl | rfl <;> rfl
/-- the packets that have the size of their word -/
inductive JN : Str → List Arg → Prop
  | tok (w : Str) (i j : Int) : w ∈ tokW → JN w [.int i, .int j]
  | frm (i : Int) : JN "frame" [.int i]
  | dat (i : Int) (ns : List Int) : ns.length ≤ 9 → ns.all byteN = true → JN "data" [.int i, .byt ns]
  | ans (w : Str) : w ∈ ansW → JN w []
theorem JP.nice {x : Str} {args : List Arg} (h : JP x args) {n : Nat} (hn : szN x = some n) (g : args.length + 1 = n) : JN x args := by
  subst g
  cases h with
  | tok w i j h => exact .tok _ _ _ h
  | frm i => exact .frm i
  | dat i ns h g' => exact .dat _ _ h g'
  | ans w h => exact .ans _ h
  | odd0 w h => rcases odd_cases h with rfl | rfl | rfl | rfl <;> first | exact .ans _ (by decide) | exact absurd hn (by decide)
  | odd1 w i h => rcases odd_cases h with rfl | rfl | rfl | rfl <;> exact absurd (show szN _ = some 2 from hn) (by decide)
  | odd2 w i j h => rcases odd_cases h with rfl | rfl | rfl | rfl <;> exact absurd (show szN _ = some 3 from hn) (by decide)
  | odd3 w i ns h _ _ => rcases odd_cases h with rfl | rfl | rfl | rfl <;> exact absurd (show szN _ = some 3 from hn) (by decide)
theorem flat_spk (w : Str) : ((spk w).map V.str).all flatV = true := by
  unfold spk
  split
  · decide
  · split <;> decide
theorem rd__law_after : RD (sp__law_after K a) (t__law_after K a) N__law_after := by
  rintro vs H Q E ⟨v, r, rfl, hd, q⟩
  obtain ⟨p, b, xs, rfl, hS, hP, hA⟩ := jr_open hd
  show t__law_after K a _ [some (.ref p), none, none, none, none, none] H
  unfold t__law_after
  walk_at "sm"
  refine ⟨_, hS, rfl, _, _, rfl, _, _, rfl, _, _, rfl, _, _, rfl, rfl, up4, fun z0 hz0 => ?_⟩
  have n0 := Ex.new hz0 (o := .lst [V.str "host frame", .str "host in", .str "host out", .str "host setup"])
  have h0 : upd H z0 (.lst [V.str "host frame", .str "host in", .str "host out", .str "host setup"]) z0 = some (.lst (startsS.map V.str)) := upd_same
  generalize upd H z0 (.lst [V.str "host frame", .str "host in", .str "host out", .str "host setup"]) = H1 at n0 h0 ⊢
  refine ⟨_, rfl, _, Ex.sqT n0 hP, _, at0, up2, fun z hz => ⟨_, [("out" : Str), "setup"].map V.str, rfl, .inr (SqT.of upd_same), rfl, by decide, _, rfl, ?_⟩⟩
  rw [inV_strs]
  simp only [if_false, Bool.false_eq_true]
  have n1 := Ex.new hz (o := .tup [V.str "out", V.str "setup"])
  have h1 := n1 _ _ h0
  generalize upd H1 z (.tup [V.str "out", V.str "setup"]) = H2 at n1 h1 ⊢
  have e2 : Ex H H2 := Same.trans n0 n1
  have hP2 := Ex.sqT e2 hP
  have free : kdL r.w r.who r.came = 1 → Q (.ref z0) H2 := fun h => q z0 H2 e2 (by rw [h]; exact h1)
  refine iteP (fun c => ?_) (fun c => ?_)
  · have hk : kdL r.w r.who r.came = 0 := if_pos c
    rw [hk] at q
    exact ⟨up1, fun z hz => q z _ (Same.trans e2 (Ex.new hz)) upd_same⟩
  · have hk : kdL r.w r.who r.came = if r.w = "in" ∧ r.came = true then 2 else if r.w = "data" ∧ r.came = true then (if r.who = "thing" then 4 else 3) else 1 := if_neg c
    refine ⟨_, rfl, _, hP2, _, at0, rfl, iteP (fun c2 => ?_) (fun c2 => ?_)⟩
    · have w2 : r.w = "in" := V.str.inj c2
      refine ⟨_, rfl, ?_⟩
      cases hc : r.came with
      | true =>
        rw [if_pos ⟨w2, hc⟩] at hk
        rw [hk] at q
        exact iteY rfl ⟨up3, fun z3 hz3 => ⟨z0, z3, _, _, rfl, rfl, Ex.new hz3 _ _ h1, upd_same, by show 4 + 3 ≤ sizeLine; decide, fun l hl => q l _ (Same.trans e2 (Same.trans (Ex.new hz3) (Ex.new hl))) upd_same⟩⟩
      | false =>
        rw [if_neg (fun z => by rw [hc] at z; exact Bool.noConfusion z.2), if_neg (fun z => by rw [hc] at z; exact Bool.noConfusion z.2)] at hk
        refine iteN rfl ⟨_, rfl, _, hP2, _, at0, rfl, iteP (fun c3 => ?_) (fun c3 => free hk)⟩
        rw [w2] at c3
        exact absurd (V.str.inj c3) (by decide)
    · rw [if_neg (fun z => c2 (congrArg V.str z.1))] at hk
      refine ⟨_, rfl, _, hP2, _, at0, rfl, iteP (fun c3 => ?_) (fun c3 => ?_)⟩
      · have w3 : r.w = "data" := V.str.inj c3
        refine ⟨_, rfl, ?_⟩
        cases hc : r.came with
        | true =>
          rw [if_pos ⟨w3, hc⟩] at hk
          refine iteY rfl ⟨trivial, iteP (fun c4 => ?_) (fun c4 => ?_)⟩
          · rw [if_pos (V.str.inj c4)] at hk
            rw [hk] at q
            exact ⟨up1, fun z hz => q z _ (Same.trans e2 (Ex.new hz)) upd_same⟩
          · rw [if_neg (fun z => c4 (congrArg V.str z))] at hk
            rw [hk] at q
            exact ⟨up3, fun z3 hz3 => ⟨z0, z3, _, _, rfl, rfl, Ex.new hz3 _ _ h1, upd_same, by show 4 + 3 ≤ sizeLine; decide, fun l hl => q l _ (Same.trans e2 (Same.trans (Ex.new hz3) (Ex.new hl))) upd_same⟩⟩
        | false =>
          rw [if_neg (fun z => by rw [hc] at z; exact Bool.noConfusion z.2)] at hk
          exact iteN rfl (free hk)
      · rw [if_neg (fun z => c3 (congrArg V.str z.1))] at hk
        exact free hk
theorem rd__law_shape : RD (sp__law_shape K a) (t__law_shape K a) N__law_shape := by
  rintro vs H Q E ⟨v, r, rfl, hd, hw, q⟩
  obtain ⟨p, b, xs, rfl, hS, hP, hA⟩ := jr_open hd
  show t__law_shape K a _ [some (.ref p), none, none, none, none, none, none, none] H
  unfold t__law_shape
  generalize hR : (tSeq (tAsg (tDisp [((tC (.str ("data" : Str))), (tLst (tCons (tC (.str ("host" : Str))) (tCons (tC (.str ("thing" : Str))) tNil)))), ((tC (.str ("ack" : Str))), (tLst (tCons (tC (.str ("host" : Str))) (tCons (tC (.str ("thing" : Str))) tNil)))), ((tC (.str ("nak" : Str))), (tLst (tCons (tC (.str ("thing" : Str))) tNil))), ((tC (.str ("stall" : Str))), (tLst (tCons (tC (.str ("thing" : Str))) tNil)))]) (gName 6))
    (tSeq (tIfS (tTest (tOp (rIn K true) (tVar 2) (tDGet2 (tVar 6) (tOp (rIxT K) (tVar 3) (tC (.int 0))) (tLst (tCons (tC (.str ("host" : Str))) tNil))))) (tRet (tC (.bl false))) tNext)
    (tSeq (tIfS (tTest (tOp rEq (tOp (rIxT K) (tVar 3) (tC (.int 0))) (tC (.str ("frame" : Str))))) (tRet (tOp rEq (tOp (rIxT K) (tVar 3) (tC (.int 1))) (tOp rModI (tVar 1) (tC (.int 2048))))) tNext)
    (tSeq (tIfS (tTest (tOp rEq (tOp (rIxT K) (tVar 3) (tC (.int 0))) (tC (.str ("data" : Str))))) (tRet (tAndV (tOp (rIn K false) (tOp (rIxT K) (tVar 3) (tC (.int 1))) (tTup (tCons (tC (.int 0)) (tCons (tC (.int 1)) tNil)))) (tAndV (tOp rLeI (tCB (rLenQ K) (tCons (tOp (rIxT K) (tVar 3) (tC (.int 2))) tNil)) (tC (.int 64))) (tCB (rAll K) (tCons (tLc (iTup K (tOp (rIxT K) (tVar 3) (tC (.int 2)))) (gName 7) tYes (tChain rLeI rLtI (tC (.int 0)) (tVar 7) (tC (.int 256))) [7]) tNil))))) tNext)
    (tRet (tOrV (tOp rEq (tCB (rLenQ K) (tCons (tVar 3) tNil)) (tC (.int 1))) (tAndV (tChain rLeI rLeI (tC (.int 0)) (tOp (rIxT K) (tVar 3) (tC (.int 1))) (tC (.int 127))) (tChain rLeI rLeI (tC (.int 0)) (tOp (rIxT K) (tVar 3) (tC (.int 2))) (tC (.int 15)))))))))) = S2
  walk_at "sm"
  refine ⟨_, hS, rfl, _, _, rfl, _, _, rfl, _, _, rfl, _, _, rfl, rfl, ?_⟩
  walk_at "sm"
  intro t ht
  refine ⟨upd_same, szL, rfl, by decide, ?_⟩
  have e1 : Ex H (upd (upd H t (.dK [])) t (.dK (mergeK [] szL))) := Ex.mut (Ex.new ht) ht
  have dg : ∀ x : Str, DGet (upd (upd H t (.dK [])) t (.dK (mergeK [] szL))) t (.str x) (valV (mergeK [] szL) (.inr x)) := fun x => DGet.k (k := .inr x) upd_same
  generalize upd (upd H t (.dK [])) t (.dK (mergeK [] szL)) = H1 at e1 dg ⊢
  have hP1 := Ex.sqT e1 hP
  have hA1 := Ex.dpAll e1 _ _ hA
  have q0 := q H1 e1
  have fsh : shL r = (decide (0 ≤ r.fr) && (isPkD (pkD r.w r.args) && (decide (r.who ∈ spk r.w) && frmJ r))) := rfl
  refine iteP (fun c => ?_) (fun c => ?_)
  · rw [fsh, decide_eq_false (by omega), Bool.false_and] at q0
    exact q0
  rw [decide_eq_true (by omega), Bool.true_and] at fsh
  have no : isPkD (pkD r.w r.args) = false → Q (.bl false) H1 := fun h => by
    rw [fsh, h, Bool.false_and] at q0
    exact q0
  have hlen : xs.length = r.args.length := by rw [DpAll.len hA, List.length_map]
  have hval := sz_val hw.2.word
  simp only [tDNotIn, tDGet]
  walk_at "sm"
  refine ⟨_, hP1, _, at0, _, dg r.w, ?_⟩
  rw [hval]
  cases hn : szN r.w with
  | none => exact iteY rfl (no (hw.2.bad fun n h => by rw [hn] at h; cases h))
  | some n =>
    refine iteN rfl ⟨_, .inr hP1, _, hP1, _, at0, _, by have := dg r.w; rw [hval, hn] at this; exact this, rfl, iteNP (fun c2 => ?_) (fun c2 => ?_)⟩
    · refine no (hw.2.bad fun m h g => c2 ?_)
      rw [hn] at h
      cases h
      rw [← g, List.length_cons, hlen]
    · have hl : r.args.length + 1 = n := by
        have := V.int.inj c2
        rw [List.length_cons, hlen] at this
        exact_mod_cast this
      have jn := hw.2.nice hn hl
      subst hR
      have hfr : frmJ r = if r.w = "frame" then decide (arg1 r.args = r.fr % 2048) else true := rfl
      generalize hsh : shL r = sh at fsh q q0
      clear hn dg hval c2 no q0 hA hP
      walk_at "sm"
      intro t2 ht2
      simp only [tPairs]
      walk_at "sm"
      refine ⟨up2, fun l1 hl1 => ⟨up2, fun l2 hl2 => ⟨up1, fun l3 hl3 => ⟨up1, fun l4 hl4 => ?_⟩⟩⟩⟩
      have m0 := Ex.new ht2 (o := .dK [])
      have m1 := Ex.new hl1 (o := .lst [V.str "host", V.str "thing"])
      have m2 := Ex.new hl2 (o := .lst [V.str "host", V.str "thing"])
      have m3 := Ex.new hl3 (o := .lst [V.str "thing"])
      have m4 := Ex.new hl4 (o := .lst [V.str "thing"])
      have f0 := m4 _ _ (m3 _ _ (m2 _ _ (m1 _ _ (upd_same (H := H1) (a := t2) (o := .dK [])))))
      have f1 := m4 _ _ (m3 _ _ (m2 _ _ (upd_same (H := upd H1 t2 (.dK [])) (a := l1) (o := .lst [V.str "host", V.str "thing"]))))
      have f2 := m4 _ _ (m3 _ _ (upd_same (H := upd (upd H1 t2 (.dK [])) l1 (.lst [V.str "host", V.str "thing"])) (a := l2) (o := .lst [V.str "host", V.str "thing"])))
      have f3 := m4 _ _ (upd_same (a := l3) (o := .lst [V.str "thing"]) (H := upd (upd (upd H1 t2 (.dK [])) l1 (.lst [V.str "host", V.str "thing"])) l2 (.lst [V.str "host", V.str "thing"])))
      have f4 := upd_same (a := l4) (o := .lst [V.str "thing"]) (H := upd (upd (upd (upd H1 t2 (.dK [])) l1 (.lst [V.str "host", V.str "thing"])) l2 (.lst [V.str "host", V.str "thing"])) l3 (.lst [V.str "thing"]))
      have m04 := Same.trans m0 (Same.trans m1 (Same.trans m2 (Same.trans m3 m4)))
      generalize upd (upd (upd (upd (upd H1 t2 (.dK [])) l1 (.lst [V.str "host", V.str "thing"])) l2 (.lst [V.str "host", V.str "thing"])) l3 (.lst [V.str "thing"])) l4 (.lst [V.str "thing"]) = H2 at f0 f1 f2 f3 f4 m04 ⊢
      refine ⟨f0, [(.inr "data", .ref l1), (.inr "ack", .ref l2), (.inr "nak", .ref l3), (.inr "stall", .ref l4)], rfl, by show 4 ≤ 15; decide, ?_⟩
      have ne : ∀ l ls, H2 l = some (.lst ls) → l ≠ t2 := fun l ls h z => by
        rw [z, f0] at h
        cases h
      have g1 := (upd_ne (o := .dK (mergeK [] [(.inr "data", .ref l1), (.inr "ack", .ref l2), (.inr "nak", .ref l3), (.inr "stall", .ref l4)])) (ne _ _ f1)).trans f1
      have g2 := (upd_ne (o := .dK (mergeK [] [(.inr "data", .ref l1), (.inr "ack", .ref l2), (.inr "nak", .ref l3), (.inr "stall", .ref l4)])) (ne _ _ f2)).trans f2
      have g3 := (upd_ne (o := .dK (mergeK [] [(.inr "data", .ref l1), (.inr "ack", .ref l2), (.inr "nak", .ref l3), (.inr "stall", .ref l4)])) (ne _ _ f3)).trans f3
      have g4 := (upd_ne (o := .dK (mergeK [] [(.inr "data", .ref l1), (.inr "ack", .ref l2), (.inr "nak", .ref l3), (.inr "stall", .ref l4)])) (ne _ _ f4)).trans f4
      have d0 : upd H2 t2 (.dK (mergeK [] [(.inr "data", .ref l1), (.inr "ack", .ref l2), (.inr "nak", .ref l3), (.inr "stall", .ref l4)])) t2 = _ := upd_same
      have m5 := Ex.mut (o := .dK (mergeK [] [(.inr "data", .ref l1), (.inr "ack", .ref l2), (.inr "nak", .ref l3), (.inr "stall", .ref l4)])) m04 ht2
      generalize upd H2 t2 (.dK (mergeK [] [(.inr "data", .ref l1), (.inr "ack", .ref l2), (.inr "nak", .ref l3), (.inr "stall", .ref l4)])) = H3 at g1 g2 g3 g4 d0 m5 ⊢
      have hP3 := Ex.sqT m5 hP1
      simp only [tDGet2]
      walk_at "sm"
      refine ⟨.inl ⟨_, .inl d0⟩, _, hP3, _, at0, up1, fun l5 hl5 => ?_⟩
      have m6 := Ex.new hl5 (o := .lst [V.str "host"])
      have f5 : upd H3 l5 (.lst [V.str "host"]) l5 = some (.lst [V.str "host"]) := upd_same
      have d6 := m6 _ _ d0
      have g1' := m6 _ _ g1
      have g2' := m6 _ _ g2
      have g3' := m6 _ _ g3
      have g4' := m6 _ _ g4
      have hP4 := Ex.sqT m6 hP3
      have hA4 := Ex.dpAll (Same.trans m5 m6) _ _ hA1
      generalize upd H3 l5 (.lst [V.str "host"]) = H4 at m6 f5 d6 g1' g2' g3' g4' hP4 hA4 ⊢
      have e4 : Ex H H4 := Same.trans e1 (Same.trans m5 m6)
      refine ⟨_, DGet.k (k := .inr r.w) d6, ?_⟩
      have hsp : ∃ l, (valV (mergeK [] [(.inr "data", .ref l1), (.inr "ack", .ref l2), (.inr "nak", .ref l3), (.inr "stall", .ref l4)]) (.inr r.w)).getD (V.ref l5) = .ref l ∧ H4 l = some (.lst ((spk r.w).map V.str)) := by
        generalize r.w = w at jn ⊢
        generalize r.args = args at jn
        cases jn with
        | tok w i j h => rcases (by simpa [tokW] using h) with rfl | rfl | rfl <;> exact ⟨l5, rfl, f5⟩
        | frm i => exact ⟨l5, rfl, f5⟩
        | dat i ns _ _ => exact ⟨l1, rfl, g1'⟩
        | ans w h =>
          rcases (by simpa [ansW] using h) with rfl | rfl | rfl
          · exact ⟨l2, rfl, g2'⟩
          · exact ⟨l3, rfl, g3'⟩
          · exact ⟨l4, rfl, g4'⟩
      obtain ⟨l, hl', hl4⟩ := hsp
      rw [hl']
      have qq := q H4 e4
      refine ⟨_, (spk r.w).map V.str, rfl, .inl (SqL.of hl4), rfl, flat_spk _, _, rfl, ?_⟩
      rw [inV_strs]
      simp only [if_true]
      refine iteNP (fun c3 => ?_) (fun c3 => ?_)
      · rw [fsh, decide_eq_false c3, Bool.false_and, Bool.and_false] at qq
        exact qq
      rw [decide_eq_true c3, Bool.true_and] at fsh
      refine ⟨_, hP4, _, at0, rfl, iteP (fun c5 => ?_) (fun c5 => ?_)⟩
      · have w5 : r.w = "frame" := V.str.inj c5
        obtain ⟨i, hi⟩ := hw.2.frame w5
        rw [if_pos w5, hi] at hfr
        have ep : isPkD (pkD r.w r.args) = (decide (0 ≤ i) && decide (i ≤ 2047)) := by
          rw [w5, hi]
          simp [isPkD, pkD, isTokD, isFrmD, isDatD, isAnsD, isNum, Arg.d]
        rw [ep, hfr] at fsh
        rw [hi] at hA4
        obtain ⟨v1, r1, rfl, a1, hA5⟩ := DpAll.consE hA4
        cases a1.intE
        refine ⟨_, hP4, _, at_of (j := 1) rfl rfl, by decide, rfl, ?_⟩
        rw [dec_int]
        have e9 : sh = decide (i = r.fr % 2048) := by
          rw [fsh]
          by_cases hi9 : i = r.fr % 2048
          · rw [decide_eq_true (show arg1 [Arg.int i] = r.fr % 2048 from hi9), decide_eq_true hi9, decide_eq_true (by omega), decide_eq_true (by omega)]
            rfl
          · rw [decide_eq_false (show ¬ arg1 [Arg.int i] = r.fr % 2048 from hi9), decide_eq_false hi9, Bool.and_false]
        rw [e9] at qq
        exact qq
      · rw [if_neg (fun z => c5 (congrArg V.str z))] at hfr
        rw [hfr, Bool.and_true] at fsh
        refine ⟨_, hP4, _, at0, rfl, iteP (fun c6 => ?_) (fun c6 => ?_)⟩
        · have w6 : r.w = "data" := V.str.inj c6
          obtain ⟨i, ns, hi, hl9, hbt⟩ := hw.2.data w6
          have ep : isPkD (pkD r.w r.args) = decide (i ∈ [(0 : Int), 1]) := by
            rw [w6, hi]
            have e1 : isPkD (pkD "data" [.int i, .byt ns]) = ((decide (("data" : Str) ∈ tokW) && (isNum (.int i) 0 127 && isNum (.tuple (ns.map PyData.int)) 0 15)) || (false || ((decide (("data" : Str) = "data") && (isNum (.int i) 0 1 && isPcD (.tuple (ns.map PyData.int)))) || false))) := rfl
            have e2 : isPcD (.tuple (ns.map PyData.int)) = true := by
              show (decide ((ns.map PyData.int).length ≤ 64) && (ns.map PyData.int).all fun d => isNum d 0 255) = true
              rw [allByte_num, List.length_map, decide_eq_true (by omega), hbt]
              rfl
            rw [e1, decide_eq_false (by decide), decide_eq_true rfl, e2]
            simp only [isNum, List.mem_cons, List.not_mem_nil, or_false, Bool.false_and, Bool.false_or, Bool.true_and, Bool.and_true, Bool.or_false]
            by_cases h0 : i = 0 ∨ i = 1
            · rw [decide_eq_true h0, decide_eq_true (show 0 ≤ i by omega), decide_eq_true (show i ≤ 1 by omega)]; rfl
            · rw [decide_eq_false h0]
              by_cases h1 : 0 ≤ i
              · rw [decide_eq_false (show ¬ i ≤ 1 by omega), Bool.and_false]
              · rw [decide_eq_false h1, Bool.false_and]
          rw [ep] at fsh
          rw [fsh] at q qq
          rw [hi] at hA4
          obtain ⟨v1, r1, rfl, a1, hA5⟩ := DpAll.consE hA4
          obtain ⟨v2, r2, rfl, a2, hA6⟩ := DpAll.consE hA5
          cases a1.intE
          obtain ⟨q2, rfl, h2⟩ := Dp.intsE a2
          refine ⟨_, hP4, _, at_of (j := 1) rfl rfl, up2, fun z hz => ⟨_, [(0 : Int), 1].map V.int, rfl, .inr (SqT.of upd_same), rfl, by decide, _, rfl, ?_⟩⟩
          rw [inI]
          have m7 := Ex.new hz (o := .tup [V.int 0, V.int 1])
          have hP5 := Ex.sqT m7 hP4
          have h25 := Ex.sqT m7 h2
          generalize upd H4 z (.tup [V.int 0, V.int 1]) = H5 at m7 hP5 h25 ⊢
          have e5 := Same.trans e4 m7
          refine iteP (fun c7 => ?_) (fun c7 => ?_)
          · rw [decide_eq_true c7] at q
            refine ⟨_, hP5, _, at_of (j := 2) rfl rfl, _, rfl, _, .inr h25, iteP (fun c8 => ?_) (fun c8 => absurd (show ((ns.map V.int).length : Int) ≤ 64 by rw [List.length_map]; omega) c8)⟩
            refine lcT (xs := ns.map V.int) 7 (fun j v _ => v = .bl true) (fun R r => by walk_at "sm"; exact ⟨_, hP5, _, at_of (j := 2) rfl rfl, r⟩) h25 (by rw [List.length_map]; omega) (fun _ _ _ _ _ h => h) (fun _ => rfl) (fun j x D H6 Q' hx hD hD1 e6 q' => ?_) (fun D H6 ys hD e6 hy hm => ?_)
            · rw [List.getElem?_map] at hx
              obtain ⟨y, hy1, rfl⟩ := Option.map_eq_some_iff.mp hx
              have hyb := List.all_eq_true.mp hbt y (List.mem_of_getElem? hy1)
              unfold byteN at hyb
              simp only [Bool.and_eq_true, decide_eq_true_eq] at hyb
              simp only [wipe]
              walk_at "sm"
              refine iteY (decide_eq_true hyb.1) ?_
              rw [decide_eq_true (show y < 256 by omega)]
              exact q' _ _ (Same.refl _) rfl
            · refine ⟨D, _, rfl, SqL.of (hy.trans (congrArg _ (congrArg _ (Made.bls (f := fun _ => true) hm)))), ?_⟩
              have ea : ((List.range (ns.map V.int).length).map fun _ => true).all (fun x => x) = true := List.all_eq_true.mpr fun x hx => by
                obtain ⟨_, _, rfl⟩ := List.mem_map.mp hx
                rfl
              have := q H6 (Same.trans e5 (Same.trans e6 wo_ex))
              rw [← ea] at this
              exact this
          · rw [decide_eq_false c7] at q
            exact q H5 e5
        · have key : (r.w ∈ ansW ∧ r.args = []) ∨ (r.w ∈ tokW ∧ ∃ i j, r.args = [.int i, .int j]) := by
            have c5' : r.w ≠ "frame" := fun z => c5 (congrArg V.str z)
            have c6' : r.w ≠ "data" := fun z => c6 (congrArg V.str z)
            generalize r.w = w at jn c5' c6' ⊢
            generalize r.args = args at jn ⊢
            cases jn with
            | tok w i j h => exact .inr ⟨h, i, j, rfl⟩
            | frm i => exact absurd rfl c5'
            | dat i ns _ _ => exact absurd rfl c6'
            | ans w h => exact .inl ⟨h, rfl⟩
          have c6' : r.w ≠ "data" := fun z => c6 (congrArg V.str z)
          rcases key with ⟨hm, hi⟩ | ⟨hm, i, j, hi⟩
          · have ep : isPkD (pkD r.w r.args) = true := by
              rw [hi]
              show (false || (false || (false || decide (r.w ∈ ansW)))) = true
              rw [decide_eq_true hm]
              rfl
            rw [ep] at fsh
            rw [fsh] at qq
            rw [hi] at hA4
            cases hA4
            exact ⟨_, .inr hP4, iteY rfl qq⟩
          · have ep : isPkD (pkD r.w r.args) = ((decide (0 ≤ i) && decide (i ≤ 127)) && (decide (0 ≤ j) && decide (j ≤ 15))) := by
              rw [hi]
              show ((decide (r.w ∈ tokW) && (isNum (.int i) 0 127 && isNum (.int j) 0 15)) || (false || ((decide (r.w = "data") && (isNum (.int i) 0 1 && false)) || false))) = _
              rw [decide_eq_true hm, decide_eq_false c6']
              simp [isNum]
            rw [ep] at fsh
            rw [fsh] at qq
            rw [hi] at hA4
            obtain ⟨v1, r1, rfl, a1, hA5⟩ := DpAll.consE hA4
            obtain ⟨v2, r2, rfl, a2, hA6⟩ := DpAll.consE hA5
            cases a1.intE
            cases a2.intE
            cases hA6
            refine ⟨_, .inr hP4, iteN rfl ⟨_, hP4, _, at_of (j := 1) rfl rfl, _, rfl, iteP (fun c7 => ?_) (fun c7 => ?_)⟩⟩
            · rw [decide_eq_true c7, Bool.true_and] at qq
              refine ⟨_, rfl, iteP (fun c8 => ?_) (fun c8 => ?_)⟩
              · rw [decide_eq_true c8, Bool.true_and] at qq
                refine ⟨_, hP4, _, at_of (j := 2) rfl rfl, _, rfl, iteP (fun c9 => ?_) (fun c9 => ?_)⟩
                · rw [decide_eq_true c9, Bool.true_and] at qq
                  exact ⟨_, rfl, qq⟩
                · rw [decide_eq_false c9, Bool.false_and] at qq
                  exact qq
              · rw [decide_eq_false c8, Bool.false_and] at qq
                exact qq
            · rw [decide_eq_false c7, Bool.false_and, Bool.false_and] at qq
              exact qq
end
end My

namespace My
open PySem PySem.Spec PyProof.Rows L2
section
variable {P : Program} {w : World} {K : PySem.W.Frag} {mg : Str → Option Value} {base : Heap} {a : Ad}
local macro_rules | `(tactic| walk_at "sm") => `(tactic| try simp only [tSeq, tAsg, tVar, tC, tOp, tUn, tRet, tRetN, tDrop, tIfS, tNext, tAnd, tOr, tNot, tB, tTest, tChain, tAndV, tOrV, tNotV, tIf, tCB, tCons, tNil, tCall, tCallS, tPar, rInRg, rNotInRg, rRg1, rRg2, tRaiseAt, tMkAt, tByAt, tCallN, tListR3, tLstRg, tRg1, tRaiseFr, tMkFr, tByFr, rMax2, rMin2, rInt1, rInKD, rNotInKD, tLst, tTup, tSl, tNoPart, tPart,
  tAug, ipI, gName, gSub, gTup, gCons, gNil, rI0, rI, rU, rEq, rNe, rIsN, rNotN, rAddI, rSubI, rMulI, rModI, rDivW, rPowI, rShlI, rShrI, rAndI, rOrI, rXorI, rLtI, rLeI, rGtI, rGeI, rNegI, rIxL, rIxT, rLenQ, rListOf, rTupleOf, rSetL, tRevL, tRaiseC, rSlL,
  List.getElem?_cons_zero, List.getElem?_cons_succ, List.set_cons_zero, List.set_cons_succ, Option.some.injEq, V.int.injEq, V.bl.injEq, V.ref.injEq, V.str.injEq, exists_eq_left', exists_eq_left, exists_and_left, List.cons.injEq, and_true, true_and, List.append_nil, scal, Int.reduceToNat, if_true, if_false, Bool.false_eq_true])
local macro_rules | `(tactic| walk_at "bg") => `(tactic| repeat (first
  | refine ⟨_, SqL.of (by assumption), _, rfl, ?_⟩
  | refine ⟨_, SqL.of upd_same, _, rfl, ?_⟩
  | refine ⟨_, rfl, ?_⟩
  | refine ⟨_, (by assumption), _, rfl, ?_⟩
  | refine ⟨_, upd_same, _, rfl, ?_⟩
  | refine ⟨Or.inr ⟨by omega, by omega⟩, ?_⟩
  | refine ⟨Or.inl ⟨by omega, by omega⟩, ?_⟩
  | refine ⟨(show (0 : Int) < _ by omega), ?_⟩
  | refine ⟨_, .inl (SqL.of upd_same), ?_⟩
  | refine ⟨_, .inl (by assumption), ?_⟩))
local macro_rules | `(tactic| walk_at "ty") => `(tactic| try simp only [tyS, tyL, tyT, if_true, if_false, Bool.false_eq_true, reduceCtorEq, decide_false, decide_true, exists_eq_left', exists_eq_left, V.bl.injEq, and_true, true_and, Bool.not_true, Bool.not_false, decide_eq_true_eq, Bool.true_and, Bool.and_true])
theorem JP.nicer {x : Str} {args : List Arg} (h : JP x args) (g : isPkD (pkD x args) = true) : JN x args := by
  cases hn : szN x with
  | none =>
    rw [h.bad fun n z => by rw [hn] at z; cases z] at g
    cases g
  | some n =>
    by_cases e : args.length + 1 = n
    · exact h.nice hn e
    · rw [h.bad fun m z => by rw [hn] at z; cases z; exact e] at g
      cases g
abbrev frL : List (Key × V) := [(.inr "frame", V.int 6), (.inr "in", .int 13), (.inr "out", .int 13), (.inr "setup", .int 13)]
theorem wr_tail {D : Ends} {H : Hp} {p p1 b : Addr} {room : Int} {j : Nat} {r : Jr} {ys : List V} {x5 : Option V} (hR : SqT K H p1 [.int r.fr, .str r.who, .ref b, .bl r.came]) (hP : SqT K H b (.str r.w :: ys)) (hB : DpAll K H ys (r.args.map Arg.d)) (jn : JN r.w r.args)
    (ret : ∀ H', Ex H H' → 1500 < roomP room r.w r.args → D.rt (.int (j : Nat)) H') (go : ∀ H' y5, Ex H H' → ¬ 1500 < roomP room r.w r.args → D.nx [some (.ref p), some (.int (roomP room r.w r.args)), some (.int (j : Nat)), some (.ref p1), some (.str r.w), y5] H') :
    (tSeq (tAsg (tDGet2 (tDisp [((tC (.str ("frame" : Str))), (tC (.int 6))), ((tC (.str ("in" : Str))), (tC (.int 13))), ((tC (.str ("out" : Str))), (tC (.int 13))), ((tC (.str ("setup" : Str))), (tC (.int 13)))]) (tVar 4) (tIf (tTest (tOp rEq (tVar 4) (tC (.str ("data" : Str))))) (tCB (rLenQ K) (tCons (tOp (rIxT K) (tOp (rIxT K) (tVar 3) (tC (.int 2))) (tC (.int 2))) tNil)) (tC (.int 0)))) (gName 5))
    (tSeq (tAsg (tIf (tTest (tOp rEq (tVar 4) (tC (.str ("frame" : Str))))) (tVar 5) (tOp rAddI (tVar 1) (tVar 5))) (gName 1))
    (tIfS (tTest (tOp rGtI (tVar 1) (tC (.int 1500)))) (tRet (tVar 2)) tNext))) D [some (.ref p), some (.int room), some (.int (j : Nat)), some (.ref p1), some (.str r.w), x5] H := by
  walk_at "sm"
  simp only [tDGet2]
  walk_at "sm"
  intro t ht
  refine ⟨upd_same, frL, rfl, by decide, ?_⟩
  have e1 : Ex H (upd (upd H t (.dK [])) t (.dK (mergeK [] frL))) := Ex.mut (Ex.new ht) ht
  have d0 : upd (upd H t (.dK [])) t (.dK (mergeK [] frL)) t = some (.dK (mergeK [] frL)) := upd_same
  generalize upd (upd H t (.dK [])) t (.dK (mergeK [] frL)) = H1 at e1 d0 ⊢
  refine ⟨_, rfl, .inl ⟨_, .inl d0⟩, ?_⟩
  have fin : ∀ n, n = roomP room r.w r.args → ∀ y5, if decide (1500 < n) = true then D.rt (.int (j : Nat)) H1 else D.nx [some (.ref p), some (.int n), some (.int (j : Nat)), some (.ref p1), some (.str r.w), y5] H1 := by
    intro n hn y5
    subst hn
    exact iteP (fun c => ret H1 e1 c) (fun c => go H1 y5 e1 c)
  have dg := DGet.k (k := .inr r.w) d0
  unfold roomP at fin
  refine iteP (fun c => ?_) (fun c => ?_)
  · have hx : ∃ i ns, r.args = [.int i, .byt ns] := by
      generalize r.w = w at jn c
      generalize r.args = args at jn ⊢
      cases jn with
      | tok w i j h => rw [c] at h; exact absurd h (by decide)
      | frm i => exact absurd c (by decide)
      | dat i ns _ _ => exact ⟨i, ns, rfl⟩
      | ans w h => rw [c] at h; exact absurd h (by decide)
    obtain ⟨i, ns, hi⟩ := hx
    rw [hi] at hB fin
    obtain ⟨v1, r1, rfl, a1, hB⟩ := DpAll.consE hB
    obtain ⟨v2, r2, rfl, a2, hB⟩ := DpAll.consE hB
    obtain ⟨q2, rfl, h2⟩ := Dp.intsE a2
    refine ⟨_, Ex.sqT e1 hR, _, rfl, _, rfl, _, Ex.sqT e1 hP, _, at_of (j := 2) rfl rfl, _, rfl, _, .inr (Ex.sqT e1 h2), _, dg, ?_⟩
    rw [c, if_neg (by decide), if_neg (by decide), if_pos rfl] at fin
    rw [c]
    refine iteN rfl ⟨_, rfl, ?_⟩
    exact fin _ (by rw [List.length_map]; rfl) _
  · refine ⟨_, dg, ?_⟩
    have hx : r.w ∈ tokW ∨ r.w = "frame" ∨ r.w ∈ ansW := by
      generalize r.w = w at jn c ⊢
      generalize r.args = args at jn
      cases jn with
      | tok w i j h => exact .inl h
      | frm i => exact .inr (.inl rfl)
      | dat i ns _ _ => exact absurd rfl c
      | ans w h => exact .inr (.inr h)
    generalize r.w = w at hx fin ⊢
    rcases hx with h | rfl | h
    · rcases (by simpa [tokW] using h) with rfl | rfl | rfl <;> exact iteN rfl ⟨_, rfl, fin _ (by rw [if_neg (by decide), if_pos (by decide)]) _⟩
    · exact iteY rfl ⟨_, rfl, fin _ (by rw [if_pos rfl]) _⟩
    · rcases (by simpa [ansW] using h) with rfl | rfl | rfl <;> exact iteN rfl ⟨_, rfl, fin _ (by rw [if_neg (by decide), if_neg (by decide), if_neg (by decide)]; exact Int.add_zero _) _⟩
theorem say_len {x y : Str} (hx : x ∈ who4) (hy : y ∈ wAll) : (x.length : Nat) + (" " : Str).length ≤ 100 ∧ (x ++ (" " : Str)).length + y.length ≤ 100 := by
  have : ∀ x ∈ who4, ∀ y ∈ wAll, (x.length : Nat) + (" " : Str).length ≤ 100 ∧ (x ++ (" " : Str)).length + y.length ≤ 100 := by decide +kernel
  exact this x hx y hy
theorem flat_aft (k : Nat) : ((aftK k).map V.str).all flatV = true := by
  unfold aftK
  split <;> decide
theorem rd__law_wrong : RD (sp__law_wrong K a) (t__law_wrong K a) N__law_wrong := by
  rintro vs H Q E ⟨v, rs, rfl, hd, hw, q⟩
  obtain ⟨p, xs, rfl, hS, hA⟩ := hd.lstE
  have hlen : xs.length = rs.length := by rw [DpAll.len hA, List.length_map]
  show t__law_wrong K a _ [some (.ref p), none, none, none, none, none] H
  unfold t__law_wrong
  generalize hT : (tSeq (tAsg (tDGet2 (tDisp [((tC (.str ("frame" : Str))), (tC (.int 6))), ((tC (.str ("in" : Str))), (tC (.int 13))), ((tC (.str ("out" : Str))), (tC (.int 13))), ((tC (.str ("setup" : Str))), (tC (.int 13)))]) (tVar 4) (tIf (tTest (tOp rEq (tVar 4) (tC (.str ("data" : Str))))) (tCB (rLenQ K) (tCons (tOp (rIxT K) (tOp (rIxT K) (tVar 3) (tC (.int 2))) (tC (.int 2))) tNil)) (tC (.int 0)))) (gName 5))
    (tSeq (tAsg (tIf (tTest (tOp rEq (tVar 4) (tC (.str ("frame" : Str))))) (tVar 5) (tOp rAddI (tVar 1) (tVar 5))) (gName 1))
    (tIfS (tTest (tOp rGtI (tVar 1) (tC (.int 1500)))) (tRet (tVar 2)) tNext))) = S3
  walk_at "sm"
  refine forE (a := p) (xs := xs) 2 3 (fun j σ H' => (∃ room x2 x3 x4 x5, σ = [some (.ref p), some (.int room), x2, x3, x4, x5] ∧ fwL (if j = 0 then none else rs[j - 1]?) room (rs.drop j) j = fwL none 0 rs 0) ∧ Ex H H') (fun R r => by walk_at "sm"; exact r) hS ⟨⟨_, _, _, _, _, rfl, rfl⟩, Same.refl _⟩ (fun j σ H' h => Ex.sqL h.2 hS) (fun j σ H' T o h hT => ⟨h.1, Same.trans h.2 (Ex.new hT)⟩) ?hs ?hd
  case hd =>
    rintro σ H1 ⟨⟨room, x2, x3, x4, x5, rfl, h3⟩, e⟩
    walk_at "sm"
    rw [hlen, List.drop_length] at h3
    have := q H1 e
    rw [← h3] at this
    exact this
  case hs =>
    rintro j x σ H1 hx ⟨⟨room, x2, x3, x4, x5, rfl, h3⟩, e⟩
    have hj : j < rs.length := by
      have := (List.getElem?_eq_some_iff.mp hx).1
      omega
    have gt : ∀ i y, xs[i]? = some y → ∃ r : Jr, rs[i]? = some r ∧ Dp K H y (Jr.d r) ∧ Jr.wd r := fun i y hy => by
      have hi : i < rs.length := by
        have := (List.getElem?_eq_some_iff.mp hy).1
        omega
      obtain ⟨v', e1, hv⟩ := DpAll.get hA (show (rs.map Jr.d)[i]? = some rs[i].d by rw [List.getElem?_map, List.getElem?_eq_getElem hi]; rfl)
      rw [hy] at e1
      cases e1
      exact ⟨rs[i], List.getElem?_eq_getElem hi, hv, hw _ (List.getElem_mem hi)⟩
    obtain ⟨r, hr0, hv, hr⟩ := gt j x hx
    have edrop : rs.drop j = r :: rs.drop (j + 1) := by
      rw [List.drop_eq_getElem_cons hj]
      rw [List.getElem?_eq_getElem hj] at hr0
      rw [Option.some.inj hr0]
    rw [edrop] at h3
    obtain ⟨p1, b, ys, rfl, hR, hP, hB⟩ := jr_open (Ex.dp e _ _ hv)
    have dr := Ex.dp e _ _ hv
    have ret : ∀ H', Ex H1 H' → fwL (if j = 0 then none else rs[j - 1]?) room (r :: rs.drop (j + 1)) j = j → Q (.int (j : Nat)) H' := fun H' e' h => by
      have := q H' (Same.trans e e')
      rw [← h3, h] at this
      exact this
    generalize hprev : (if j = 0 then none else rs[j - 1]?) = prev at h3 ret
    have no : (shL r && prevOk prev r) = false → fwL prev room (r :: rs.drop (j + 1)) j = j := fun h => if_neg (by rw [h]; decide)
    walk_at "sm"
    refine ⟨_, r, rfl, dr, hr, fun H2 e2 => ⟨_, rfl, ?_⟩⟩
    cases c1 : shL r with
    | false => exact iteY rfl (ret H2 e2 (no (by rw [c1]; rfl)))
    | true =>
      refine iteN rfl ⟨_, Ex.sqT e2 hR, _, rfl, _, rfl, _, Ex.sqT e2 hP, _, at0, ?_⟩
      have jn : JN r.w r.args := hr.2.nicer (by
        unfold shL at c1
        simp only [Bool.and_eq_true] at c1
        exact c1.2.1)
      have tail : ∀ (D : Ends) H3 x5, Ex H1 H3 → prevOk prev r = true → (∀ H', Ex H1 H' → fwL prev room (r :: rs.drop (j + 1)) j = j → D.rt (.int (j : Nat)) H') → (∀ H' y5, Ex H1 H' → fwL (some r) (roomP room r.w r.args) (rs.drop (j + 1)) (j + 1) = fwL none 0 rs 0 → D.nx [some (.ref p), some (.int (roomP room r.w r.args)), some (.int (j : Nat)), some (.ref p1), some (.str r.w), y5] H') → S3 D [some (.ref p), some (.int room), some (.int (j : Nat)), some (.ref p1), some (.str r.w), x5] H3 := by
        intro D H3 x5 e3 hp rt nx
        subst hT
        have yes : fwL prev room (r :: rs.drop (j + 1)) j = if 1500 < roomP room r.w r.args then ((j : Nat) : Int) else fwL (some r) (roomP room r.w r.args) (rs.drop (j + 1)) (j + 1) := if_pos (by rw [c1, hp]; rfl)
        refine wr_tail (Ex.sqT e3 hR) (Ex.sqT e3 hP) (Ex.dpAll e3 _ _ hB) jn (fun H' e' c => rt H' (Same.trans e3 e') (by rw [yes, if_pos c])) (fun H' y5 e' c => nx H' y5 (Same.trans e3 e') ?_)
        rw [if_neg c] at yes
        rw [← yes, h3]
      rcases Nat.eq_zero_or_pos j with j0 | j0
      · subst j0
        have hn : prev = none := hprev.symm
        subst hn
        refine iteY (decide_eq_true rfl) ⟨rfl, iteNP (fun c => ?_) (fun c => ?_)⟩
        · exact ret H2 e2 (no (by rw [c1]; exact decide_eq_false fun z => c (congrArg V.str z)))
        · refine iteN rfl (iteN rfl (tail _ _ _ e2 (decide_eq_true (V.str.inj c)) (fun H' e' h => ret H' e' h) fun H' y5 e' h => ⟨⟨_, _, _, _, _, rfl, ?_⟩, Same.trans e e'⟩))
          rw [if_neg (by decide), show rs[0 + 1 - 1]? = some r from hr0]
          exact h
      · have hj0 : j ≠ 0 := by omega
        rw [if_neg hj0] at hprev
        obtain ⟨x1, hx1⟩ : ∃ x1, xs[j - 1]? = some x1 := ⟨_, List.getElem?_eq_getElem (by omega)⟩
        obtain ⟨rp, hrp, hvp, hwp⟩ := gt (j - 1) x1 hx1
        rw [hrp] at hprev
        subst hprev
        obtain ⟨pp, bp, yp, rfl, hRp, hPp, hBp⟩ := jr_open (Ex.dp e _ _ hvp)
        have hsay := say_len hr.1 hr.2.word
        refine iteN (decide_eq_false (by omega)) (iteY (decide_eq_true (by omega)) ⟨_, Ex.sqT e2 hR, _, rfl, _, _, rfl, rfl, Nat.le_trans hsay.1 (by decide), _, _, rfl, rfl, Nat.le_trans hsay.2 (by decide), ?_⟩)
        refine ⟨_, Ex.sqL (Same.trans e e2) hS, _, at_of (j := j - 1) (by omega) hx1, _, rp, rfl, Ex.dp (Same.trans e e2) _ _ hvp, fun l H3 e3 hl3 => ?_⟩
        refine ⟨_, (aftK (kdL rp.w rp.who rp.came)).map V.str, rfl, .inl (SqL.of hl3), rfl, flat_aft _, _, rfl, ?_⟩
        rw [inV_strs]
        simp only [if_true]
        have e13 := Same.trans e2 e3
        have hpo : prevOk (some rp) r = (decide (sayS r.who r.w ∈ aftK (kdL rp.w rp.who rp.came)) && decide (r.fr = rp.fr + if r.w = "frame" then 1 else 0)) := rfl
        refine iteNP (fun c => ?_) (fun c => ?_)
        · exact ret H3 e13 (no (by rw [hpo, decide_eq_false (show ¬ sayS r.who r.w ∈ _ from c), Bool.false_and, Bool.and_false]))
        rw [decide_eq_true (show sayS r.who r.w ∈ _ from c), Bool.true_and] at hpo
        refine iteY (decide_eq_true (by omega)) ⟨_, Ex.sqT e13 hR, _, rfl, _, Ex.sqL (Same.trans e e13) hS, _, at_of (j := j - 1) (by omega) hx1, _, rfl, _, Ex.sqT e13 hRp, _, rfl, trivial, .inr ⟨_, rfl, rfl, ?_⟩⟩
        have hb : (if decide (V.str r.w = V.str (Str.ofString "frame")) = true then 1 else 0 : Int) = if r.w = "frame" then 1 else 0 := by
          by_cases c : r.w = "frame"
          · rw [if_pos (decide_eq_true (congrArg V.str c)), if_pos c]
          · rw [if_neg (fun z => c (V.str.inj (of_decide_eq_true z))), if_neg c]
        rw [hb]
        refine iteNP (fun c => ?_) (fun c => ?_)
        · exact ret H3 e13 (no (by rw [hpo, decide_eq_false (fun z => c (congrArg V.int z)), Bool.and_false]))
        · refine tail _ _ _ e13 (by rw [hpo]; exact decide_eq_true (V.int.inj c)) (fun H' e' h => ret H' e' h) fun H' y5 e' h => ⟨⟨_, _, _, _, _, rfl, ?_⟩, Same.trans e e'⟩
          rw [if_neg (by omega), Nat.add_sub_cancel, hr0]
          exact h
def mayO (o : Option Jr) : List (Str × Str) := match o with
  | none => may0
  | some p => behP p
def ahO (o : Option Jr) : Int := match o with
  | none => -1
  | some p => p.fr
theorem kd_lt (w who : Str) (came : Bool) : kdJ w who came < 5 := by
  unfold kdJ
  split
  · decide
  · split
    · decide
    · split
      · decide
      · split
        · split <;> decide
        · decide
theorem kd_same {w who : Str} {came : Bool} (h : who ∈ [("host" : Str), "thing"]) : kdL w who came = kdJ w who came := by
  unfold kdL kdJ
  by_cases c0 : w ∈ [("out" : Str), "setup"]
  · rw [if_pos c0, if_pos c0]
  · rw [if_neg c0, if_neg c0]
    cases came with
    | false => rw [if_neg (by simp), if_neg (by simp), if_pos rfl]
    | true =>
      rw [if_neg (show ¬ true = false by decide)]
      by_cases c1 : w = "in"
      · rw [if_pos ⟨c1, rfl⟩, if_pos c1]
      · rw [if_neg (fun z => c1 z.1), if_neg c1]
        by_cases c2 : w = "data"
        · rw [if_pos ⟨c2, rfl⟩, if_pos c2]
          have h' : who = "host" ∨ who = "thing" := by simpa using h
          rcases h' with rfl | rfl
          · rw [if_neg (by decide), if_pos rfl]
          · rw [if_pos rfl, if_neg (by decide)]
        · rw [if_neg (fun z => c2 z.1), if_neg c2]
theorem say_fact : ∀ k < 5, ∀ x ∈ who4, ∀ y ∈ w8, decide ((x, y) ∈ behK k) = (decide (x ∈ spk y) && decide (sayS x y ∈ aftK k)) := by decide +kernel
theorem may_fact : ∀ x ∈ who4, ∀ y ∈ w8, decide ((x, y) ∈ may0) = (decide (x ∈ spk y) && decide (y = "frame")) := by decide +kernel
theorem spk_host {x y : Str} (h : x ∈ spk y) : x ∈ [("host" : Str), "thing"] := by
  unfold spk at h
  split at h
  · exact h
  · split at h
    · rw [List.mem_singleton.mp h]; decide
    · rw [List.mem_singleton.mp h]; decide
theorem JN.w8 {x : Str} {args : List Arg} (h : JN x args) : x ∈ w8 := by
  have t : ∀ x ∈ tokW, x ∈ My.w8 := by decide
  have n : ∀ x ∈ ansW, x ∈ My.w8 := by decide
  cases h with
  | tok w i j h => exact t _ h
  | frm i => decide
  | dat i ns _ _ => decide
  | ans w h => exact n _ h
def Past (o : Option Jr) : Prop := ∀ p, o = some p → 0 ≤ p.fr ∧ p.who ∈ [("host" : Str), "thing"]
theorem ok_same {o : Option Jr} {r : Jr} (ho : Past o) (hr : r.wd) : okP (mayO o) (ahO o) r = (shL r && prevOk o r) := by
  unfold okP shL
  cases hp : isPkD (pkD r.w r.args) with
  | false => simp
  | true =>
    have h8 := (hr.2.nicer hp).w8
    have hn : numP r (ahO o) = if r.w ≠ "frame" then decide (r.fr = ahO o) else if r.fr < 0 ∨ arg1 r.args ≠ r.fr % 2048 then false else decide (ahO o < 0) || decide (r.fr = ahO o + 1) := rfl
    have hf : frmJ r = if r.w = "frame" then decide (arg1 r.args = r.fr % 2048) else true := rfl
    cases o with
    | none =>
      have hm := may_fact r.who hr.1 r.w h8
      show (decide ((r.who, r.w) ∈ may0) && (true && numP r (ahO none))) = (decide (0 ≤ r.fr) && (true && (decide (r.who ∈ spk r.w) && frmJ r)) && decide (r.w = "frame"))
      rw [hm, Bool.true_and, Bool.true_and]
      by_cases c : r.w = "frame"
      · rw [if_neg (not_not_intro c)] at hn
        rw [if_pos c] at hf
        rw [hn, hf, decide_eq_true c, Bool.and_true, Bool.and_true]
        have ha : (decide (ahO none < 0) || decide (r.fr = ahO none + 1)) = true := rfl
        rw [ha]
        by_cases c1 : r.fr < 0
        · rw [if_pos (.inl c1), decide_eq_false (show ¬ 0 ≤ r.fr by omega)]; simp
        · rw [decide_eq_true (show 0 ≤ r.fr by omega), Bool.true_and]
          by_cases c2 : arg1 r.args = r.fr % 2048
          · rw [if_neg (fun z => z.elim c1 fun z => z c2), decide_eq_true c2]
          · rw [if_pos (.inr c2), decide_eq_false c2]
      · rw [decide_eq_false c]
        simp
    | some p =>
      obtain ⟨p0, pw⟩ := ho p rfl
      have hm := say_fact (kdJ p.w p.who p.came) (kd_lt _ _ _) r.who hr.1 r.w h8
      show (decide ((r.who, r.w) ∈ behK (kdJ p.w p.who p.came)) && (true && numP r (ahO (some p)))) = (decide (0 ≤ r.fr) && (true && (decide (r.who ∈ spk r.w) && frmJ r)) && (decide (sayS r.who r.w ∈ aftK (kdL p.w p.who p.came)) && decide (r.fr = p.fr + if r.w = "frame" then 1 else 0)))
      rw [hm, kd_same pw, Bool.true_and, Bool.true_and]
      have ea : ahO (some p) = p.fr := rfl
      rw [ea] at hn
      have key : numP r (ahO (some p)) = (decide (0 ≤ r.fr) && (frmJ r && decide (r.fr = p.fr + if r.w = "frame" then 1 else 0))) := by
        rw [ea]
        by_cases c : r.w = "frame"
        · rw [if_neg (not_not_intro c)] at hn
          rw [if_pos c] at hf
          rw [hn, hf, if_pos c, decide_eq_false (show ¬ p.fr < 0 by omega), Bool.false_or]
          by_cases c1 : r.fr < 0
          · rw [if_pos (.inl c1), decide_eq_false (show ¬ 0 ≤ r.fr by omega)]; rfl
          · rw [decide_eq_true (show 0 ≤ r.fr by omega), Bool.true_and]
            by_cases c2 : arg1 r.args = r.fr % 2048
            · rw [if_neg (fun z => z.elim c1 fun z => z c2), decide_eq_true c2, Bool.true_and]
            · rw [if_pos (.inr c2), decide_eq_false c2]; rfl
        · rw [if_pos c] at hn
          rw [if_neg c] at hf
          rw [hn, hf, if_neg c, Int.add_zero, Bool.true_and]
          by_cases c1 : r.fr = p.fr
          · rw [decide_eq_true c1, decide_eq_true (show 0 ≤ r.fr by omega)]; rfl
          · rw [decide_eq_false c1, Bool.and_false]
      rw [key]
      cases decide (0 ≤ r.fr) <;> cases decide (r.who ∈ spk r.w) <;> cases frmJ r <;> cases decide (sayS r.who r.w ∈ aftK (kdJ p.w p.who p.came)) <;> rfl
theorem fw_same {rs : List Jr} (hw : ∀ r ∈ rs, r.wd) : ∀ {o : Option Jr} {room : Int} {k : Nat}, Past o → fwP (mayO o) (ahO o) room rs k = fwL o room rs k := by
  induction rs with
  | nil => intro o room k _; rfl
  | cons r rs ih =>
    intro o room k ho
    have hr := hw r List.mem_cons_self
    show (if okP (mayO o) (ahO o) r = true then _ else _) = (if (shL r && prevOk o r) = true then _ else _)
    rw [ok_same ho hr]
    by_cases c : (shL r && prevOk o r) = true
    · rw [if_pos c, if_pos c]
      by_cases c2 : 1500 < roomP room r.w r.args
      · rw [if_pos c2, if_pos c2]
      · rw [if_neg c2, if_neg c2]
        refine ih (fun x hx => hw x (List.mem_cons_of_mem _ hx)) (o := some r) fun p hp => ?_
        cases hp
        unfold shL at c
        simp only [Bool.and_eq_true, decide_eq_true_eq] at c
        exact ⟨c.1.1, spk_host c.1.2.2.1⟩
    · rw [if_neg c, if_neg c]
theorem fw_eq {rs : List Jr} (hw : ∀ r ∈ rs, r.wd) : fwP may0 (-1) 0 rs 0 = fwL none 0 rs 0 := fw_same hw (o := none) fun p hp => by cases hp
end
end My

namespace My
open PySem PySem.Spec PyProof.Rows L2
section
variable {P : Program} {w : World} {K : PySem.W.Frag} {mg : Str → Option Value} {base : Heap} {a : Ad}
local macro_rules | `(tactic| walk_at "sm") => `(tactic| try simp only [tSeq, tAsg, tVar, tC, tOp, tUn, tRet, tRetN, tDrop, tIfS, tNext, tAnd, tOr, tNot, tB, tTest, tChain, tAndV, tOrV, tNotV, tIf, tCB, tCons, tNil, tCall, tCallS, tPar, rInRg, rNotInRg, rRg1, rRg2, tRaiseAt, tMkAt, tByAt, tCallN, tListR3, tLstRg, tRg1, tRaiseFr, tMkFr, tByFr, rMax2, rMin2, rInt1, rInKD, rNotInKD, tLst, tTup, tSl, tNoPart, tPart,
  tAug, ipI, gName, gSub, gTup, gCons, gNil, rI0, rI, rU, rEq, rNe, rIsN, rNotN, rAddI, rSubI, rMulI, rModI, rDivW, rPowI, rShlI, rShrI, rAndI, rOrI, rXorI, rLtI, rLeI, rGtI, rGeI, rNegI, rIxL, rIxT, rLenQ, rListOf, rTupleOf, rSetL, tRevL, tRaiseC, rSlL,
  List.getElem?_cons_zero, List.getElem?_cons_succ, List.set_cons_zero, List.set_cons_succ, Option.some.injEq, V.int.injEq, V.bl.injEq, V.ref.injEq, V.str.injEq, exists_eq_left', exists_eq_left, exists_and_left, List.cons.injEq, and_true, true_and, List.append_nil, scal, Int.reduceToNat, if_true, if_false, Bool.false_eq_true])
local macro_rules | `(tactic| walk_at "bg") => `(tactic| repeat (first
  | refine ⟨_, SqL.of (by assumption), _, rfl, ?_⟩
  | refine ⟨_, SqL.of upd_same, _, rfl, ?_⟩
  | refine ⟨_, rfl, ?_⟩
  | refine ⟨_, (by assumption), _, rfl, ?_⟩
  | refine ⟨_, upd_same, _, rfl, ?_⟩
  | refine ⟨Or.inr ⟨by omega, by omega⟩, ?_⟩
  | refine ⟨Or.inl ⟨by omega, by omega⟩, ?_⟩
  | refine ⟨(show (0 : Int) < _ by omega), ?_⟩
  | refine ⟨_, .inl (SqL.of upd_same), ?_⟩
  | refine ⟨_, .inl (by assumption), ?_⟩))
local macro_rules | `(tactic| walk_at "ty") => `(tactic| try simp only [tyS, tyL, tyT, if_true, if_false, Bool.false_eq_true, reduceCtorEq, decide_false, decide_true, exists_eq_left', exists_eq_left, V.bl.injEq, and_true, true_and, Bool.not_true, Bool.not_false, decide_eq_true_eq, Bool.true_and, Bool.and_true])
theorem allByte_rep {r : Int} {k : Nat} (h0 : 0 ≤ r) (h1 : r < 256) : (List.replicate k r).all byteN = true := by
  rw [List.all_eq_true]
  intro b hb
  obtain ⟨_, rfl⟩ := List.mem_replicate.mp hb
  simp [byteN]
  omega
theorem rd__law_bytes : RD (sp__law_bytes K a) (t__law_bytes K a) N__law_bytes := by
  rintro vs H Q E ⟨p, c, cs, u, rfl, bag, h0, h1, q⟩
  show t__law_bytes K a _ [some (.ref p), some (.int u), none, none] H
  unfold t__law_bytes
  walk_at "sm"
  have big : ∀ u : Int, u < 2000 → u < 2 ^ 1000 := fun u h => Int.lt_of_lt_of_le h (by decide)
  refine ⟨p, c, cs, _, rfl, bag, by omega, big _ (by omega), fun many H1 m0 m1 bag1 o1 => ?_⟩
  refine ⟨p, c, cs, _, rfl, bag1, by decide, big _ (by decide), fun r H2 r0 r1 bag2 o2 => ?_⟩
  walk_at "sm"
  have x2 : Ex (wo [p] H) (wo [p] H2) := (off_wo o1).trans (off_wo o2)
  refine iteP (fun _ => ?_) (fun _ => ?_)
  · refine ⟨p, c, cs, _, rfl, bag2, by decide, big _ (by decide), fun b H3 b0 b1 bag3 o3 => ?_⟩
    refine ⟨by show 1 ≤ sizeLine; decide, fun t ht => ?_⟩
    have tp : t ∉ [p] := fun z => bag3.there (by rw [← List.mem_singleton.mp z]; exact ht)
    have x3 : Ex (wo [p] H) (wo [p] (upd H3 t (.tup [.int b]))) := (x2.trans (off_wo o3)).trans (Ex.new ht).wo
    have bag4 := bag3.mono (Ex.new ht (o := .tup [.int b]))
    refine ⟨t, many, [.int b], rfl, rfl, SqT.of upd_same, by simp, m0, by omega, by show 1 ≤ 1000; decide, fun k1 => ?_, fun k1 t2 ht2 => ?_⟩
    · subst k1
      refine q t [b] _ (by simp; omega) (by simpa using allByte_rep (k := 1) b0 b1) bag4 x3 (SqT.of ?_)
      rw [wo_get tp]
      exact upd_same
    · have tp2 : t2 ∉ [p] := fun z => bag4.there (by rw [← List.mem_singleton.mp z]; exact ht2)
      refine q t2 (List.replicate many.toNat b) _ (by simp; omega) (allByte_rep b0 b1) (bag4.mono (Ex.new ht2)) (x3.trans (Ex.new ht2).wo) (SqT.of ?_)
      rw [wo_get tp2, upd_same]
      simp [List.map_replicate]
  · refine lcRB (n := many) 3 [p] (fun G => Bag K c cs G p) (fun j v _ => ∃ b : Int, v = .int b ∧ 0 ≤ b ∧ b < 256) (fun R r => ⟨_, rfl, r⟩) m0 (by omega) (fun _ _ _ _ _ h => h) (fun _ => rfl) bag2 (fun j D H3 Q1 hj hD hD1 e J q' => ?_) (fun D H3 ys hD e J hy hm => ?_)
    · simp only [wipe]
      walk_at "sm"
      have Dp : D ≠ p := fun z => bag2.there (z ▸ hD)
      refine ⟨p, c, cs, _, rfl, J.mono wo_ex, by decide, big _ (by decide), fun b H4 b0 b1 bag4 o4 => ?_⟩
      refine q' _ H4 (o4 D Dp) ?_ (J.turned bag4 o4) ⟨b, rfl, b0, b1⟩
      have : ∀ x, x ≠ p → wo [D] H4 x = wo [D] H3 x := fun x hx => by
        unfold wo
        split
        · rfl
        · exact o4 x hx
      exact off_wo this
    · refine ⟨D, rfl, ys, .inl ⟨SqL.of hy, fun t ht => ?_⟩⟩
      obtain ⟨bs, rfl, hb⟩ : ∃ bs : List Int, ys = bs.map V.int ∧ bs.all byteN = true := by
        refine ⟨(List.range many.toNat).map fun j => match ys[j]? with | some (V.int b) => b | _ => 0, ?_, ?_⟩
        · refine Made.ints (H := H3) ⟨hm.1, fun j hj => ?_⟩
          obtain ⟨v, e1, b, rfl, _⟩ := hm.2 j hj
          refine ⟨_, e1, ?_⟩
          show V.int b = V.int (match ys[j]? with | some (V.int b) => b | _ => 0)
          rw [e1]
        · rw [List.all_eq_true]
          intro x hx
          obtain ⟨j, hj, rfl⟩ := List.mem_map.mp hx
          obtain ⟨v, e1, b, rfl, b0, b1⟩ := hm.2 j (List.mem_range.mp hj)
          simp [e1, byteN]
          omega
      have bag3 := J.mono wo_ex
      have tp2 : t ∉ [p] := fun z => bag3.there (by rw [← List.mem_singleton.mp z]; exact ht)
      have hl : bs.length = many.toNat := by
        have := hm.1
        rwa [List.length_map] at this
      refine q t bs _ (by omega) hb (bag3.mono (Ex.new ht)) (x2.trans (e.trans ?_)) (SqT.of ?_)
      · rw [wo_comm]
        exact wo_ex.trans (Ex.new ht).wo
      · rw [wo_get tp2]
        exact upd_same
theorem one_go {B c : Addr} {cs : List Int} {xs : List V} {H : Hp} {Q : VK} (bag : Bag K c cs H B) (h0 : 0 < xs.length) (h1 : xs.length ≤ 1000) (k : ∀ x H', x ∈ xs → Bag K c cs H' B → Ex (wo [B] H) (wo [B] H') → Q x H') :
    xs.length ≤ sizeLine ∧ ∀ p, H p = none → sp__law_one K a [.ref B, .ref p] (upd H p (.lst xs)) Q E0 :=
  ⟨smallLen h1, fun p hp => ⟨B, c, cs, p, xs, rfl, bag.mono (Ex.new hp), SqL.of (by rw [wo_get (by rw [List.mem_singleton]; exact fun z => bag.there (z ▸ hp))]; exact upd_same), h0, h1, fun x H' hx b o => k x H' hx b (Same.trans (Ex.new hp).wo (off_wo o))⟩⟩
theorem noL_pk (w : Str) (args : List Arg) : noL (.tuple (pkD w args)) = true := by
  show noLs (.str w :: args.map Arg.d) = true
  refine noLs_all (memC rfl fun d hd => ?_)
  obtain ⟨x, _, rfl⟩ := List.mem_map.mp hd
  cases x with
  | int i => rfl
  | byt ns =>
    show noLs (ns.map PyData.int) = true
    exact noLs_all fun d hd => by
      obtain ⟨y, _, rfl⟩ := List.mem_map.mp hd
      rfl
theorem noL_jr (r : Jr) : noL r.d = true := by
  show noLs [.int r.fr, .str r.who, .tuple (pkD r.w r.args), .bool r.came] = true
  refine noLs_all (memC rfl (memC rfl (memC ?_ (mem1 rfl))))
  show noLs (.str r.w :: r.args.map Arg.d) = true
  refine noLs_all (memC rfl fun d hd => ?_)
  obtain ⟨x, _, rfl⟩ := List.mem_map.mp hd
  cases x with
  | int i => rfl
  | byt ns =>
    show noLs (ns.map PyData.int) = true
    exact noLs_all fun d hd => by
      obtain ⟨y, _, rfl⟩ := List.mem_map.mp hd
      rfl
theorem jr_dp {H : Hp} {p : Addr} {v : V} {fr : Int} {who w : Str} {args : List Arg} {came : Bool} (h : SqT K H p [.int fr, .str who, v, .bl came]) (d : Dp K H v (.tuple (pkD w args))) : Dp K H (.ref p) (Jr.d ⟨fr, who, w, args, came⟩) :=
  .tup h (.cons (.int _) (.cons (.str _) (.cons d (.cons (.bl _) .nil))))
/-- a list of rows that a law is making, at l, beside its bag at B -/
structure LI (K : PySem.W.Frag) (c : Addr) (cs : List Int) (B l : Addr) (H0 : Hp) (rs : List Jr) (H : Hp) : Prop where
  lB : l ≠ B
  J : Bag K c cs (wo [l] H) B
  ex : Ex (wo [B] H0) (wo [B] (wo [l] H))
  dA : ∃ xs, H l = some (.lst xs) ∧ xs.length = rs.length ∧ DpAll K (wo [l] (wo [B] H)) xs (rs.map Jr.d)
  wd : ∀ r ∈ rs, r.wd
section
variable {c B l : Addr} {cs : List Int} {H0 H H' : Hp} {rs : List Jr}
theorem LI.bag (I : LI K c cs B l H0 rs H) : Bag K c cs H B := I.J.mono wo_ex
theorem LI.go (I : LI K c cs B l H0 rs H) (b : Bag K c cs H' B) (e : Ex (wo [B] H) (wo [B] H')) : LI K c cs B l H0 rs H' := by
  obtain ⟨xs, h1, h2, h3⟩ := I.dA
  have kk : Ex (wo [B] (wo [l] H)) (wo [B] (wo [l] H')) := by rw [wo_comm, wo_comm (H := H')]; exact Ex.wo e
  exact ⟨I.lB, I.J.turnedX b kk, Same.trans I.ex kk, ⟨xs, stay e I.lB h1, h2, Ex.dpAll (Ex.wo e) _ _ h3⟩, I.wd⟩
theorem LI.mono (I : LI K c cs B l H0 rs H) (e : Ex H H') : LI K c cs B l H0 rs H' := I.go (I.bag.mono e) (Ex.wo e)
theorem LI.off (I : LI K c cs B l H0 rs H) (b : Bag K c cs H' B) (o : ∀ x, x ≠ B → H' x = H x) : LI K c cs B l H0 rs H' := I.go b (off_wo o)
theorem LI.app {v : V} {r : Jr} (I : LI K c cs B l H0 rs H) (h : Dp K (wo [B] H) v r.d) (hr : r.wd) : ∃ xs, H l = some (.lst xs) ∧ xs.length = rs.length ∧ LI K c cs B l H0 (rs ++ [r]) (upd H l (.lst (xs ++ [v]))) := by
  obtain ⟨xs, h1, h2, h3⟩ := I.dA
  have hb : wo [B] H l = some (.lst xs) := (wo_get (by rw [List.mem_singleton]; exact I.lB)).trans h1
  refine ⟨xs, h1, h2, I.lB, ?_, ?_, ⟨_, upd_same, ?_, ?_⟩, fun x hx => ?_⟩
  · rw [wo_upd (List.mem_singleton.mpr rfl)]
    exact I.J
  · rw [wo_upd (List.mem_singleton.mpr rfl)]
    exact I.ex
  · rw [List.length_append, List.length_append, h2]
    rfl
  · rw [wo_comm, wo_upd (List.mem_singleton.mpr rfl), wo_comm, List.map_append]
    exact DpAll.app h3 (.cons (Dp.offL hb _ _ (noL_jr r) h) .nil)
  · rcases List.mem_append.mp hx with hx | hx
    · exact I.wd x hx
    · rw [List.mem_singleton.mp hx]; exact hr
theorem LD.dp {v : V} (h : LD K B H v rs) : Dp K (wo [B] H) v (rowsD rs) := by
  obtain ⟨b, xs, rfl, h1, h2, h3⟩ := h
  exact .lst (SqL.of ((wo_get (by rw [List.mem_singleton]; exact h1)).trans h2)) h3
theorem LD.go {v : V} (h : LD K B H v rs) (e : Ex (wo [B] H) (wo [B] H')) : LD K B H' v rs := by
  obtain ⟨b, xs, rfl, h1, h2, h3⟩ := h
  exact ⟨b, xs, rfl, h1, stay e h1 h2, Ex.dpAll e _ _ h3⟩
theorem LI.done (I : LI K c cs B l H0 rs H) : LD K B H (.ref l) rs ∧ Ex (wo [B] H0) (wo [B] H) := by
  obtain ⟨xs, h1, h2, h3⟩ := I.dA
  exact ⟨⟨l, xs, rfl, I.lB, h1, Ex.dpAll wo_ex _ _ h3⟩, Same.trans I.ex (Ex.wo wo_ex)⟩
theorem LI.new {xs : List V} (bag : Bag K c cs H B) (hl : H l = none) (e : Ex (wo [B] H0) (wo [B] H)) (d : DpAll K (wo [B] H) xs (rs.map Jr.d)) (hw : ∀ r ∈ rs, r.wd) : LI K c cs B l H0 rs (upd H l (.lst xs)) := by
  have lB : l ≠ B := fun z => bag.there (z ▸ hl)
  refine ⟨lB, ?_, ?_, ⟨xs, upd_same, by rw [DpAll.len d, List.length_map], ?_⟩, hw⟩
  · rw [wo_upd (List.mem_singleton.mpr rfl), wo_off hl]
    exact bag
  · rw [wo_upd (List.mem_singleton.mpr rfl), wo_off hl]
    exact e
  · rw [wo_comm, wo_upd (List.mem_singleton.mpr rfl), wo_off hl]
    exact d
theorem LI.ty (I : LI K c cs B l H0 rs H) : tyV K "list" (.ref l) H := by
  obtain ⟨xs, h, _⟩ := I.dA
  exact .inl ⟨rfl, _, SqL.of h⟩
theorem offUT {xs : List V} {o : HO} {t : Addr} {vs : List V} (h1 : H l = some (.lst xs)) (h : SqT K H t vs) : SqT K (upd H l o) t vs := by
  have z := sqT_offL h1 h
  rw [← wo_upd (o := o) (List.mem_singleton.mpr rfl)] at z
  exact Ex.sqT wo_ex z
theorem LI.row {p1 : Addr} {v : V} {f : Int} {who w : Str} {args : List Arg} {cm : Bool} (I : LI K c cs B l H0 rs H) (hp1 : H p1 = none) (d : Dp K (wo [B] H) v (.tuple (pkD w args))) (hw : who ∈ who4) (jp : JP w args) (hl : rs.length ≤ 5000) :
    ∃ xs, upd H p1 (.tup [.int f, .str who, v, .bl cm]) l = some (.lst xs) ∧ xs.length < sizeLine ∧ LI K c cs B l H0 (rs ++ [⟨f, who, w, args, cm⟩]) (upd (upd H p1 (.tup [.int f, .str who, v, .bl cm])) l (.lst (xs ++ [.ref p1]))) := by
  have I' := I.mono (Ex.new hp1 (o := .tup [.int f, .str who, v, .bl cm]))
  obtain ⟨xs, h1, h2, h3⟩ := I'.app (v := .ref p1) (r := ⟨f, who, w, args, cm⟩) (jr_dp (sqT_offB I'.bag (SqT.of upd_same)) (Ex.dp (Ex.wo (Ex.new hp1)) _ _ d)) ⟨hw, jp⟩
  exact ⟨xs, h1, Nat.lt_of_le_of_lt (show xs.length ≤ 5000 by omega) (by decide), h3⟩
end
theorem rd__law_turn : RD (sp__law_turn K a) (t__law_turn K a) N__law_turn := by
  rintro vs H Q E ⟨B, c, cs, f, rfl, bag, q⟩
  show t__law_turn K a _ [some (.ref B), some (.int f), none, none, none, none, none, none] H
  unfold t__law_turn
  walk_at "sm"
  have big : ∀ u : Int, u < 2000 → u < 2 ^ 1000 := fun u h => Int.lt_of_lt_of_le h (by decide)
  refine ⟨B, c, cs, _, rfl, bag, by decide, by decide, fun n H1 n0 n1 bag1 o1 => ?_⟩
  refine ⟨B, c, cs, _, rfl, bag1, by decide, by decide, fun e H2 e0 e1 bag2 o2 => ?_⟩
  have x2 : Ex (wo [B] H) (wo [B] H2) := Same.trans (off_wo o1) (off_wo o2)
  refine ⟨_, _, ⟨rfl, rfl⟩, B, c, cs, _, rfl, bag2, by decide, by decide, fun cm H3 c0 c1 bag3 o3 => ⟨_, rfl, B, c, cs, _, rfl, bag3, by decide, by decide, fun k H4 k0 k1 bag4 o4 => ⟨rfl, ?_⟩⟩⟩
  have x4 : Ex (wo [B] H) (wo [B] H4) := Same.trans x2 (Same.trans (off_wo o3) (off_wo o4))
  have fin : ∀ l rs H', LI K c cs B l H rs H' → rs.length ≤ 3 → Q (.ref l) H' := fun l rs H' I h => q (.ref l) rs H' h I.wd I.bag I.done.2 I.done.1
  refine iteP (fun hk => ?_) (fun hk => ?_)
  · refine ⟨up3, fun p hp => ⟨up4, fun p1 hp1 => ⟨up1, fun l hl => ?_⟩⟩⟩
    have n1 := Ex.new hp (o := .tup [V.str "in", .int n, .int e])
    have n2 := Ex.new hp1 (o := .tup [V.int f, .str "host", .ref p, .bl (decide (0 < cm))])
    have n12 := Same.trans n1 n2
    have dr : Dp K (upd (upd H4 p (.tup [V.str "in", .int n, .int e])) p1 (.tup [V.int f, .str "host", .ref p, .bl (decide (0 < cm))])) (.ref p1) (Jr.d ⟨f, "host", "in", [.int n, .int e], decide (0 < cm)⟩) :=
      jr_dp (SqT.of upd_same) (Ex.dp n2 _ _ (Dp.newT hp (.cons (.str _) (.cons (.int _) (.cons (.int _) .nil)))))
    have I : LI K c cs B l H [⟨f, "host", "in", [.int n, .int e], decide (0 < cm)⟩] _ := LI.new (bag4.mono n12) hl (Same.trans x4 (Ex.wo n12)) (.cons (Dp.off (bag4.mono n12) _ _ (noL_jr _) dr) .nil) (mem1 ⟨show ("host" : Str) ∈ who4 by decide, .tok _ _ _ (show ("in" : Str) ∈ tokW by decide)⟩)
    generalize upd (upd (upd H4 p (.tup [V.str "in", .int n, .int e])) p1 (.tup [V.int f, .str "host", .ref p, .bl (decide (0 < cm))])) l (.lst [V.ref p1]) = H5 at I ⊢
    refine iteB (fun hcm => ?_) (fun hcm => fin l _ _ I (by show 1 ≤ 3; decide))
    refine ⟨B, c, cs, _, rfl, I.bag, by decide, by decide, fun y H6 y0 y1 bag6 o6 => ⟨_, rfl, iteP (fun hy => ?_) (fun hy => fin l _ _ (I.off bag6 o6) (by show 1 ≤ 3; decide))⟩⟩
    have I6 := I.off bag6 o6
    refine ⟨B, c, cs, _, rfl, bag6, by decide, by decide, fun t H7 t0 t1 bag7 o7 => ?_⟩
    have I7 := I6.off bag7 o7
    refine ⟨B, c, cs, 9, rfl, bag7, by decide, by decide, fun tb ns H8 hn hbb bag8 e8 hns => ⟨up3, fun pd hpd => ⟨up1, fun pn hpn => ⟨up1, fun ps hps => ?_⟩⟩⟩⟩
    have I8 := I7.go bag8 e8
    have m1 := Ex.new hpd (o := .tup [V.str "data", .int t, .ref tb])
    have m2 := Ex.new hpn (o := .tup [V.str "nak"])
    have m3 := Ex.new hps (o := .tup [V.str "stall"])
    have dd := Ex.sqT (Same.trans m2 m3) (SqT.of (K := K) (upd_same (H := H8) (a := pd) (o := .tup [V.str "data", .int t, .ref tb])))
    have dn := Ex.sqT m3 (SqT.of (K := K) (upd_same (H := upd H8 pd (.tup [V.str "data", .int t, .ref tb])) (a := pn) (o := .tup [V.str "nak"])))
    have ds := SqT.of (K := K) (upd_same (H := upd (upd H8 pd (.tup [V.str "data", .int t, .ref tb])) pn (.tup [V.str "nak"])) (a := ps) (o := .tup [V.str "stall"]))
    have m13 := Same.trans m1 (Same.trans m2 m3)
    have I9 := I8.mono m13
    have hns9 := Ex.sqT (Ex.wo m13) hns
    generalize upd (upd (upd H8 pd (.tup [V.str "data", .int t, .ref tb])) pn (.tup [V.str "nak"])) ps (.tup [V.str "stall"]) = H9 at dd dn ds I9 hns9 ⊢
    refine one_go I9.bag (by show 0 < 3; decide) (by show 3 ≤ 1000; decide) fun x H10 hx bag10 e10 => ?_
    have I10 := I9.go bag10 e10
    obtain ⟨px, w, args, ys, rfl, jp, hS, hA⟩ : ∃ px w args ys, x = .ref px ∧ JP w args ∧ SqT K (wo [B] H10) px (.str w :: ys) ∧ DpAll K (wo [B] H10) ys (args.map Arg.d) := by
      simp only [List.mem_cons, List.not_mem_nil, or_false] at hx
      rcases hx with rfl | rfl | rfl
      · exact ⟨pd, "data", [.int t, .byt ns], _, rfl, .dat _ _ (by omega) hbb, Ex.sqT e10 (sqT_offB I9.bag dd), .cons (.int _) (.cons (Dp.intsT (Ex.sqT e10 hns9)) .nil)⟩
      · exact ⟨pn, "nak", [], _, rfl, .ans _ (by decide), Ex.sqT e10 (sqT_offB I9.bag dn), .nil⟩
      · exact ⟨ps, "stall", [], _, rfl, .ans _ (by decide), Ex.sqT e10 (sqT_offB I9.bag ds), .nil⟩
    refine ⟨B, c, cs, _, rfl, bag10, by decide, by decide, fun th H11 th0 th1 bag11 o11 => ⟨_, rfl, ?_⟩⟩
    have I11 := I10.off bag11 o11
    have hS11 := Ex.sqT (off_wo o11) hS
    have hA11 := Ex.dpAll (off_wo o11) _ _ hA
    simp only [tBM, rAppend]
    walk_at "sm"
    refine ⟨I11.ty, up4, fun p2 hp2 => ?_⟩
    obtain ⟨xs2, g1, g2, I12⟩ := I11.row (f := f) (who := "thing") (cm := decide (0 < th)) hp2 (.tup hS11 (.cons (.str _) hA11)) (by decide) jp (by show 1 ≤ 5000; decide)
    refine ⟨xs2, g1, g2, ?_⟩
    have hS12 := offUT (o := .lst (xs2 ++ [.ref p2])) g1 (Ex.sqT (Ex.new hp2) (Ex.sqT wo_ex hS11))
    generalize upd (upd H11 p2 (.tup [V.int f, .str "thing", .ref px, .bl (decide (0 < th))])) l (.lst (xs2 ++ [V.ref p2])) = H12 at I12 hS12 ⊢
    refine ⟨_, hS12, _, at0, rfl, iteP (fun cw => iteB (fun cth => ?_) (fun cth => ?_)) (fun cw => ?_)⟩
    · refine ⟨I12.ty, up1, fun pa hpa => ?_⟩
      have I13 := I12.mono (Ex.new hpa (o := .tup [V.str "ack"]))
      have da : Dp K (upd H12 pa (.tup [V.str "ack"])) (.ref pa) (.tuple (pkD "ack" [])) := Dp.newT hpa (.cons (.str _) .nil)
      generalize upd H12 pa (.tup [V.str "ack"]) = H13 at I13 da ⊢
      refine ⟨B, c, cs, _, rfl, I13.bag, by decide, by decide, fun y2 H14 _ _ bag14 o14 => ⟨rfl, up4, fun p3 hp3 => ?_⟩⟩
      have I14 := I13.off bag14 o14
      obtain ⟨xs3, g3, g4, I15⟩ := I14.row (f := f) (who := "host") (cm := decide (V.int y2 = V.int 0)) hp3 (Ex.dp (off_wo o14) _ _ (Dp.off I13.bag _ _ (noL_pk _ _) da)) (by decide) (.ans _ (by decide)) (by show 2 ≤ 5000; decide)
      refine ⟨xs3, g3, g4, ?_⟩
      exact fin l _ _ I15 (by show 3 ≤ 3; decide)
    · exact fin l _ _ I12 (by show 2 ≤ 3; decide)
    · exact fin l _ _ I12 (by show 2 ≤ 3; decide)
  · refine one_go (xs := [.str "out", .str "setup"]) bag4 (by show 0 < 2; decide) (by show 2 ≤ 1000; decide) fun x H5 hx bag5 e5 => ?_
    obtain ⟨w, rfl, hw⟩ : ∃ w : Str, x = .str w ∧ w ∈ tokW := by
      simp only [List.mem_cons, List.not_mem_nil, or_false] at hx
      rcases hx with rfl | rfl
      · exact ⟨"out", rfl, by decide⟩
      · exact ⟨"setup", rfl, by decide⟩
    have x5 := Same.trans x4 e5
    refine ⟨up3, fun p hp => ⟨up4, fun p1 hp1 => ⟨up1, fun l hl => ?_⟩⟩⟩
    have n1 := Ex.new hp (o := .tup [V.str w, .int n, .int e])
    have n2 := Ex.new hp1 (o := .tup [V.int f, .str "host", .ref p, .bl (decide (0 < cm))])
    have n12 := Same.trans n1 n2
    have dr : Dp K (upd (upd H5 p (.tup [V.str w, .int n, .int e])) p1 (.tup [V.int f, .str "host", .ref p, .bl (decide (0 < cm))])) (.ref p1) (Jr.d ⟨f, "host", w, [.int n, .int e], decide (0 < cm)⟩) :=
      jr_dp (SqT.of upd_same) (Ex.dp n2 _ _ (Dp.newT hp (.cons (.str _) (.cons (.int _) (.cons (.int _) .nil)))))
    have I : LI K c cs B l H [⟨f, "host", w, [.int n, .int e], decide (0 < cm)⟩] _ := LI.new (bag5.mono n12) hl (Same.trans x5 (Ex.wo n12)) (.cons (Dp.off (bag5.mono n12) _ _ (noL_jr _) dr) .nil) (mem1 ⟨show ("host" : Str) ∈ who4 by decide, .tok _ _ _ hw⟩)
    generalize upd (upd (upd H5 p (.tup [V.str w, .int n, .int e])) p1 (.tup [V.int f, .str "host", .ref p, .bl (decide (0 < cm))])) l (.lst [V.ref p1]) = H6 at I ⊢
    have step : ∀ (b th : Bool) H' (G : VK), LI K c cs B l H [⟨f, "host", w, [.int n, .int e], decide (0 < cm)⟩] H' → (∀ v H'' r, LI K c cs B l H [⟨f, "host", w, [.int n, .int e], decide (0 < cm)⟩, r] H'' → G v H'') →
        (tBM K "list" rAppend (tVar 5) (tCons (tTup (tCons (tVar 1) (tCons (tC (.str ("host" : Str))) (tCons (tTup (tCons (tC (.str ("data" : Str))) (tCons (tCall (sp__law_pull K a) [] E0 (tCons (tVar 0) (tCons (tC (.int 2)) tNil))) (tCons (tCall (sp__law_bytes K a) [] E0 (tCons (tVar 0) (tCons (tC (.int 9)) tNil))) tNil)))) (tCons (tVar 7) tNil))))) tNil)) [some (.ref B), some (.int f), some (.int n), some (.int e), some (.bl b), some (.ref l), none, some (.bl th)] H' G := by
      intro b th H' G I k
      simp only [tBM, rAppend]
      walk_at "sm"
      refine ⟨I.ty, B, c, cs, _, rfl, I.bag, by decide, by decide, fun t H7 t0 t1 bag7 o7 => ?_⟩
      have I7 := I.off bag7 o7
      refine ⟨B, c, cs, 9, rfl, bag7, by decide, by decide, fun tb ns H8 hn hbb bag8 e8 hns => ⟨up3, fun pd hpd => ⟨up4, fun p2 hp2 => ?_⟩⟩⟩
      have I8 := (I7.go bag8 e8).mono (Ex.new hpd (o := .tup [V.str "data", .int t, .ref tb]))
      have dd : Dp K (upd H8 pd (.tup [V.str "data", .int t, .ref tb])) (.ref pd) (.tuple (pkD "data" [.int t, .byt ns])) := Dp.newT hpd (.cons (.str _) (.cons (.int _) (.cons (Dp.intsT (Ex.sqT wo_ex hns)) .nil)))
      obtain ⟨xs2, g1, g2, I9⟩ := I8.row (f := f) (who := "host") (cm := th) hp2 (Dp.off I8.bag _ _ (noL_pk _ _) dd) (by decide) (.dat _ _ (by omega) hbb) (by show 1 ≤ 5000; decide)
      exact ⟨xs2, g1, g2, k _ _ _ I9⟩
    refine iteB (fun hcm => ?_) (fun hcm => ?_)
    · refine ⟨B, c, cs, _, rfl, I.bag, by decide, by decide, fun th H7 _ _ bag7 o7 => ⟨_, rfl, step _ _ H7 _ (I.off bag7 o7) fun v H8 r8 I8 => iteB (fun hth => ?_) (fun hth => fin l _ _ I8 (by show 2 ≤ 3; decide))⟩⟩
      refine ⟨B, c, cs, _, rfl, I8.bag, by decide, by decide, fun y H9 _ _ bag9 o9 => ⟨_, rfl, iteP (fun hy => ?_) (fun hy => fin l _ _ (I8.off bag9 o9) (by show 2 ≤ 3; decide))⟩⟩
      have I9 := I8.off bag9 o9
      simp only [tBM, rAppend]
      walk_at "sm"
      refine ⟨I9.ty, one_go (xs := [.str "ack", .str "nak", .str "stall"]) bag9 (by show 0 < 3; decide) (by show 3 ≤ 1000; decide) fun x H10 hx bag10 e10 => ?_⟩
      obtain ⟨w2, rfl, hw2⟩ : ∃ w : Str, x = .str w ∧ w ∈ ansW := by
        simp only [List.mem_cons, List.not_mem_nil, or_false] at hx
        rcases hx with rfl | rfl | rfl
        · exact ⟨"ack", rfl, by decide⟩
        · exact ⟨"nak", rfl, by decide⟩
        · exact ⟨"stall", rfl, by decide⟩
      refine ⟨up1, fun pa hpa => ?_⟩
      have I10 := (I9.go bag10 e10).mono (Ex.new hpa (o := .tup [V.str w2]))
      have da : Dp K (upd H10 pa (.tup [V.str w2])) (.ref pa) (.tuple (pkD w2 [])) := Dp.newT hpa (.cons (.str _) .nil)
      generalize upd H10 pa (.tup [V.str w2]) = H11 at I10 da ⊢
      refine ⟨B, c, cs, _, rfl, I10.bag, by decide, by decide, fun y2 H14 _ _ bag14 o14 => ⟨rfl, up4, fun p3 hp3 => ?_⟩⟩
      have I14 := I10.off bag14 o14
      obtain ⟨xs3, g3, g4, I15⟩ := I14.row (f := f) (who := "thing") (cm := decide (V.int y2 = V.int 0)) hp3 (Ex.dp (off_wo o14) _ _ (Dp.off I10.bag _ _ (noL_pk _ _) da)) (by decide) (.ans _ hw2) (by show 2 ≤ 5000; decide)
      exact ⟨xs3, g3, g4, fin l _ _ I15 (by show 3 ≤ 3; decide)⟩
    · refine step _ _ H6 _ I fun v H8 r8 I8 => ?_
      exact fin l _ _ I8 (by show 2 ≤ 3; decide)
end
end My

namespace My
open PySem PySem.Spec PyProof.Rows L2
section
variable {P : Program} {w : World} {K : PySem.W.Frag} {mg : Str → Option Value} {base : Heap} {a : Ad}
local macro_rules | `(tactic| walk_at "sm") => `(tactic| try simp only [tSeq, tAsg, tVar, tC, tOp, tUn, tRet, tRetN, tDrop, tIfS, tNext, tAnd, tOr, tNot, tB, tTest, tChain, tAndV, tOrV, tNotV, tIf, tCB, tCons, tNil, tCall, tCallS, tPar, rInRg, rNotInRg, rRg1, rRg2, tRaiseAt, tMkAt, tByAt, tCallN, tListR3, tLstRg, tRg1, tRaiseFr, tMkFr, tByFr, rMax2, rMin2, rInt1, rInKD, rNotInKD, tLst, tTup, tSl, tNoPart, tPart,
  tAug, ipI, gName, gSub, gTup, gCons, gNil, rI0, rI, rU, rEq, rNe, rIsN, rNotN, rAddI, rSubI, rMulI, rModI, rDivW, rPowI, rShlI, rShrI, rAndI, rOrI, rXorI, rLtI, rLeI, rGtI, rGeI, rNegI, rIxL, rIxT, rLenQ, rListOf, rTupleOf, rSetL, tRevL, tRaiseC, rSlL,
  List.getElem?_cons_zero, List.getElem?_cons_succ, List.set_cons_zero, List.set_cons_succ, Option.some.injEq, V.int.injEq, V.bl.injEq, V.ref.injEq, V.str.injEq, exists_eq_left', exists_eq_left, exists_and_left, List.cons.injEq, and_true, true_and, List.append_nil, scal, Int.reduceToNat, if_true, if_false, Bool.false_eq_true])
local macro_rules | `(tactic| walk_at "bg") => `(tactic| repeat (first
  | refine ⟨_, SqL.of (by assumption), _, rfl, ?_⟩
  | refine ⟨_, SqL.of upd_same, _, rfl, ?_⟩
  | refine ⟨_, rfl, ?_⟩
  | refine ⟨_, (by assumption), _, rfl, ?_⟩
  | refine ⟨_, upd_same, _, rfl, ?_⟩
  | refine ⟨Or.inr ⟨by omega, by omega⟩, ?_⟩
  | refine ⟨Or.inl ⟨by omega, by omega⟩, ?_⟩
  | refine ⟨(show (0 : Int) < _ by omega), ?_⟩
  | refine ⟨_, .inl (SqL.of upd_same), ?_⟩
  | refine ⟨_, .inl (by assumption), ?_⟩))
local macro_rules | `(tactic| walk_at "ty") => `(tactic| try simp only [tyS, tyL, tyT, if_true, if_false, Bool.false_eq_true, reduceCtorEq, decide_false, decide_true, exists_eq_left', exists_eq_left, V.bl.injEq, and_true, true_and, Bool.not_true, Bool.not_false, decide_eq_true_eq, Bool.true_and, Bool.and_true])
theorem forRC {ta : TA} {g : TG} {tb : TS} {D : Ends} {σ : L2.St} {H : Hp} (i : Nat) (Pv : Int → Nat → L2.St → Hp → Prop) (ht : ∀ R : List V → Hp → Prop, (∀ n H', n ≤ 2 ^ 60 → -(2 ^ 60) ≤ n → Pv n 0 σ H' → R [.int n] H') → ta σ H R)
    (hs : ∀ (n : Int) (j : Nat) σ H, (j : Int) < n → Pv n j σ H → tb { D with nx := Pv n (j + 1), ct := Pv n (j + 1), bk := D.nx } (σ.set i (some (.int (j : Nat)))) H) (hd : ∀ n σ H, Pv n n.toNat σ H → D.nx σ H)
    (hg : g = gName i := by rfl) : tFor (iRng1 ta) g tb D σ H := by
  subst hg
  refine ht _ fun n H' h1 h2 h0 => ⟨n, rfl, by omega, by omega, for_range (lo := 0) (n := n.toNat) (Pv n) h0 (fun j σ H hj p => ?_) (fun σ H p => hd n σ H p)⟩
  have e : (0 : Int) + (j : Nat) = (j : Nat) := Int.zero_add _
  rw [e]
  exact hs n j σ H (by omega) p
theorem rd__law_made : RD (sp__law_made K a) (t__law_made K a) N__law_made := by
  rintro vs H Q E ⟨B, c, cs, rfl, bag, q⟩
  show t__law_made K a _ [some (.ref B), none, none, none, none] H
  unfold t__law_made
  walk_at "sm"
  have big : ∀ u : Int, u < 2000 → u < 2 ^ 1000 := fun u h => Int.lt_of_lt_of_le h (by decide)
  refine one_go (xs := [.int 0, .int 5, .int 2046, .int 2047, .int 5000]) bag (by show 0 < 5; decide) (by show 5 ≤ 1000; decide) fun x H1 hx bag1 e1 => ?_
  obtain ⟨f, rfl⟩ : ∃ f, x = .int f := by
    simp only [List.mem_cons, List.not_mem_nil, or_false] at hx
    rcases hx with rfl | rfl | rfl | rfl | rfl <;> exact ⟨_, rfl⟩
  refine ⟨Nat.zero_le _, fun l hl => ?_⟩
  have I : LI K c cs B l H [] (upd H1 l (.lst [])) := LI.new bag1 hl e1 .nil mem0
  generalize upd H1 l (.lst []) = H2 at I ⊢
  refine forRC 3 (fun n k σ H' => n ≤ 4 ∧ ∃ f l rs x3 x4, σ = [some (.ref B), some (.int f), some (.ref l), x3, x4] ∧ LI K c cs B l H rs H' ∧ rs.length ≤ 238 * k) ?ht ?hs ?hd
  case ht =>
    intro R r
    walk_at "sm"
    exact ⟨B, c, cs, _, rfl, I.bag, by decide, by decide, fun n H3 n0 n1 bag3 o3 => r n H3 (by omega) (by omega) ⟨by omega, f, l, [], _, _, rfl, I.off bag3 o3, by show 0 ≤ _; omega⟩⟩
  case hd =>
    rintro n σ H3 ⟨n4, f, l, rs, x3, x4, rfl, I, hn⟩
    walk_at "sm"
    exact q (.ref l) rs H3 (by omega) I.wd I.bag I.done.2 I.done.1
  case hs =>
    rintro n k σ H3 hk ⟨n4, f, l, rs, x3, x4, rfl, I, hn⟩
    walk_at "sm"
    simp only [tBM, rAppend]
    walk_at "sm"
    refine ⟨I.ty, by decide, up2, fun p hp => ?_⟩
    have I4 := I.mono (Ex.new hp (o := .tup [V.str "frame", .int (f % 2048)]))
    have dp : Dp K (upd H3 p (.tup [V.str "frame", .int (f % 2048)])) (.ref p) (.tuple (pkD "frame" [.int (f % 2048)])) := Dp.newT hp (.cons (.str _) (.cons (.int _) .nil))
    generalize upd H3 p (.tup [V.str "frame", .int (f % 2048)]) = H4 at I4 dp ⊢
    refine ⟨B, c, cs, _, rfl, I4.bag, by decide, by decide, fun y H5 _ _ bag5 o5 => ⟨_, rfl, up4, fun p2 hp2 => ?_⟩⟩
    have I5 := I4.off bag5 o5
    obtain ⟨xs2, g1, g2, I6⟩ := I5.row (f := f) (who := "host") (cm := decide (0 < y)) hp2 (Ex.dp (off_wo o5) _ _ (Dp.off I4.bag _ _ (noL_pk _ _) dp)) (by decide) (.frm _) (by omega)
    refine ⟨xs2, g1, g2, ?_⟩
    generalize upd (upd H5 p2 (.tup [V.int f, .str "host", .ref p, .bl (decide (0 < y))])) l (.lst (xs2 ++ [V.ref p2])) = H6 at I6 ⊢
    have l6 : (rs ++ [(⟨f, "host", "frame", [.int (f % 2048)], decide (0 < y)⟩ : Jr)]).length ≤ 238 * k + 1 := by
      rw [List.length_append]
      show _ + 1 ≤ _
      omega
    generalize rs ++ [(⟨f, "host", "frame", [.int (f % 2048)], decide (0 < y)⟩ : Jr)] = rs6 at I6 l6
    refine forRC 4 (fun n' i σ H' => n' ≤ 79 ∧ ∃ l rs x4, σ = [some (.ref B), some (.int f), some (.ref l), some (.int (k : Nat)), x4] ∧ LI K c cs B l H rs H' ∧ rs.length ≤ 238 * k + 1 + 3 * i) ?ht2 ?hs2 ?hd2
    case ht2 =>
      intro R r
      walk_at "sm"
      refine ⟨up2, fun z hz => ?_⟩
      have I7 := I6.mono (Ex.new hz (o := .lst [V.int 4, V.int 80]))
      have zB : z ≠ B := fun e => I6.bag.there (e ▸ hz)
      refine ⟨B, c, cs, _, rfl, I7.bag, by decide, by decide, fun y2 H8 y0 y1 bag8 o8 => ⟨rfl, .inr ⟨_, SqL.of ((o8 _ zB).trans upd_same), ?_⟩⟩⟩
      have I8 := I7.off bag8 o8
      have hm : ∃ m : Int, atI [V.int 4, V.int 80] (if decide (V.int y2 = V.int 0) = true then 1 else 0) = some (.int m) ∧ 0 < m ∧ m ≤ 80 := by
        split
        · exact ⟨80, rfl, by decide, by decide⟩
        · exact ⟨4, rfl, by decide, by decide⟩
      obtain ⟨m, hm1, hm2, hm3⟩ := hm
      exact ⟨_, hm1, B, c, cs, m, rfl, bag8, hm2, big _ (by omega), fun n' H9 n0 n1 bag9 o9 => r n' H9 (by omega) (by omega) ⟨by omega, l, rs6, _, rfl, I8.off bag9 o9, by omega⟩⟩
    case hd2 =>
      rintro n' σ H7 ⟨n79, l7, rs7, x4, rfl, I7, hl7⟩
      walk_at "sm"
      exact ⟨n4, _, _, _, _, _, ⟨rfl, rfl, rfl, rfl⟩, I7, by omega⟩
    case hs2 =>
      rintro n' i σ H7 hi ⟨n79, l7, rs7, x4, rfl, I7, hl7⟩
      walk_at "sm"
      refine ⟨B, c, cs, f, rfl, I7.bag, fun v ts H8 ht hw bag8 e8 ld => ?_⟩
      have I8 := I7.go bag8 e8
      obtain ⟨b2, zs, rfl, b2B, hb2, dz⟩ := ld
      obtain ⟨⟨l', xs, el, lB, hx, dx⟩, ex8⟩ := I8.done
      cases el
      have hxl : xs.length = rs7.length := by rw [DpAll.len dx, List.length_map]
      have hzl : zs.length = ts.length := by rw [DpAll.len dz, List.length_map]
      refine ⟨l7, b2, xs, zs, rfl, rfl, hx, hb2, Nat.le_trans (show xs.length + zs.length ≤ 5000 by omega) (by decide), fun l9 hl9 => ?_⟩
      have I9 : LI K c cs B l9 H (rs7 ++ ts) (upd H8 l9 (.lst (xs ++ zs))) := LI.new bag8 hl9 ex8 (by rw [List.map_append]; exact DpAll.app dx dz) (fun r hr => (List.mem_append.mp hr).elim (I8.wd r) (hw r))
      exact ⟨n79, _, _, _, ⟨rfl, rfl⟩, I9, by rw [List.length_append]; omega⟩
end
end My

namespace My
open PySem PySem.Spec PyProof.Rows L2
section
variable {P : Program} {w : World} {K : PySem.W.Frag} {mg : Str → Option Value} {base : Heap} {a : Ad}
local macro_rules | `(tactic| walk_at "sm") => `(tactic| try simp only [tSeq, tAsg, tVar, tC, tOp, tUn, tRet, tRetN, tDrop, tIfS, tNext, tAnd, tOr, tNot, tB, tTest, tChain, tAndV, tOrV, tNotV, tIf, tCB, tCons, tNil, tCall, tCallS, tPar, rInRg, rNotInRg, rRg1, rRg2, tRaiseAt, tMkAt, tByAt, tCallN, tListR3, tLstRg, tRg1, tRaiseFr, tMkFr, tByFr, rMax2, rMin2, rInt1, rInKD, rNotInKD, tLst, tTup, tSl, tNoPart, tPart,
  tAug, ipI, gName, gSub, gTup, gCons, gNil, rI0, rI, rU, rEq, rNe, rIsN, rNotN, rAddI, rSubI, rMulI, rModI, rDivW, rPowI, rShlI, rShrI, rAndI, rOrI, rXorI, rLtI, rLeI, rGtI, rGeI, rNegI, rIxL, rIxT, rLenQ, rListOf, rTupleOf, rSetL, tRevL, tRaiseC, rSlL,
  List.getElem?_cons_zero, List.getElem?_cons_succ, List.set_cons_zero, List.set_cons_succ, Option.some.injEq, V.int.injEq, V.bl.injEq, V.ref.injEq, V.str.injEq, exists_eq_left', exists_eq_left, exists_and_left, List.cons.injEq, and_true, true_and, List.append_nil, scal, Int.reduceToNat, if_true, if_false, Bool.false_eq_true])
local macro_rules | `(tactic| walk_at "bg") => `(tactic| repeat (first
  | refine ⟨_, SqL.of (by assumption), _, rfl, ?_⟩
  | refine ⟨_, SqL.of upd_same, _, rfl, ?_⟩
  | refine ⟨_, rfl, ?_⟩
  | refine ⟨_, (by assumption), _, rfl, ?_⟩
  | refine ⟨_, upd_same, _, rfl, ?_⟩
  | refine ⟨Or.inr ⟨by omega, by omega⟩, ?_⟩
  | refine ⟨Or.inl ⟨by omega, by omega⟩, ?_⟩
  | refine ⟨(show (0 : Int) < _ by omega), ?_⟩
  | refine ⟨_, .inl (SqL.of upd_same), ?_⟩
  | refine ⟨_, .inl (by assumption), ?_⟩))
local macro_rules | `(tactic| walk_at "ty") => `(tactic| try simp only [tyS, tyL, tyT, if_true, if_false, Bool.false_eq_true, reduceCtorEq, decide_false, decide_true, exists_eq_left', exists_eq_left, V.bl.injEq, and_true, true_and, Bool.not_true, Bool.not_false, decide_eq_true_eq, Bool.true_and, Bool.and_true])
theorem dpSet {H : Hp} {v : V} {d : PyData} : ∀ {xs : List V} {ds : List PyData} {j : Nat}, DpAll K H xs ds → Dp K H v d → DpAll K H (xs.set j v) (ds.set j d)
  | _, _, _, .nil, _ => .nil
  | _, _, 0, .cons h t, hv => .cons hv t
  | _, _, j + 1, .cons h t, hv => .cons h (dpSet t hv)
theorem LI.set {c B l : Addr} {cs : List Int} {H0 H : Hp} {rs : List Jr} {v : V} {r : Jr} {i : Nat} (I : LI K c cs B l H0 rs H) (h : Dp K (wo [B] H) v r.d) (hr : r.wd) : ∃ xs, H l = some (.lst xs) ∧ xs.length = rs.length ∧ LI K c cs B l H0 (rs.set i r) (upd H l (.lst (xs.set i v))) := by
  obtain ⟨xs, h1, h2, h3⟩ := I.dA
  have hb : wo [B] H l = some (.lst xs) := (wo_get (by rw [List.mem_singleton]; exact I.lB)).trans h1
  refine ⟨xs, h1, h2, I.lB, ?_, ?_, ⟨_, upd_same, ?_, ?_⟩, fun x hx => ?_⟩
  · rw [wo_upd (List.mem_singleton.mpr rfl)]
    exact I.J
  · rw [wo_upd (List.mem_singleton.mpr rfl)]
    exact I.ex
  · rw [List.length_set, List.length_set, h2]
  · rw [wo_comm, wo_upd (List.mem_singleton.mpr rfl), wo_comm, List.map_set]
    exact dpSet h3 (Dp.offL hb _ _ (noL_jr r) h)
  · rcases List.mem_or_eq_of_mem_set hx with hx | hx
    · exact I.wd x hx
    · rw [hx]; exact hr
theorem Jr.wd.shp {r : Jr} (h : r.wd) : Shp 4 r.d := by
  have ok1 : ∀ x ∈ who4, x.cps.all (· < 0x110000) = true := by decide +kernel
  have ok2 : ∀ x ∈ wAll, x.cps.all (· < 0x110000) = true := by decide +kernel
  refine Shp.tup (memC ((Shp.int _).mono (by decide)) (memC ((Shp.str (ok1 _ h.1)).mono (by decide)) (memC (Shp.tup (n := 2) (memC ((Shp.str (ok2 _ h.2.word)).mono (by decide)) fun d hd => ?_)) (mem1 ((Shp.bool _).mono (by decide))))))
  obtain ⟨x, _, rfl⟩ := List.mem_map.mp hd
  cases x with
  | int i => exact (Shp.int _).mono (by decide)
  | byt ns => exact Shp.ints ns
theorem rows_shp {rs : List Jr} (h : ∀ r ∈ rs, r.wd) : SeqAt.shaped (rowsD rs) = true := by
  refine (Shp.lst (n := 4) fun d hd => ?_).shaped (by decide)
  obtain ⟨r, hr, rfl⟩ := List.mem_map.mp hd
  exact (h r hr).shp
theorem ixN_nat {n k : Nat} (h : k < n) : ixN n (k : Int) = some k := by
  unfold ixN
  rw [if_pos (by omega), if_pos (by omega)]
  rfl
structure BX (K : PySem.W.Frag) (B : Addr) (H4 : Hp) (qp : Addr) (w who : Str) (args : List Arg) (at_ oth : Int) (n : Nat) : Prop where
  ys : ∃ ys, SqT K (wo [B] H4) qp (.str w :: ys) ∧ DpAll K (wo [B] H4) ys (args.map Arg.d)
  jp : JP w args
  hw : who ∈ who4
  a0 : 0 ≤ at_
  a1 : at_ < n
  o0 : 0 ≤ oth
  o1 : oth < n
section
variable {B b c l qp : Addr} {cs : List Int} {H4 H : Hp} {rs : List Jr} {w who : Str} {args : List Arg} {at_ oth f pick : Int} {n : Nat} {came : Bool}
theorem LI.put {p1 : Addr} {v : V} {g : Int} {y w2 : Str} {as2 : List Arg} {cm : Bool} (I : LI K c cs B l H4 rs H) (hp1 : H p1 = none) (d : Dp K (wo [B] H) v (.tuple (pkD w2 as2))) (hy : y ∈ who4) (jp : JP w2 as2) (a0 : 0 ≤ at_) (a1 : at_ < rs.length) :
    ∃ xs, upd H p1 (.tup [.int g, .str y, v, .bl cm]) l = some (.lst xs) ∧ ∃ k, ixN xs.length at_ = some k ∧ LI K c cs B l H4 (rs.set at_.toNat ⟨g, y, w2, as2, cm⟩) (upd (upd H p1 (.tup [.int g, .str y, v, .bl cm])) l (.lst (xs.set k (.ref p1)))) := by
  have I' := I.mono (Ex.new hp1 (o := .tup [.int g, .str y, v, .bl cm]))
  obtain ⟨xs, h1, h2, h3⟩ := I'.set (v := .ref p1) (r := ⟨g, y, w2, as2, cm⟩) (i := at_.toNat) (jr_dp (sqT_offB I'.bag (SqT.of upd_same)) (Ex.dp (Ex.wo (Ex.new hp1)) _ _ d)) ⟨hy, jp⟩
  refine ⟨xs, h1, at_.toNat, ?_, h3⟩
  have := ixN_nat (n := xs.length) (k := at_.toNat) (by omega)
  rw [show ((at_.toNat : Nat) : Int) = at_ by omega] at this
  exact this
theorem BX.pk (X : BX K B H4 qp w who args at_ oth n) (I : LI K c cs B l H4 rs H) : Dp K (wo [B] H) (.ref qp) (.tuple (pkD w args)) := by
  obtain ⟨ys, h1, h2⟩ := X.ys
  exact .tup (Ex.sqT I.done.2 h1) (.cons (.str _) (Ex.dpAll I.done.2 _ _ h2))
theorem JP.re {x y : Str} {as : List Arg} (h : JP x as) (hy : y ∈ odd4) : JP y as := by
  cases h with
  | tok w i j h => exact .odd2 _ _ _ hy
  | frm i => exact .odd1 _ _ hy
  | dat i ns h g => exact .odd3 _ _ _ hy h g
  | ans w h => exact .odd0 _ hy
  | odd0 w h => exact .odd0 _ hy
  | odd1 w i h => exact .odd1 _ _ hy
  | odd2 w i j h => exact .odd2 _ _ _ hy
  | odd3 w i ns h g g' => exact .odd3 _ _ _ hy g g'
theorem JP.bump {x : Str} {as : List Arg} (h : JP x as) : as = [] ∨ ∃ i r, as = .int i :: r ∧ JP x (.int (i + 128) :: r) := by
  cases h with
  | tok w i j h => exact .inr ⟨_, _, rfl, .tok _ _ _ h⟩
  | frm i => exact .inr ⟨_, _, rfl, .frm _⟩
  | dat i ns h g => exact .inr ⟨_, _, rfl, .dat _ _ h g⟩
  | ans w h => exact .inl rfl
  | odd0 w h => exact .inl rfl
  | odd1 w i h => exact .inr ⟨_, _, rfl, .odd1 _ _ h⟩
  | odd2 w i j h => exact .inr ⟨_, _, rfl, .odd2 _ _ _ h⟩
  | odd3 w i ns h g g' => exact .inr ⟨_, _, rfl, .odd3 _ _ _ h g g'⟩
theorem step3 {D : Ends} (X : BX K B H4 qp w who args at_ oth n) (I : LI K c cs B l H4 rs H) (hn : rs.length = n) (go : ∀ H' rs', LI K c cs B l H4 rs' H' → rs'.length = n → D.nx [some (.ref B), some (.ref b), some (.int at_), some (.int oth), some (.int f), some (.str who), some (.ref qp), some (.bl came), some (.int pick), some (.ref l)] H') :
    (tIfS (tTest (tOp rEq (tVar 8) (tC (.int 3)))) (tAsg (tTup (tCons (tOp rAddI (tVar 4) (tOp (rIxL K) (tLst (tCons (tC (.int 1)) (tCons (tOp rSubI (tC (.int 0)) (tC (.int 1))) (tCons (tC (.int 2048)) tNil)))) (tCall (sp__law_pull K a) [] E0 (tCons (tVar 0) (tCons (tC (.int 3)) tNil))))) (tCons (tVar 5) (tCons (tVar 6) (tCons (tVar 7) tNil))))) (gSub (tVar 9) (tVar 2) rSetL)) tNext) D [some (.ref B), some (.ref b), some (.int at_), some (.int oth), some (.int f), some (.str who), some (.ref qp), some (.bl came), some (.int pick), some (.ref l)] H := by
  walk_at "sm"
  refine iteP (fun _ => ?_) (fun _ => go H rs I hn)
  refine ⟨up3, fun z hz => ?_⟩
  have zB : z ≠ B := fun e => I.bag.there (e ▸ hz)
  have I1 := I.mono (Ex.new hz (o := .lst [V.int 1, V.int (0 - 1), V.int 2048]))
  refine ⟨B, c, cs, _, rfl, I1.bag, by decide, by decide, fun y H2 y0 y1 bag2 o2 => ?_⟩
  have I2 := I1.off bag2 o2
  obtain ⟨m, hm1, hm2⟩ := atI_ints (ns := [1, 0 - 1, 2048]) y0 y1
  refine ⟨_, _, rfl, SqL.of ((o2 _ zB).trans upd_same), _, hm2, _, rfl, up4, fun p1 hp1 => ?_⟩
  obtain ⟨xs, g1, k, g2, I3⟩ := I2.put (g := f + m) (y := who) (cm := came) hp1 (X.pk I2) X.hw X.jp X.a0 (by rw [hn]; exact X.a1)
  exact ⟨xs, g1, k, g2, go _ _ I3 (by rw [List.length_set]; exact hn)⟩
theorem step4 {D : Ends} (X : BX K B H4 qp w who args at_ oth n) (I : LI K c cs B l H4 rs H) (hn : rs.length = n) (go : ∀ H' rs', LI K c cs B l H4 rs' H' → rs'.length = n → D.nx [some (.ref B), some (.ref b), some (.int at_), some (.int oth), some (.int f), some (.str who), some (.ref qp), some (.bl came), some (.int pick), some (.ref l)] H') :
    (tIfS (tTest (tOp rEq (tVar 8) (tC (.int 4)))) (tAsg (tTup (tCons (tVar 4) (tCons (tCall (sp__law_one K a) [] E0 (tCons (tVar 0) (tCons (tLst (tCons (tC (.str ("host" : Str))) (tCons (tC (.str ("thing" : Str))) (tCons (tC (.str ("" : Str))) (tCons (tC (.str ("hub" : Str))) tNil))))) tNil))) (tCons (tVar 6) (tCons (tVar 7) tNil))))) (gSub (tVar 9) (tVar 2) rSetL)) tNext) D [some (.ref B), some (.ref b), some (.int at_), some (.int oth), some (.int f), some (.str who), some (.ref qp), some (.bl came), some (.int pick), some (.ref l)] H := by
  walk_at "sm"
  refine iteP (fun _ => ?_) (fun _ => go H rs I hn)
  refine one_go (xs := [.str "host", .str "thing", .str "", .str "hub"]) I.bag (by show 0 < 4; decide) (by show 4 ≤ 1000; decide) fun x H2 hx bag2 e2 => ?_
  have I2 := I.go bag2 e2
  obtain ⟨y, rfl, hy⟩ : ∃ y : Str, x = .str y ∧ y ∈ who4 := by
    simp only [List.mem_cons, List.not_mem_nil, or_false] at hx
    rcases hx with rfl | rfl | rfl | rfl <;> exact ⟨_, rfl, by decide⟩
  refine ⟨up4, fun p1 hp1 => ?_⟩
  obtain ⟨xs, g1, k, g2, I3⟩ := I2.put (g := f) (y := y) (cm := came) hp1 (X.pk I2) hy X.jp X.a0 (by rw [hn]; exact X.a1)
  exact ⟨xs, g1, k, g2, go _ _ I3 (by rw [List.length_set]; exact hn)⟩
theorem step5 {D : Ends} (X : BX K B H4 qp w who args at_ oth n) (I : LI K c cs B l H4 rs H) (hn : rs.length = n) (go : ∀ H' rs', LI K c cs B l H4 rs' H' → rs'.length = n → D.nx [some (.ref B), some (.ref b), some (.int at_), some (.int oth), some (.int f), some (.str who), some (.ref qp), some (.bl came), some (.int pick), some (.ref l)] H') :
    (tIfS (tTest (tOp rEq (tVar 8) (tC (.int 5)))) (tAsg (tTup (tCons (tVar 4) (tCons (tVar 5) (tCons (tVar 6) (tCons (tNotV (tVar 7)) tNil))))) (gSub (tVar 9) (tVar 2) rSetL)) tNext) D [some (.ref B), some (.ref b), some (.int at_), some (.int oth), some (.int f), some (.str who), some (.ref qp), some (.bl came), some (.int pick), some (.ref l)] H := by
  walk_at "sm"
  refine iteP (fun _ => ?_) (fun _ => go H rs I hn)
  refine ⟨up4, fun p1 hp1 => ?_⟩
  obtain ⟨xs, g1, k, g2, I3⟩ := I.put (g := f) (y := who) (cm := !came) hp1 (X.pk I) X.hw X.jp X.a0 (by rw [hn]; exact X.a1)
  exact ⟨xs, g1, k, g2, go _ _ I3 (by rw [List.length_set]; exact hn)⟩
theorem step6 {D : Ends} (X : BX K B H4 qp w who args at_ oth n) (I : LI K c cs B l H4 rs H) (hn : rs.length = n) (go : ∀ H' rs', LI K c cs B l H4 rs' H' → rs'.length = n → D.nx [some (.ref B), some (.ref b), some (.int at_), some (.int oth), some (.int f), some (.str who), some (.ref qp), some (.bl came), some (.int pick), some (.ref l)] H') :
    (tIfS (tTest (tOp rEq (tVar 8) (tC (.int 6)))) (tAsg (tTup (tCons (tVar 4) (tCons (tVar 5) (tCons (tOp (rCatA K) (tTup (tCons (tCall (sp__law_one K a) [] E0 (tCons (tVar 0) (tCons (tLst (tCons (tC (.str ("ack" : Str))) (tCons (tC (.str ("" : Str))) (tCons (tC (.str ("stall" : Str))) (tCons (tC (.str ("token" : Str))) tNil))))) tNil))) tNil)) (tSl (rSlA K) (tVar 6) (tPart (tC (.int 1))) tNoPart)) (tCons (tVar 7) tNil))))) (gSub (tVar 9) (tVar 2) rSetL)) tNext) D [some (.ref B), some (.ref b), some (.int at_), some (.int oth), some (.int f), some (.str who), some (.ref qp), some (.bl came), some (.int pick), some (.ref l)] H := by
  walk_at "sm"
  refine iteP (fun _ => ?_) (fun _ => go H rs I hn)
  refine one_go (xs := [.str "ack", .str "", .str "stall", .str "token"]) I.bag (by show 0 < 4; decide) (by show 4 ≤ 1000; decide) fun x H2 hx bag2 e2 => ?_
  have I2 := I.go bag2 e2
  obtain ⟨y, rfl, hy⟩ : ∃ y : Str, x = .str y ∧ y ∈ odd4 := by
    simp only [List.mem_cons, List.not_mem_nil, or_false] at hx
    rcases hx with rfl | rfl | rfl | rfl <;> exact ⟨_, rfl, by decide⟩
  refine ⟨up1, fun p0 hp0 => ?_⟩
  obtain ⟨ys, hS, hA⟩ := X.ys
  have hl3 : ys.length ≤ 2 := by
    rw [DpAll.len hA, List.length_map]
    cases X.jp <;> simp
  have I3 := I2.mono (Ex.new hp0 (o := .tup [V.str y]))
  have d0 : SqT K (upd H2 p0 (.tup [V.str y])) p0 [V.str y] := SqT.of upd_same
  have S3 := Ex.sqT wo_ex (Ex.sqT I3.done.2 hS)
  generalize upd H2 p0 (.tup [V.str y]) = H3 at I3 d0 S3 ⊢
  refine slT_go S3 fun t1 H5 e5 h5 => ?_
  rw [cut_drop (by decide)] at h5
  have h5' : SqT K H5 t1 ys := h5
  refine catT_go (Ex.sqT e5 d0) h5' (by show 1 + ys.length ≤ _; omega) fun t2 H6 e6 h6 => ⟨up4, fun p1 hp1 => ?_⟩
  have I6 := I3.mono (Same.trans e5 e6)
  obtain ⟨xs, g1, k, g2, I7⟩ := I6.put (g := f) (y := who) (w2 := y) (as2 := args) (cm := came) hp1 (.tup (sqT_offB I6.bag h6) (.cons (.str _) (Ex.dpAll I6.done.2 _ _ hA))) X.hw (X.jp.re hy) X.a0 (by rw [hn]; exact X.a1)
  exact ⟨xs, g1, k, g2, go _ _ I7 (by rw [List.length_set]; exact hn)⟩
theorem step7 {D : Ends} (X : BX K B H4 qp w who args at_ oth n) (I : LI K c cs B l H4 rs H) (hn : rs.length = n) (go : ∀ H' rs', LI K c cs B l H4 rs' H' → rs'.length = n → D.nx [some (.ref B), some (.ref b), some (.int at_), some (.int oth), some (.int f), some (.str who), some (.ref qp), some (.bl came), some (.int pick), some (.ref l)] H') :
    (tIfS (tAnd (tTest (tOp rEq (tVar 8) (tC (.int 7)))) (tTest (tOp rGtI (tCB (rLenQ K) (tCons (tVar 6) tNil)) (tC (.int 1))))) (tAsg (tTup (tCons (tVar 4) (tCons (tVar 5) (tCons (tOp (rCatA K) (tOp (rCatA K) (tSl (rSlA K) (tVar 6) tNoPart (tPart (tC (.int 1)))) (tTup (tCons (tOp rAddI (tOp (rIxT K) (tVar 6) (tC (.int 1))) (tC (.int 128))) tNil))) (tSl (rSlA K) (tVar 6) (tPart (tC (.int 2))) tNoPart)) (tCons (tVar 7) tNil))))) (gSub (tVar 9) (tVar 2) rSetL)) tNext) D [some (.ref B), some (.ref b), some (.int at_), some (.int oth), some (.int f), some (.str who), some (.ref qp), some (.bl came), some (.int pick), some (.ref l)] H := by
  walk_at "sm"
  refine iteP (fun _ => ?_) (fun _ => go H rs I hn)
  obtain ⟨ys, hS, hA⟩ := X.ys
  have S1 := Ex.sqT wo_ex (Ex.sqT I.done.2 hS)
  have hl3 : ys.length ≤ 2 := by
    rw [DpAll.len hA, List.length_map]
    cases X.jp <;> simp
  refine ⟨_, .inr S1, iteP (fun c1 => ?_) (fun _ => go H rs I hn)⟩
  rcases X.jp.bump with h0 | ⟨i, r, hr, jp2⟩
  · rw [h0] at hA
    cases hA
    exact absurd c1 (by simp)
  · rw [hr] at hA
    obtain ⟨v1, r1, rfl, a1, hA2⟩ := DpAll.consE hA
    cases a1.intE
    refine slT_go S1 fun t1 H2 e2 h2 => ?_
    rw [cut_take (by decide)] at h2
    have I2 := I.mono e2
    have S2 := Ex.sqT e2 S1
    refine ⟨_, S2, _, at_of (j := 1) rfl rfl, _, rfl, up1, fun p0 hp0 => ?_⟩
    have I3 := I2.mono (Ex.new hp0 (o := .tup [V.int (i + 128)]))
    have d0 : SqT K (upd H2 p0 (.tup [V.int (i + 128)])) p0 [V.int (i + 128)] := SqT.of upd_same
    have S3 := Ex.sqT (Ex.new hp0 (o := .tup [V.int (i + 128)])) S2
    have h23 := Ex.sqT (Ex.new hp0 (o := .tup [V.int (i + 128)])) h2
    generalize upd H2 p0 (.tup [V.int (i + 128)]) = H3 at I3 d0 S3 h23 ⊢
    refine catT_go h23 d0 (by show 1 + 1 ≤ _; decide) fun t2 H5 e5 h5 => slT_go (Ex.sqT e5 S3) fun t3 H6 e6 h6 => ?_
    rw [cut_drop (by decide)] at h6
    have h6' : SqT K H6 t3 r1 := h6
    refine catT_go (Ex.sqT e6 h5) h6' (by show 2 + r1.length ≤ _; rw [List.length_cons] at hl3; omega) fun t4 H7 e7 h7 => ⟨up4, fun p1 hp1 => ?_⟩
    have I7 := I3.mono (Same.trans e5 (Same.trans e6 e7))
    have h7' : SqT K H7 t4 (.str w :: .int (i + 128) :: r1) := h7
    obtain ⟨xs, g1, k, g2, I8⟩ := I7.put (g := f) (y := who) (w2 := w) (as2 := .int (i + 128) :: r) (cm := came) hp1 (.tup (sqT_offB I7.bag h7') (.cons (.str _) (.cons (.int _) (Ex.dpAll I7.done.2 _ _ hA2)))) X.hw jp2 X.a0 (by rw [hn]; exact X.a1)
    exact ⟨xs, g1, k, g2, go _ _ I8 (by rw [List.length_set]; exact hn)⟩
theorem step2 {D : Ends} (X : BX K B H4 qp w who args at_ oth n) (I : LI K c cs B l H4 rs H) (hn : rs.length = n) (go : ∀ H' rs', LI K c cs B l H4 rs' H' → rs'.length = n → D.nx [some (.ref B), some (.ref b), some (.int at_), some (.int oth), some (.int f), some (.str who), some (.ref qp), some (.bl came), some (.int pick), some (.ref l)] H') :
    (tIfS (tTest (tOp rEq (tVar 8) (tC (.int 2)))) (tAsg (tTup (tCons (tOp (rIxL K) (tVar 9) (tVar 3)) (tCons (tOp (rIxL K) (tVar 9) (tVar 2)) tNil))) (gTup K 2 (gCons (gSub (tVar 9) (tVar 2) rSetL) (gCons (gSub (tVar 9) (tVar 3) rSetL) gNil)))) tNext) D [some (.ref B), some (.ref b), some (.int at_), some (.int oth), some (.int f), some (.str who), some (.ref qp), some (.bl came), some (.int pick), some (.ref l)] H := by
  walk_at "sm"
  refine iteP (fun _ => ?_) (fun _ => go H rs I hn)
  obtain ⟨xs, h1, h2, h3⟩ := I.dA
  have get : ∀ i : Int, 0 ≤ i → i < n → ∃ x r, atI xs i = some x ∧ Dp K (wo [l] (wo [B] H)) x (Jr.d r) ∧ r.wd := fun i i0 i1 => by
    have hi : i.toNat < rs.length := by omega
    obtain ⟨x, e1, hv⟩ := DpAll.get h3 (show (rs.map Jr.d)[i.toNat]? = some rs[i.toNat].d by rw [List.getElem?_map, List.getElem?_eq_getElem hi]; rfl)
    exact ⟨x, rs[i.toNat], at_of (j := i.toNat) (by omega) e1, hv, I.wd _ (List.getElem_mem hi)⟩
  obtain ⟨x1, r1, a1, d1, w1⟩ := get oth X.o0 X.o1
  obtain ⟨x2, r2, a2, d2, w2⟩ := get at_ X.a0 X.a1
  refine ⟨_, SqL.of h1, x1, a1, _, SqL.of h1, x2, a2, up2, fun p hp => ?_⟩
  have np := Ex.new hp (o := .tup [x1, x2])
  have I1 := I.mono np
  have d1' := Ex.dp (Ex.wo np) _ _ (Ex.dp wo_ex _ _ d1)
  have d2' := Ex.dp (Ex.wo (Ex.wo np)) _ _ d2
  obtain ⟨xs1, g1, g2, I2⟩ := I1.set (i := at_.toNat) d1' w1
  have ix : ∀ (i : Int) (m : Nat), 0 ≤ i → i < m → ixN m i = some i.toNat := fun i m i0 i1 => by
    have := ixN_nat (n := m) (k := i.toNat) (by omega)
    rw [show ((i.toNat : Nat) : Int) = i by omega] at this
    exact this
  have d2'' : Dp K (wo [B] (upd (upd H p (.tup [x1, x2])) l (.lst (xs1.set at_.toNat x1)))) x2 (Jr.d r2) := by
    have ee : wo [l] (wo [B] (upd (upd H p (.tup [x1, x2])) l (.lst (xs1.set at_.toNat x1)))) = wo [l] (wo [B] (upd H p (.tup [x1, x2]))) := by
      rw [wo_comm, wo_upd (List.mem_singleton.mpr rfl), wo_comm]
    rw [← ee] at d2'
    exact Ex.dp wo_ex _ _ d2'
  obtain ⟨xs2, g3, g4, I3⟩ := I2.set (i := oth.toNat) d2'' w2
  have a1 := X.a1
  have o1 := X.o1
  exact ⟨_, SqT.of upd_same, rfl, _, _, rfl, xs1, g1, at_.toNat, ix _ _ X.a0 (by omega), _, _, rfl, xs2, g3, oth.toNat, ix _ _ X.o0 (by rw [g4, List.length_set]; omega), rfl, go _ _ I3 (by rw [List.length_set, List.length_set]; exact hn)⟩
end
theorem rd__law_bent : RD (sp__law_bent K a) (t__law_bent K a) N__law_bent := by
  rintro vs H Q E ⟨B, c, cs, v, rs, rfl, bag, ld, hw, hl, q⟩
  obtain ⟨b, xs, rfl, bB, hb, hA⟩ := ld
  have hlen : xs.length = rs.length := by rw [DpAll.len hA, List.length_map]
  show t__law_bent K a _ [some (.ref B), some (.ref b), none, none, none, none, none, none, none, none] H
  unfold t__law_bent
  generalize hT2 : (tIfS (tTest (tOp rEq (tVar 8) (tC (.int 2)))) (tAsg (tTup (tCons (tOp (rIxL K) (tVar 9) (tVar 3)) (tCons (tOp (rIxL K) (tVar 9) (tVar 2)) tNil))) (gTup K 2 (gCons (gSub (tVar 9) (tVar 2) rSetL) (gCons (gSub (tVar 9) (tVar 3) rSetL) gNil)))) tNext) = T2
  generalize hT3 : (tIfS (tTest (tOp rEq (tVar 8) (tC (.int 3)))) (tAsg (tTup (tCons (tOp rAddI (tVar 4) (tOp (rIxL K) (tLst (tCons (tC (.int 1)) (tCons (tOp rSubI (tC (.int 0)) (tC (.int 1))) (tCons (tC (.int 2048)) tNil)))) (tCall (sp__law_pull K a) [] E0 (tCons (tVar 0) (tCons (tC (.int 3)) tNil))))) (tCons (tVar 5) (tCons (tVar 6) (tCons (tVar 7) tNil))))) (gSub (tVar 9) (tVar 2) rSetL)) tNext) = T3
  generalize hT4 : (tIfS (tTest (tOp rEq (tVar 8) (tC (.int 4)))) (tAsg (tTup (tCons (tVar 4) (tCons (tCall (sp__law_one K a) [] E0 (tCons (tVar 0) (tCons (tLst (tCons (tC (.str ("host" : Str))) (tCons (tC (.str ("thing" : Str))) (tCons (tC (.str ("" : Str))) (tCons (tC (.str ("hub" : Str))) tNil))))) tNil))) (tCons (tVar 6) (tCons (tVar 7) tNil))))) (gSub (tVar 9) (tVar 2) rSetL)) tNext) = T4
  generalize hT5 : (tIfS (tTest (tOp rEq (tVar 8) (tC (.int 5)))) (tAsg (tTup (tCons (tVar 4) (tCons (tVar 5) (tCons (tVar 6) (tCons (tNotV (tVar 7)) tNil))))) (gSub (tVar 9) (tVar 2) rSetL)) tNext) = T5
  generalize hT6 : (tIfS (tTest (tOp rEq (tVar 8) (tC (.int 6)))) (tAsg (tTup (tCons (tVar 4) (tCons (tVar 5) (tCons (tOp (rCatA K) (tTup (tCons (tCall (sp__law_one K a) [] E0 (tCons (tVar 0) (tCons (tLst (tCons (tC (.str ("ack" : Str))) (tCons (tC (.str ("" : Str))) (tCons (tC (.str ("stall" : Str))) (tCons (tC (.str ("token" : Str))) tNil))))) tNil))) tNil)) (tSl (rSlA K) (tVar 6) (tPart (tC (.int 1))) tNoPart)) (tCons (tVar 7) tNil))))) (gSub (tVar 9) (tVar 2) rSetL)) tNext) = T6
  generalize hT7 : (tIfS (tAnd (tTest (tOp rEq (tVar 8) (tC (.int 7)))) (tTest (tOp rGtI (tCB (rLenQ K) (tCons (tVar 6) tNil)) (tC (.int 1))))) (tAsg (tTup (tCons (tVar 4) (tCons (tVar 5) (tCons (tOp (rCatA K) (tOp (rCatA K) (tSl (rSlA K) (tVar 6) tNoPart (tPart (tC (.int 1)))) (tTup (tCons (tOp rAddI (tOp (rIxT K) (tVar 6) (tC (.int 1))) (tC (.int 128))) tNil))) (tSl (rSlA K) (tVar 6) (tPart (tC (.int 2))) tNoPart)) (tCons (tVar 7) tNil))))) (gSub (tVar 9) (tVar 2) rSetL)) tNext) = T7
  walk_at "sm"
  refine ⟨Nat.zero_le _, fun z hz => ?_⟩
  have n1 := Ex.new hz (o := .lst [])
  have hz1 : upd H z (.lst []) z = some (.lst []) := upd_same
  have hb1 := n1 _ _ hb
  have bag1 := bag.mono n1
  have hA1 := Ex.dpAll (Ex.wo n1) _ _ hA
  have x1 : Ex (wo [B] H) (wo [B] (upd H z (.lst []))) := Ex.wo n1
  generalize upd H z (.lst []) = H1 at hz1 hb1 bag1 hA1 x1 ⊢
  refine ⟨rowsD rs, .list [], .lst (SqL.of hb1) (Ex.dpAll wo_ex _ _ hA1), .lst (SqL.of hz1) .nil, rows_shp hw, by decide, _, rfl, ?_⟩
  cases hrs : rs with
  | nil =>
    subst hrs
    exact iteY rfl (q _ [] H1 (Nat.zero_le _) hw bag1 x1 ⟨b, xs, rfl, bB, hb1, hA1⟩)
  | cons r0 rs0 =>
  rw [← hrs]
  have hpos : 0 < rs.length := by rw [hrs]; exact Nat.succ_pos _
  refine iteN (by rw [hrs]; rfl) ?_
  clear hrs r0 rs0
  refine ⟨_, .inl (SqL.of hb1), B, c, cs, _, rfl, bag1, by omega, Int.lt_of_le_of_lt (show (xs.length : Int) ≤ 2000 by omega) (by decide), fun at_ H2 a0 a1 bag2 o2 => ?_⟩
  have hb2 := (o2 _ bB).trans hb1
  refine ⟨_, .inl (SqL.of hb2), B, c, cs, _, rfl, bag2, by omega, Int.lt_of_le_of_lt (show (xs.length : Int) ≤ 2000 by omega) (by decide), fun oth H3 t0 t1 bag3 o3 => ?_⟩
  have hb3 := (o3 _ bB).trans hb2
  have x3 : Ex (wo [B] H) (wo [B] H3) := Same.trans x1 (Same.trans (off_wo o2) (off_wo o3))
  have hA3 := Ex.dpAll (Same.trans (off_wo o2) (off_wo o3)) _ _ hA1
  have hi : at_.toNat < rs.length := by omega
  obtain ⟨x, ex, hv⟩ := DpAll.get hA3 (show (rs.map Jr.d)[at_.toNat]? = some rs[at_.toNat].d by rw [List.getElem?_map, List.getElem?_eq_getElem hi]; rfl)
  have hrw := hw _ (List.getElem_mem hi)
  generalize rs[at_.toNat] = r at hv hrw
  obtain ⟨p1, qp, ys, rfl, hR, hP, hB⟩ := jr_open hv
  have hat : atI xs at_ = some (.ref p1) := at_of (j := at_.toNat) (by omega) ex
  refine ⟨_, _, rfl, SqL.of hb3, _, hat, _, rfl, _, Ex.sqT wo_ex hR, rfl, _, _, rfl, _, _, rfl, _, _, rfl, _, _, rfl, rfl, ?_⟩
  refine ⟨B, c, cs, _, rfl, bag3, by decide, by decide, fun pick H4 _ _ bag4 o4 => ⟨rfl, ?_⟩⟩
  have hb4 := (o4 _ bB).trans hb3
  have x4 : Ex (wo [B] H) (wo [B] H4) := Same.trans x3 (off_wo o4)
  have hA4 := Ex.dpAll (off_wo o4) _ _ hA3
  have hP4 := Ex.sqT (off_wo o4) hP
  have hB4 := Ex.dpAll (off_wo o4) _ _ hB
  have qfin : ∀ H' l zs (rs2 : List Jr), Ex H4 H' → H' l = none → DpAll K (wo [B] H4) zs (rs2.map Jr.d) → (∀ r ∈ rs2, r.wd) → rs2.length ≤ rs.length + 1 → Q (.ref l) (upd H' l (.lst zs)) := by
    intro H' l zs rs2 e' hl' hz hw2 hn2
    have I : LI K c cs B l H4 rs2 (upd H' l (.lst zs)) := LI.new (bag4.mono e') hl' (Ex.wo e') (Ex.dpAll (Ex.wo e') _ _ hz) hw2
    exact q _ rs2 _ hn2 hw2 I.bag (Same.trans x4 I.done.2) I.done.1
  have tk : cutV xs none (some at_) = xs.take at_.toNat := cut_take a0
  have dk : ∀ m : Int, 0 ≤ m → cutV xs (some m) none = xs.drop m.toNat := fun m hm => cut_drop hm
  have htk : DpAll K (wo [B] H4) (xs.take at_.toNat) ((rs.take at_.toNat).map Jr.d) := by rw [List.map_take]; exact hA4.take
  have hdk : ∀ m : Nat, DpAll K (wo [B] H4) (xs.drop m) ((rs.drop m).map Jr.d) := fun m => by rw [List.map_drop]; exact hA4.drop
  have wtk : ∀ r ∈ rs.take at_.toNat, r.wd := fun r hr => hw r (List.mem_of_mem_take hr)
  have wdk : ∀ m : Nat, ∀ r ∈ rs.drop m, r.wd := fun m r hr => hw r (List.mem_of_mem_drop hr)
  refine iteP (fun _ => ?_) (fun _ => ⟨rfl, iteP (fun _ => ?_) (fun _ => ?_)⟩)
  · refine ⟨_, rfl, _, SqL.of hb4, fun p2 hp2 => ⟨_, rfl, _, SqL.of (Ex.new hp2 _ _ hb4), fun p3 hp3 => ?_⟩⟩
    rw [tk] at hp3 ⊢
    rw [dk _ (by omega)]
    have m2 := Ex.new hp2 (o := .lst (xs.take at_.toNat))
    have m3 := Ex.new hp3 (o := .lst (xs.drop (at_ + 1).toNat))
    refine ⟨p2, p3, _, _, rfl, rfl, m3 _ _ upd_same, upd_same, Nat.le_trans (show _ ≤ 5000 by rw [List.length_take, List.length_drop]; omega) (by decide), fun l hl' => ?_⟩
    refine qfin _ l _ (rs.take at_.toNat ++ rs.drop (at_ + 1).toNat) (Same.trans m2 m3) hl' (by rw [List.map_append]; exact DpAll.app htk (hdk _)) (fun r hr => (List.mem_append.mp hr).elim (wtk r) (wdk _ r)) (by rw [List.length_append, List.length_take, List.length_drop]; omega)
  · refine ⟨_, rfl, _, SqL.of hb4, fun p2 hp2 => ?_⟩
    rw [tk]
    have m2 := Ex.new hp2 (o := .lst (xs.take at_.toNat))
    refine ⟨_, _, rfl, SqL.of (m2 _ _ hb4), _, hat, up1, fun p3 hp3 => ?_⟩
    have m3 := Ex.new hp3 (o := .lst [V.ref p1])
    refine ⟨p2, p3, _, _, rfl, rfl, m3 _ _ upd_same, upd_same, Nat.le_trans (show _ ≤ 5000 by rw [List.length_take]; show _ + 1 ≤ _; omega) (by decide), fun p5 hp5 => ?_⟩
    have m5 := Ex.new hp5 (o := .lst (xs.take at_.toNat ++ [V.ref p1]))
    have m25 := Same.trans m2 (Same.trans m3 m5)
    refine ⟨_, rfl, _, SqL.of (m25 _ _ hb4), fun p6 hp6 => ?_⟩
    rw [dk _ a0]
    have m6 := Ex.new hp6 (o := .lst (xs.drop at_.toNat))
    refine ⟨p5, p6, _, _, rfl, rfl, m6 _ _ upd_same, upd_same, Nat.le_trans (show _ ≤ 5000 by rw [List.length_append, List.length_take, List.length_drop]; show _ + 1 + _ ≤ _; omega) (by decide), fun l hl' => ?_⟩
    have dr4 : Dp K (wo [B] H4) (.ref p1) r.d := Ex.dp (off_wo o4) _ _ hv
    refine qfin _ l _ (rs.take at_.toNat ++ [r] ++ rs.drop at_.toNat) (Same.trans m25 m6) hl' (by rw [List.map_append, List.map_append]; exact DpAll.app (DpAll.app htk (.cons dr4 .nil)) (hdk _)) (fun y hy => ?_) (by rw [List.length_append, List.length_append, List.length_take, List.length_drop]; show _ + 1 + _ ≤ _; omega)
    rcases List.mem_append.mp hy with hy | hy
    · rcases List.mem_append.mp hy with hy | hy
      · exact wtk y hy
      · rw [List.mem_singleton.mp hy]; exact hrw
    · exact wdk _ y hy
  · refine ⟨_, .inl (SqL.of hb4), fun l hl' => ?_⟩
    have I : LI K c cs B l H4 rs (upd H4 l (.lst xs)) := LI.new bag4 hl' (Same.refl _) hA4 hw
    have X : BX K B H4 qp r.w r.who r.args at_ oth rs.length := ⟨⟨ys, hP4, hB4⟩, hrw.2, hrw.1, a0, by omega, t0, by omega⟩
    generalize upd H4 l (.lst xs) = H5 at I ⊢
    subst hT2 hT3 hT4 hT5 hT6 hT7
    refine step2 X I rfl fun H6 rs6 I6 n6 => ?_
    dsimp only [tSeq]
    refine step3 X I6 n6 fun H7 rs7 I7 n7 => ?_
    refine step4 X I7 n7 fun H8 rs8 I8 n8 => ?_
    refine step5 X I8 n8 fun H9 rs9 I9 n9 => ?_
    refine step6 X I9 n9 fun H10 rs10 I10 n10 => ?_
    refine step7 X I10 n10 fun H11 rs11 I11 n11 => ?_
    walk_at "sm"
    exact q _ rs11 _ (by omega) I11.wd I11.bag (Same.trans x4 I11.done.2) I11.done.1
theorem eqvAll_self : ∀ ds : List PyData, (∀ d ∈ ds, PyData.eqv d d = true) → PyData.eqvAll ds ds = true
  | [], _ => rfl
  | d :: ds, h => by
    show (PyData.eqv d d && PyData.eqvAll ds ds) = true
    rw [h d List.mem_cons_self, eqvAll_self ds fun x hx => h x (List.mem_cons_of_mem _ hx)]
    rfl
theorem eqv_int (i : Int) : PyData.eqv (.int i) (.int i) = true := by
  show (i == i) = true
  simp
theorem eqv_str (i : Str) : PyData.eqv (.str i) (.str i) = true := by
  show (i == i) = true
  simp
theorem eqv_bool (i : Bool) : PyData.eqv (.bool i) (.bool i) = true := by
  show (i == i) = true
  simp
theorem eqv_rows (rs : List Jr) : PyData.eqv (rowsD rs) (rowsD rs) = true := by
  show PyData.eqvAll (rs.map Jr.d) (rs.map Jr.d) = true
  refine eqvAll_self _ fun d hd => ?_
  obtain ⟨r, _, rfl⟩ := List.mem_map.mp hd
  show PyData.eqvAll [.int r.fr, .str r.who, .tuple (pkD r.w r.args), .bool r.came] [.int r.fr, .str r.who, .tuple (pkD r.w r.args), .bool r.came] = true
  refine eqvAll_self _ (memC (eqv_int _) (memC (eqv_str _) (memC ?_ (mem1 (eqv_bool _)))))
  show PyData.eqvAll (pkD r.w r.args) (pkD r.w r.args) = true
  refine eqvAll_self _ (memC (eqv_str _) fun d hd => ?_)
  obtain ⟨x, _, rfl⟩ := List.mem_map.mp hd
  cases x with
  | int i => exact eqv_int i
  | byt ns =>
    show PyData.eqvAll (ns.map PyData.int) (ns.map PyData.int) = true
    exact eqvAll_self _ fun d hd => by
      obtain ⟨y, _, rfl⟩ := List.mem_map.mp hd
      exact eqv_int y
theorem rd_law : RD (sp_law K a) (t_law K a) N_law := by
  rintro vs H Q E ⟨p, cs, rfl, hS, hl, q⟩
  show t_law K a _ [some (.ref p), none, none, none, none, none] H
  unfold t_law
  walk_at "sm"
  refine ⟨p, cs, rfl, hS, hl, fun B c H1 hB e bag => ?_⟩
  refine forR (n := 3) 2 (fun j σ H' => ∃ x2 x3 x4 x5, σ = [some (.ref p), some (.ref B), x2, x3, x4, x5] ∧ Bag K c cs H' B) (fun R r => r) (by decide) (by decide) ⟨_, _, _, _, rfl, bag⟩ ?hs ?hd
  case hd =>
    rintro σ H' ⟨x2, x3, x4, x5, rfl, bag⟩
    walk_at "sm"
    exact q H'
  case hs =>
    rintro j σ H hj ⟨x2, x3, x4, x5, rfl, bag⟩
    walk_at "sm"
    refine ⟨B, c, cs, rfl, bag, fun v rs H2 hn hw bag2 e2 ld => ?_⟩
    refine forRC 4 (fun n k σ H' => n ≤ 2 ∧ ∃ v rs x4, σ = [some (.ref p), some (.ref B), some (.int (j : Nat)), some v, x4, x5] ∧ Bag K c cs H' B ∧ LD K B H' v rs ∧ (∀ r ∈ rs, r.wd) ∧ rs.length ≤ 1000 + k) ?ht ?hs2 ?hd2
    case ht =>
      intro R r
      walk_at "sm"
      exact ⟨B, c, cs, 3, rfl, bag2, by decide, by decide, fun n H3 n0 n1 bag3 o3 => r n H3 (by omega) (by omega) ⟨by omega, v, rs, _, rfl, bag3, ld.go (off_wo o3), hw, by omega⟩⟩
    case hs2 =>
      rintro n k σ H3 hk ⟨n2, v3, rs3, x4, rfl, bag3, ld3, hw3, hn3⟩
      walk_at "sm"
      exact ⟨B, c, cs, v3, rs3, rfl, bag3, ld3, hw3, by omega, fun v4 rs4 H4 hn4 hw4 bag4 e4 ld4 => ⟨n2, _, _, _, ⟨rfl, rfl⟩, bag4, ld4, hw4, by omega⟩⟩
    case hd2 =>
      rintro n σ H3 ⟨n2, v3, rs3, x4, rfl, bag3, ld3, hw3, hn3⟩
      obtain ⟨b, xs, rfl, bB, hb, hA⟩ := ld3
      have hA' := Ex.dpAll wo_ex _ _ hA
      walk_at "sm"
      refine ⟨_, .inl (SqL.of hb), fun l hl' => ?_⟩
      have n4 := Ex.new hl' (o := .lst xs)
      have hl4 : upd H3 l (.lst xs) l = some (.lst xs) := upd_same
      have hb4 := n4 _ _ hb
      have hA4 := Ex.dpAll n4 _ _ hA'
      generalize upd H3 l (.lst xs) = H4 at n4 hl4 hb4 hA4 ⊢
      have d1 : Dp K H4 (.ref l) (rowsD rs3) := .lst (SqL.of hl4) hA4
      have d2 : Dp K H4 (.ref b) (rowsD rs3) := .lst (SqL.of hb4) hA4
      refine ⟨_, rs3, rfl, d1, hw3, fun H5 e5 => ⟨_, rs3, rfl, Ex.dp e5 _ _ d2, hw3, fun H6 e6 => ?_⟩⟩
      rw [fw_eq hw3]
      refine ⟨_, _, .int _, rfl, .int _, .int _, okInt _ _, fun H7 e7 => ⟨true, rfl, iteN rfl ?_⟩⟩
      have e47 := Same.trans e5 (Same.trans e6 e7)
      refine ⟨rowsD rs3, rowsD rs3, Ex.dp e47 _ _ d1, Ex.dp e47 _ _ d2, rows_shp hw3, rows_shp hw3, _, rfl, iteN (by rw [eqv_rows]; rfl) ⟨_, _, _, _, ⟨rfl, rfl, rfl, rfl⟩, ?_⟩⟩
      exact bag3.mono (Same.trans n4 e47)
end
end My

namespace My
open PySem PySem.Spec PyProof.Rows L2
section
variable {P : Program} {w : World} {K : PySem.W.Frag} {mg : Str → Option Value} {base : Heap} {a : Ad}
theorem ok_is_number (T : Txt K mg a)
    (rd : RD (sp_is_number K a) (t_is_number K a) N_is_number) :
    FnOk P a.w K mg base CX0 1 a.f_is_number a.d_is_number P_is_number (sp_is_number K a) := by
  have nd := sc_is_number.nd
  refine T.F_is_number.ok sc_is_number (fun vs H Q E h => by first | (obtain ⟨rfl, _⟩ := h; rfl; done) | (obtain ⟨_, rfl, _⟩ := h; rfl; done) | (obtain ⟨_, _, rfl, _⟩ := h; rfl; done) | (obtain ⟨_, _, _, rfl, _⟩ := h; rfl; done) | (obtain ⟨_, _, _, _, rfl, _⟩ := h; rfl; done) | (obtain ⟨_, _, _, _, _, rfl, _⟩ := h; rfl; done) | (obtain ⟨_, _, _, _, _, _, rfl, _⟩ := h; rfl; done) | (obtain ⟨_, _, _, _, _, _, _, rfl, _⟩ := h; rfl; done) | (obtain ⟨_, _, _, _, _, _, _, _, rfl, _⟩ := h; rfl; done) | (obtain ⟨_, _, _, _, _, _, _, _, _, rfl, _⟩ := h; rfl; done) | (obtain ⟨_, _, _, _, _, _, _, _, _, _, rfl, _⟩ := h; rfl; done) | (obtain ⟨_, _, _, _, _, _, _, _, _, _, _, rfl, _⟩ := h; rfl; done) | (obtain ⟨_, _, _, _, _, _, _, _, _, _, _, _, rfl, _⟩ := h; rfl; done) | (obtain ⟨_, _, _, _, _, _, _, _, _, _, _, _, _, rfl, _⟩ := h; rfl; done) | (obtain ⟨_, _, _, _, _, _, _, _, _, _, _, _, _, _, rfl, _⟩ := h; rfl; done) | (rcases h with ⟨_, rfl, _⟩ | ⟨_, rfl, _⟩ <;> rfl; done) | (rcases h with ⟨_, rfl, _⟩ | ⟨_, _, rfl, _⟩ <;> rfl; done) | (rcases h with ⟨_, rfl, _⟩ | ⟨_, _, _, rfl, _⟩ <;> rfl; done) | (rcases h with ⟨_, rfl, _⟩ | ⟨_, _, _, _, rfl, _⟩ <;> rfl; done) | (rcases h with ⟨_, rfl, _⟩ | ⟨_, _, _, _, _, rfl, _⟩ <;> rfl; done) | (rcases h with ⟨_, rfl, _⟩ | ⟨_, _, _, _, _, _, rfl, _⟩ <;> rfl; done) | (rcases h with ⟨_, _, rfl, _⟩ | ⟨_, rfl, _⟩ <;> rfl; done) | (rcases h with ⟨_, _, rfl, _⟩ | ⟨_, _, rfl, _⟩ <;> rfl; done) | (rcases h with ⟨_, _, rfl, _⟩ | ⟨_, _, _, rfl, _⟩ <;> rfl; done) | (rcases h with ⟨_, _, rfl, _⟩ | ⟨_, _, _, _, rfl, _⟩ <;> rfl; done) | (rcases h with ⟨_, _, rfl, _⟩ | ⟨_, _, _, _, _, rfl, _⟩ <;> rfl; done) | (rcases h with ⟨_, _, rfl, _⟩ | ⟨_, _, _, _, _, _, rfl, _⟩ <;> rfl; done) | (rcases h with ⟨_, _, _, rfl, _⟩ | ⟨_, rfl, _⟩ <;> rfl; done) | (rcases h with ⟨_, _, _, rfl, _⟩ | ⟨_, _, rfl, _⟩ <;> rfl; done) | (rcases h with ⟨_, _, _, rfl, _⟩ | ⟨_, _, _, rfl, _⟩ <;> rfl; done) | (rcases h with ⟨_, _, _, rfl, _⟩ | ⟨_, _, _, _, rfl, _⟩ <;> rfl; done) | (rcases h with ⟨_, _, _, rfl, _⟩ | ⟨_, _, _, _, _, rfl, _⟩ <;> rfl; done) | (rcases h with ⟨_, _, _, rfl, _⟩ | ⟨_, _, _, _, _, _, rfl, _⟩ <;> rfl; done) | (rcases h with ⟨_, _, _, _, rfl, _⟩ | ⟨_, rfl, _⟩ <;> rfl; done) | (rcases h with ⟨_, _, _, _, rfl, _⟩ | ⟨_, _, rfl, _⟩ <;> rfl; done) | (rcases h with ⟨_, _, _, _, rfl, _⟩ | ⟨_, _, _, rfl, _⟩ <;> rfl; done) | (rcases h with ⟨_, _, _, _, rfl, _⟩ | ⟨_, _, _, _, rfl, _⟩ <;> rfl; done) | (rcases h with ⟨_, _, _, _, rfl, _⟩ | ⟨_, _, _, _, _, rfl, _⟩ <;> rfl; done) | (rcases h with ⟨_, _, _, _, rfl, _⟩ | ⟨_, _, _, _, _, _, rfl, _⟩ <;> rfl; done) | (rcases h with ⟨_, _, _, _, _, rfl, _⟩ | ⟨_, rfl, _⟩ <;> rfl; done) | (rcases h with ⟨_, _, _, _, _, rfl, _⟩ | ⟨_, _, rfl, _⟩ <;> rfl; done) | (rcases h with ⟨_, _, _, _, _, rfl, _⟩ | ⟨_, _, _, rfl, _⟩ <;> rfl; done) | (rcases h with ⟨_, _, _, _, _, rfl, _⟩ | ⟨_, _, _, _, rfl, _⟩ <;> rfl; done) | (rcases h with ⟨_, _, _, _, _, rfl, _⟩ | ⟨_, _, _, _, _, rfl, _⟩ <;> rfl; done) | (rcases h with ⟨_, _, _, _, _, rfl, _⟩ | ⟨_, _, _, _, _, _, rfl, _⟩ <;> rfl; done) | (rcases h with ⟨_, _, _, _, _, _, rfl, _⟩ | ⟨_, rfl, _⟩ <;> rfl; done) | (rcases h with ⟨_, _, _, _, _, _, rfl, _⟩ | ⟨_, _, rfl, _⟩ <;> rfl; done) | (rcases h with ⟨_, _, _, _, _, _, rfl, _⟩ | ⟨_, _, _, rfl, _⟩ <;> rfl; done) | (rcases h with ⟨_, _, _, _, _, _, rfl, _⟩ | ⟨_, _, _, _, rfl, _⟩ <;> rfl; done) | (rcases h with ⟨_, _, _, _, _, _, rfl, _⟩ | ⟨_, _, _, _, _, rfl, _⟩ <;> rfl; done) | (rcases h with ⟨_, _, _, _, _, _, rfl, _⟩ | ⟨_, _, _, _, _, _, rfl, _⟩ <;> rfl; done) | (rcases h with ⟨_, rfl, _⟩ | ⟨_, _, rfl, _⟩ <;> rfl) | (rcases h with ⟨_, rfl, _⟩ | ⟨_, rfl, _⟩ <;> rfl) | (rcases h with h | h | h <;> (first | (obtain ⟨rfl, _⟩ := h; rfl; done) | (obtain ⟨_, rfl, _⟩ := h; rfl; done) | (obtain ⟨_, _, rfl, _⟩ := h; rfl; done) | (obtain ⟨_, _, _, rfl, _⟩ := h; rfl; done) | (obtain ⟨_, _, _, _, rfl, _⟩ := h; rfl; done) | (obtain ⟨_, _, _, _, _, rfl, _⟩ := h; rfl; done) | (obtain ⟨_, _, _, _, _, _, rfl, _⟩ := h; rfl; done) | (obtain ⟨_, _, _, _, _, _, _, rfl, _⟩ := h; rfl; done) | (obtain ⟨_, _, _, _, _, _, _, _, rfl, _⟩ := h; rfl; done) | (obtain ⟨_, _, _, _, _, _, _, _, _, rfl, _⟩ := h; rfl; done) | (obtain ⟨_, _, _, _, _, _, _, _, _, _, rfl, _⟩ := h; rfl; done) | (obtain ⟨_, _, _, _, _, _, _, _, _, _, _, rfl, _⟩ := h; rfl; done) | (obtain ⟨_, _, _, _, _, _, _, _, _, _, _, _, rfl, _⟩ := h; rfl; done) | (obtain ⟨_, _, _, _, _, _, _, _, _, _, _, _, _, rfl, _⟩ := h; rfl; done) | (obtain ⟨_, _, _, _, _, _, _, _, _, _, _, _, _, _, rfl, _⟩ := h; rfl; done)))) (fun cdv A outer s H vs Q E hr h => ⟨t_is_number K a, ?_, rd vs H Q E h⟩)
  exact (pss_one (ps_ret (pe_and (pe_callB call_isi (by rfl) T.n_isinstance (by decide +kernel) (pa_cons (pv 0) (pa_cons (pe_bltn (v := .ty "int") rfl T.n_int (by decide +kernel) rfl) pa_nil))) (pe_one (pe_chain op_le op_le (pv 1) (pv 0) (pv 2))))))
theorem ok_are_bytes (T : Txt K mg a)
    (G_is_number : FnOk P a.w K mg base CX0 1 a.f_is_number a.d_is_number P_is_number (sp_is_number K a))
    (rd : RD (sp_are_bytes K a) (t_are_bytes K a) N_are_bytes) :
    FnOk P a.w K mg base CX0 2 a.f_are_bytes a.d_are_bytes P_are_bytes (sp_are_bytes K a) := by
  have nd := sc_are_bytes.nd
  refine T.F_are_bytes.ok sc_are_bytes (fun vs H Q E h => by first | (obtain ⟨rfl, _⟩ := h; rfl; done) | (obtain ⟨_, rfl, _⟩ := h; rfl; done) | (obtain ⟨_, _, rfl, _⟩ := h; rfl; done) | (obtain ⟨_, _, _, rfl, _⟩ := h; rfl; done) | (obtain ⟨_, _, _, _, rfl, _⟩ := h; rfl; done) | (obtain ⟨_, _, _, _, _, rfl, _⟩ := h; rfl; done) | (obtain ⟨_, _, _, _, _, _, rfl, _⟩ := h; rfl; done) | (obtain ⟨_, _, _, _, _, _, _, rfl, _⟩ := h; rfl; done) | (obtain ⟨_, _, _, _, _, _, _, _, rfl, _⟩ := h; rfl; done) | (obtain ⟨_, _, _, _, _, _, _, _, _, rfl, _⟩ := h; rfl; done) | (obtain ⟨_, _, _, _, _, _, _, _, _, _, rfl, _⟩ := h; rfl; done) | (obtain ⟨_, _, _, _, _, _, _, _, _, _, _, rfl, _⟩ := h; rfl; done) | (obtain ⟨_, _, _, _, _, _, _, _, _, _, _, _, rfl, _⟩ := h; rfl; done) | (obtain ⟨_, _, _, _, _, _, _, _, _, _, _, _, _, rfl, _⟩ := h; rfl; done) | (obtain ⟨_, _, _, _, _, _, _, _, _, _, _, _, _, _, rfl, _⟩ := h; rfl; done) | (rcases h with ⟨_, rfl, _⟩ | ⟨_, rfl, _⟩ <;> rfl; done) | (rcases h with ⟨_, rfl, _⟩ | ⟨_, _, rfl, _⟩ <;> rfl; done) | (rcases h with ⟨_, rfl, _⟩ | ⟨_, _, _, rfl, _⟩ <;> rfl; done) | (rcases h with ⟨_, rfl, _⟩ | ⟨_, _, _, _, rfl, _⟩ <;> rfl; done) | (rcases h with ⟨_, rfl, _⟩ | ⟨_, _, _, _, _, rfl, _⟩ <;> rfl; done) | (rcases h with ⟨_, rfl, _⟩ | ⟨_, _, _, _, _, _, rfl, _⟩ <;> rfl; done) | (rcases h with ⟨_, _, rfl, _⟩ | ⟨_, rfl, _⟩ <;> rfl; done) | (rcases h with ⟨_, _, rfl, _⟩ | ⟨_, _, rfl, _⟩ <;> rfl; done) | (rcases h with ⟨_, _, rfl, _⟩ | ⟨_, _, _, rfl, _⟩ <;> rfl; done) | (rcases h with ⟨_, _, rfl, _⟩ | ⟨_, _, _, _, rfl, _⟩ <;> rfl; done) | (rcases h with ⟨_, _, rfl, _⟩ | ⟨_, _, _, _, _, rfl, _⟩ <;> rfl; done) | (rcases h with ⟨_, _, rfl, _⟩ | ⟨_, _, _, _, _, _, rfl, _⟩ <;> rfl; done) | (rcases h with ⟨_, _, _, rfl, _⟩ | ⟨_, rfl, _⟩ <;> rfl; done) | (rcases h with ⟨_, _, _, rfl, _⟩ | ⟨_, _, rfl, _⟩ <;> rfl; done) | (rcases h with ⟨_, _, _, rfl, _⟩ | ⟨_, _, _, rfl, _⟩ <;> rfl; done) | (rcases h with ⟨_, _, _, rfl, _⟩ | ⟨_, _, _, _, rfl, _⟩ <;> rfl; done) | (rcases h with ⟨_, _, _, rfl, _⟩ | ⟨_, _, _, _, _, rfl, _⟩ <;> rfl; done) | (rcases h with ⟨_, _, _, rfl, _⟩ | ⟨_, _, _, _, _, _, rfl, _⟩ <;> rfl; done) | (rcases h with ⟨_, _, _, _, rfl, _⟩ | ⟨_, rfl, _⟩ <;> rfl; done) | (rcases h with ⟨_, _, _, _, rfl, _⟩ | ⟨_, _, rfl, _⟩ <;> rfl; done) | (rcases h with ⟨_, _, _, _, rfl, _⟩ | ⟨_, _, _, rfl, _⟩ <;> rfl; done) | (rcases h with ⟨_, _, _, _, rfl, _⟩ | ⟨_, _, _, _, rfl, _⟩ <;> rfl; done) | (rcases h with ⟨_, _, _, _, rfl, _⟩ | ⟨_, _, _, _, _, rfl, _⟩ <;> rfl; done) | (rcases h with ⟨_, _, _, _, rfl, _⟩ | ⟨_, _, _, _, _, _, rfl, _⟩ <;> rfl; done) | (rcases h with ⟨_, _, _, _, _, rfl, _⟩ | ⟨_, rfl, _⟩ <;> rfl; done) | (rcases h with ⟨_, _, _, _, _, rfl, _⟩ | ⟨_, _, rfl, _⟩ <;> rfl; done) | (rcases h with ⟨_, _, _, _, _, rfl, _⟩ | ⟨_, _, _, rfl, _⟩ <;> rfl; done) | (rcases h with ⟨_, _, _, _, _, rfl, _⟩ | ⟨_, _, _, _, rfl, _⟩ <;> rfl; done) | (rcases h with ⟨_, _, _, _, _, rfl, _⟩ | ⟨_, _, _, _, _, rfl, _⟩ <;> rfl; done) | (rcases h with ⟨_, _, _, _, _, rfl, _⟩ | ⟨_, _, _, _, _, _, rfl, _⟩ <;> rfl; done) | (rcases h with ⟨_, _, _, _, _, _, rfl, _⟩ | ⟨_, rfl, _⟩ <;> rfl; done) | (rcases h with ⟨_, _, _, _, _, _, rfl, _⟩ | ⟨_, _, rfl, _⟩ <;> rfl; done) | (rcases h with ⟨_, _, _, _, _, _, rfl, _⟩ | ⟨_, _, _, rfl, _⟩ <;> rfl; done) | (rcases h with ⟨_, _, _, _, _, _, rfl, _⟩ | ⟨_, _, _, _, rfl, _⟩ <;> rfl; done) | (rcases h with ⟨_, _, _, _, _, _, rfl, _⟩ | ⟨_, _, _, _, _, rfl, _⟩ <;> rfl; done) | (rcases h with ⟨_, _, _, _, _, _, rfl, _⟩ | ⟨_, _, _, _, _, _, rfl, _⟩ <;> rfl; done) | (rcases h with ⟨_, rfl, _⟩ | ⟨_, _, rfl, _⟩ <;> rfl) | (rcases h with ⟨_, rfl, _⟩ | ⟨_, rfl, _⟩ <;> rfl) | (rcases h with h | h | h <;> (first | (obtain ⟨rfl, _⟩ := h; rfl; done) | (obtain ⟨_, rfl, _⟩ := h; rfl; done) | (obtain ⟨_, _, rfl, _⟩ := h; rfl; done) | (obtain ⟨_, _, _, rfl, _⟩ := h; rfl; done) | (obtain ⟨_, _, _, _, rfl, _⟩ := h; rfl; done) | (obtain ⟨_, _, _, _, _, rfl, _⟩ := h; rfl; done) | (obtain ⟨_, _, _, _, _, _, rfl, _⟩ := h; rfl; done) | (obtain ⟨_, _, _, _, _, _, _, rfl, _⟩ := h; rfl; done) | (obtain ⟨_, _, _, _, _, _, _, _, rfl, _⟩ := h; rfl; done) | (obtain ⟨_, _, _, _, _, _, _, _, _, rfl, _⟩ := h; rfl; done) | (obtain ⟨_, _, _, _, _, _, _, _, _, _, rfl, _⟩ := h; rfl; done) | (obtain ⟨_, _, _, _, _, _, _, _, _, _, _, rfl, _⟩ := h; rfl; done) | (obtain ⟨_, _, _, _, _, _, _, _, _, _, _, _, rfl, _⟩ := h; rfl; done) | (obtain ⟨_, _, _, _, _, _, _, _, _, _, _, _, _, rfl, _⟩ := h; rfl; done) | (obtain ⟨_, _, _, _, _, _, _, _, _, _, _, _, _, _, rfl, _⟩ := h; rfl; done)))) (fun cdv A outer s H vs Q E hr h => ⟨t_are_bytes K a, ?_, rd vs H Q E h⟩)
  exact (pss_one (ps_ret (pe_callB (cr_all rfl) (by rfl) T.n_all (by decide +kernel) (pa_cons (pe_lc (own := [("value", 1)]) (g := (gName 1)) (tt := tYes) (te := (tCall (sp_is_number K a) [] E0 (tCons (tVar 1) (tCons (tC (.int 0)) (tCons (tC (.int 255)) tNil))))) rfl nd (pi_tup (pv 0)) (blkOk_by (N := N_are_bytes) (sc := defScope s_are_bytes) (by decide +kernel)) (fun _ _ _ _ _ => (pg_name (i := 1) nd rfl (by first | exact Or.inl rfl | exact Or.inr rfl))) (fun _ _ _ _ _ => pts_nil) (fun _ _ _ _ _ => (pe_call G_is_number (hr.mono (by decide)) rfl T.g_is_number T.F_is_number.kp T.b_is_number .nil pass0 (pa_cons (pv 1) (pa_cons pe_int (pa_cons pe_int pa_nil)))))) pa_nil))))
theorem ok_is_token (T : Txt K mg a)
    (G_is_number : FnOk P a.w K mg base CX0 1 a.f_is_number a.d_is_number P_is_number (sp_is_number K a))
    (rd : RD (sp_is_token K a) (t_is_token K a) N_is_token) :
    FnOk P a.w K mg base CX0 2 a.f_is_token a.d_is_token P_is_token (sp_is_token K a) := by
  have nd := sc_is_token.nd
  refine T.F_is_token.ok sc_is_token (fun vs H Q E h => by first | (obtain ⟨rfl, _⟩ := h; rfl; done) | (obtain ⟨_, rfl, _⟩ := h; rfl; done) | (obtain ⟨_, _, rfl, _⟩ := h; rfl; done) | (obtain ⟨_, _, _, rfl, _⟩ := h; rfl; done) | (obtain ⟨_, _, _, _, rfl, _⟩ := h; rfl; done) | (obtain ⟨_, _, _, _, _, rfl, _⟩ := h; rfl; done) | (obtain ⟨_, _, _, _, _, _, rfl, _⟩ := h; rfl; done) | (obtain ⟨_, _, _, _, _, _, _, rfl, _⟩ := h; rfl; done) | (obtain ⟨_, _, _, _, _, _, _, _, rfl, _⟩ := h; rfl; done) | (obtain ⟨_, _, _, _, _, _, _, _, _, rfl, _⟩ := h; rfl; done) | (obtain ⟨_, _, _, _, _, _, _, _, _, _, rfl, _⟩ := h; rfl; done) | (obtain ⟨_, _, _, _, _, _, _, _, _, _, _, rfl, _⟩ := h; rfl; done) | (obtain ⟨_, _, _, _, _, _, _, _, _, _, _, _, rfl, _⟩ := h; rfl; done) | (obtain ⟨_, _, _, _, _, _, _, _, _, _, _, _, _, rfl, _⟩ := h; rfl; done) | (obtain ⟨_, _, _, _, _, _, _, _, _, _, _, _, _, _, rfl, _⟩ := h; rfl; done) | (rcases h with ⟨_, rfl, _⟩ | ⟨_, rfl, _⟩ <;> rfl; done) | (rcases h with ⟨_, rfl, _⟩ | ⟨_, _, rfl, _⟩ <;> rfl; done) | (rcases h with ⟨_, rfl, _⟩ | ⟨_, _, _, rfl, _⟩ <;> rfl; done) | (rcases h with ⟨_, rfl, _⟩ | ⟨_, _, _, _, rfl, _⟩ <;> rfl; done) | (rcases h with ⟨_, rfl, _⟩ | ⟨_, _, _, _, _, rfl, _⟩ <;> rfl; done) | (rcases h with ⟨_, rfl, _⟩ | ⟨_, _, _, _, _, _, rfl, _⟩ <;> rfl; done) | (rcases h with ⟨_, _, rfl, _⟩ | ⟨_, rfl, _⟩ <;> rfl; done) | (rcases h with ⟨_, _, rfl, _⟩ | ⟨_, _, rfl, _⟩ <;> rfl; done) | (rcases h with ⟨_, _, rfl, _⟩ | ⟨_, _, _, rfl, _⟩ <;> rfl; done) | (rcases h with ⟨_, _, rfl, _⟩ | ⟨_, _, _, _, rfl, _⟩ <;> rfl; done) | (rcases h with ⟨_, _, rfl, _⟩ | ⟨_, _, _, _, _, rfl, _⟩ <;> rfl; done) | (rcases h with ⟨_, _, rfl, _⟩ | ⟨_, _, _, _, _, _, rfl, _⟩ <;> rfl; done) | (rcases h with ⟨_, _, _, rfl, _⟩ | ⟨_, rfl, _⟩ <;> rfl; done) | (rcases h with ⟨_, _, _, rfl, _⟩ | ⟨_, _, rfl, _⟩ <;> rfl; done) | (rcases h with ⟨_, _, _, rfl, _⟩ | ⟨_, _, _, rfl, _⟩ <;> rfl; done) | (rcases h with ⟨_, _, _, rfl, _⟩ | ⟨_, _, _, _, rfl, _⟩ <;> rfl; done) | (rcases h with ⟨_, _, _, rfl, _⟩ | ⟨_, _, _, _, _, rfl, _⟩ <;> rfl; done) | (rcases h with ⟨_, _, _, rfl, _⟩ | ⟨_, _, _, _, _, _, rfl, _⟩ <;> rfl; done) | (rcases h with ⟨_, _, _, _, rfl, _⟩ | ⟨_, rfl, _⟩ <;> rfl; done) | (rcases h with ⟨_, _, _, _, rfl, _⟩ | ⟨_, _, rfl, _⟩ <;> rfl; done) | (rcases h with ⟨_, _, _, _, rfl, _⟩ | ⟨_, _, _, rfl, _⟩ <;> rfl; done) | (rcases h with ⟨_, _, _, _, rfl, _⟩ | ⟨_, _, _, _, rfl, _⟩ <;> rfl; done) | (rcases h with ⟨_, _, _, _, rfl, _⟩ | ⟨_, _, _, _, _, rfl, _⟩ <;> rfl; done) | (rcases h with ⟨_, _, _, _, rfl, _⟩ | ⟨_, _, _, _, _, _, rfl, _⟩ <;> rfl; done) | (rcases h with ⟨_, _, _, _, _, rfl, _⟩ | ⟨_, rfl, _⟩ <;> rfl; done) | (rcases h with ⟨_, _, _, _, _, rfl, _⟩ | ⟨_, _, rfl, _⟩ <;> rfl; done) | (rcases h with ⟨_, _, _, _, _, rfl, _⟩ | ⟨_, _, _, rfl, _⟩ <;> rfl; done) | (rcases h with ⟨_, _, _, _, _, rfl, _⟩ | ⟨_, _, _, _, rfl, _⟩ <;> rfl; done) | (rcases h with ⟨_, _, _, _, _, rfl, _⟩ | ⟨_, _, _, _, _, rfl, _⟩ <;> rfl; done) | (rcases h with ⟨_, _, _, _, _, rfl, _⟩ | ⟨_, _, _, _, _, _, rfl, _⟩ <;> rfl; done) | (rcases h with ⟨_, _, _, _, _, _, rfl, _⟩ | ⟨_, rfl, _⟩ <;> rfl; done) | (rcases h with ⟨_, _, _, _, _, _, rfl, _⟩ | ⟨_, _, rfl, _⟩ <;> rfl; done) | (rcases h with ⟨_, _, _, _, _, _, rfl, _⟩ | ⟨_, _, _, rfl, _⟩ <;> rfl; done) | (rcases h with ⟨_, _, _, _, _, _, rfl, _⟩ | ⟨_, _, _, _, rfl, _⟩ <;> rfl; done) | (rcases h with ⟨_, _, _, _, _, _, rfl, _⟩ | ⟨_, _, _, _, _, rfl, _⟩ <;> rfl; done) | (rcases h with ⟨_, _, _, _, _, _, rfl, _⟩ | ⟨_, _, _, _, _, _, rfl, _⟩ <;> rfl; done) | (rcases h with ⟨_, rfl, _⟩ | ⟨_, _, rfl, _⟩ <;> rfl) | (rcases h with ⟨_, rfl, _⟩ | ⟨_, rfl, _⟩ <;> rfl) | (rcases h with h | h | h <;> (first | (obtain ⟨rfl, _⟩ := h; rfl; done) | (obtain ⟨_, rfl, _⟩ := h; rfl; done) | (obtain ⟨_, _, rfl, _⟩ := h; rfl; done) | (obtain ⟨_, _, _, rfl, _⟩ := h; rfl; done) | (obtain ⟨_, _, _, _, rfl, _⟩ := h; rfl; done) | (obtain ⟨_, _, _, _, _, rfl, _⟩ := h; rfl; done) | (obtain ⟨_, _, _, _, _, _, rfl, _⟩ := h; rfl; done) | (obtain ⟨_, _, _, _, _, _, _, rfl, _⟩ := h; rfl; done) | (obtain ⟨_, _, _, _, _, _, _, _, rfl, _⟩ := h; rfl; done) | (obtain ⟨_, _, _, _, _, _, _, _, _, rfl, _⟩ := h; rfl; done) | (obtain ⟨_, _, _, _, _, _, _, _, _, _, rfl, _⟩ := h; rfl; done) | (obtain ⟨_, _, _, _, _, _, _, _, _, _, _, rfl, _⟩ := h; rfl; done) | (obtain ⟨_, _, _, _, _, _, _, _, _, _, _, _, rfl, _⟩ := h; rfl; done) | (obtain ⟨_, _, _, _, _, _, _, _, _, _, _, _, _, rfl, _⟩ := h; rfl; done) | (obtain ⟨_, _, _, _, _, _, _, _, _, _, _, _, _, _, rfl, _⟩ := h; rfl; done)))) (fun cdv A outer s H vs Q E hr h => ⟨t_is_token K a, ?_, rd vs H Q E h⟩)
  exact (pss_cons (ps_if (PW.pt (pw_or (pt_cmpR op_ne (pe_callB call_len_seq (by rfl) T.n_len (by decide +kernel) (pa_cons (pv 0) pa_nil)) pe_int (nomark _)) (pw_or1 (pt_cmpR op_notIn_seq (pe_ix ix_tup (pv 0) pe_int (fun _ _ => rfl)) (pe_glob (v := .ref a.k_TOKENS_packets) rfl T.g_TOKENS_packets rfl) (by rfl))))) (pss_one (ps_ret pe_bl)) pss_nil)
      (pss_one (ps_ret (pe_and (pe_call G_is_number (hr.mono (by decide)) rfl T.g_is_number T.F_is_number.kp T.b_is_number .nil pass0 (pa_cons (pe_ix ix_tup (pv 0) pe_int (fun _ _ => rfl)) (pa_cons pe_int (pa_cons pe_int pa_nil)))) (pe_one (pe_call G_is_number (hr.mono (by decide)) rfl T.g_is_number T.F_is_number.kp T.b_is_number .nil pass0 (pa_cons (pe_ix ix_tup (pv 0) pe_int (fun _ _ => rfl)) (pa_cons pe_int (pa_cons pe_int pa_nil)))))))))
theorem ok_is_frame (T : Txt K mg a)
    (G_is_number : FnOk P a.w K mg base CX0 1 a.f_is_number a.d_is_number P_is_number (sp_is_number K a))
    (rd : RD (sp_is_frame K a) (t_is_frame K a) N_is_frame) :
    FnOk P a.w K mg base CX0 2 a.f_is_frame a.d_is_frame P_is_frame (sp_is_frame K a) := by
  have nd := sc_is_frame.nd
  refine T.F_is_frame.ok sc_is_frame (fun vs H Q E h => by first | (obtain ⟨rfl, _⟩ := h; rfl; done) | (obtain ⟨_, rfl, _⟩ := h; rfl; done) | (obtain ⟨_, _, rfl, _⟩ := h; rfl; done) | (obtain ⟨_, _, _, rfl, _⟩ := h; rfl; done) | (obtain ⟨_, _, _, _, rfl, _⟩ := h; rfl; done) | (obtain ⟨_, _, _, _, _, rfl, _⟩ := h; rfl; done) | (obtain ⟨_, _, _, _, _, _, rfl, _⟩ := h; rfl; done) | (obtain ⟨_, _, _, _, _, _, _, rfl, _⟩ := h; rfl; done) | (obtain ⟨_, _, _, _, _, _, _, _, rfl, _⟩ := h; rfl; done) | (obtain ⟨_, _, _, _, _, _, _, _, _, rfl, _⟩ := h; rfl; done) | (obtain ⟨_, _, _, _, _, _, _, _, _, _, rfl, _⟩ := h; rfl; done) | (obtain ⟨_, _, _, _, _, _, _, _, _, _, _, rfl, _⟩ := h; rfl; done) | (obtain ⟨_, _, _, _, _, _, _, _, _, _, _, _, rfl, _⟩ := h; rfl; done) | (obtain ⟨_, _, _, _, _, _, _, _, _, _, _, _, _, rfl, _⟩ := h; rfl; done) | (obtain ⟨_, _, _, _, _, _, _, _, _, _, _, _, _, _, rfl, _⟩ := h; rfl; done) | (rcases h with ⟨_, rfl, _⟩ | ⟨_, rfl, _⟩ <;> rfl; done) | (rcases h with ⟨_, rfl, _⟩ | ⟨_, _, rfl, _⟩ <;> rfl; done) | (rcases h with ⟨_, rfl, _⟩ | ⟨_, _, _, rfl, _⟩ <;> rfl; done) | (rcases h with ⟨_, rfl, _⟩ | ⟨_, _, _, _, rfl, _⟩ <;> rfl; done) | (rcases h with ⟨_, rfl, _⟩ | ⟨_, _, _, _, _, rfl, _⟩ <;> rfl; done) | (rcases h with ⟨_, rfl, _⟩ | ⟨_, _, _, _, _, _, rfl, _⟩ <;> rfl; done) | (rcases h with ⟨_, _, rfl, _⟩ | ⟨_, rfl, _⟩ <;> rfl; done) | (rcases h with ⟨_, _, rfl, _⟩ | ⟨_, _, rfl, _⟩ <;> rfl; done) | (rcases h with ⟨_, _, rfl, _⟩ | ⟨_, _, _, rfl, _⟩ <;> rfl; done) | (rcases h with ⟨_, _, rfl, _⟩ | ⟨_, _, _, _, rfl, _⟩ <;> rfl; done) | (rcases h with ⟨_, _, rfl, _⟩ | ⟨_, _, _, _, _, rfl, _⟩ <;> rfl; done) | (rcases h with ⟨_, _, rfl, _⟩ | ⟨_, _, _, _, _, _, rfl, _⟩ <;> rfl; done) | (rcases h with ⟨_, _, _, rfl, _⟩ | ⟨_, rfl, _⟩ <;> rfl; done) | (rcases h with ⟨_, _, _, rfl, _⟩ | ⟨_, _, rfl, _⟩ <;> rfl; done) | (rcases h with ⟨_, _, _, rfl, _⟩ | ⟨_, _, _, rfl, _⟩ <;> rfl; done) | (rcases h with ⟨_, _, _, rfl, _⟩ | ⟨_, _, _, _, rfl, _⟩ <;> rfl; done) | (rcases h with ⟨_, _, _, rfl, _⟩ | ⟨_, _, _, _, _, rfl, _⟩ <;> rfl; done) | (rcases h with ⟨_, _, _, rfl, _⟩ | ⟨_, _, _, _, _, _, rfl, _⟩ <;> rfl; done) | (rcases h with ⟨_, _, _, _, rfl, _⟩ | ⟨_, rfl, _⟩ <;> rfl; done) | (rcases h with ⟨_, _, _, _, rfl, _⟩ | ⟨_, _, rfl, _⟩ <;> rfl; done) | (rcases h with ⟨_, _, _, _, rfl, _⟩ | ⟨_, _, _, rfl, _⟩ <;> rfl; done) | (rcases h with ⟨_, _, _, _, rfl, _⟩ | ⟨_, _, _, _, rfl, _⟩ <;> rfl; done) | (rcases h with ⟨_, _, _, _, rfl, _⟩ | ⟨_, _, _, _, _, rfl, _⟩ <;> rfl; done) | (rcases h with ⟨_, _, _, _, rfl, _⟩ | ⟨_, _, _, _, _, _, rfl, _⟩ <;> rfl; done) | (rcases h with ⟨_, _, _, _, _, rfl, _⟩ | ⟨_, rfl, _⟩ <;> rfl; done) | (rcases h with ⟨_, _, _, _, _, rfl, _⟩ | ⟨_, _, rfl, _⟩ <;> rfl; done) | (rcases h with ⟨_, _, _, _, _, rfl, _⟩ | ⟨_, _, _, rfl, _⟩ <;> rfl; done) | (rcases h with ⟨_, _, _, _, _, rfl, _⟩ | ⟨_, _, _, _, rfl, _⟩ <;> rfl; done) | (rcases h with ⟨_, _, _, _, _, rfl, _⟩ | ⟨_, _, _, _, _, rfl, _⟩ <;> rfl; done) | (rcases h with ⟨_, _, _, _, _, rfl, _⟩ | ⟨_, _, _, _, _, _, rfl, _⟩ <;> rfl; done) | (rcases h with ⟨_, _, _, _, _, _, rfl, _⟩ | ⟨_, rfl, _⟩ <;> rfl; done) | (rcases h with ⟨_, _, _, _, _, _, rfl, _⟩ | ⟨_, _, rfl, _⟩ <;> rfl; done) | (rcases h with ⟨_, _, _, _, _, _, rfl, _⟩ | ⟨_, _, _, rfl, _⟩ <;> rfl; done) | (rcases h with ⟨_, _, _, _, _, _, rfl, _⟩ | ⟨_, _, _, _, rfl, _⟩ <;> rfl; done) | (rcases h with ⟨_, _, _, _, _, _, rfl, _⟩ | ⟨_, _, _, _, _, rfl, _⟩ <;> rfl; done) | (rcases h with ⟨_, _, _, _, _, _, rfl, _⟩ | ⟨_, _, _, _, _, _, rfl, _⟩ <;> rfl; done) | (rcases h with ⟨_, rfl, _⟩ | ⟨_, _, rfl, _⟩ <;> rfl) | (rcases h with ⟨_, rfl, _⟩ | ⟨_, rfl, _⟩ <;> rfl) | (rcases h with h | h | h <;> (first | (obtain ⟨rfl, _⟩ := h; rfl; done) | (obtain ⟨_, rfl, _⟩ := h; rfl; done) | (obtain ⟨_, _, rfl, _⟩ := h; rfl; done) | (obtain ⟨_, _, _, rfl, _⟩ := h; rfl; done) | (obtain ⟨_, _, _, _, rfl, _⟩ := h; rfl; done) | (obtain ⟨_, _, _, _, _, rfl, _⟩ := h; rfl; done) | (obtain ⟨_, _, _, _, _, _, rfl, _⟩ := h; rfl; done) | (obtain ⟨_, _, _, _, _, _, _, rfl, _⟩ := h; rfl; done) | (obtain ⟨_, _, _, _, _, _, _, _, rfl, _⟩ := h; rfl; done) | (obtain ⟨_, _, _, _, _, _, _, _, _, rfl, _⟩ := h; rfl; done) | (obtain ⟨_, _, _, _, _, _, _, _, _, _, rfl, _⟩ := h; rfl; done) | (obtain ⟨_, _, _, _, _, _, _, _, _, _, _, rfl, _⟩ := h; rfl; done) | (obtain ⟨_, _, _, _, _, _, _, _, _, _, _, _, rfl, _⟩ := h; rfl; done) | (obtain ⟨_, _, _, _, _, _, _, _, _, _, _, _, _, rfl, _⟩ := h; rfl; done) | (obtain ⟨_, _, _, _, _, _, _, _, _, _, _, _, _, _, rfl, _⟩ := h; rfl; done)))) (fun cdv A outer s H vs Q E hr h => ⟨t_is_frame K a, ?_, rd vs H Q E h⟩)
  exact (pss_one (ps_ret (pe_and (pe_cmpR op_eq (pe_callB call_len_seq (by rfl) T.n_len (by decide +kernel) (pa_cons (pv 0) pa_nil)) pe_int (nomark _)) (pe_and (pe_cmpR op_eq (pe_ix ix_tup (pv 0) pe_int (fun _ _ => rfl)) pe_str (nomark _)) (pe_one (pe_call G_is_number (hr.mono (by decide)) rfl T.g_is_number T.F_is_number.kp T.b_is_number .nil pass0 (pa_cons (pe_ix ix_tup (pv 0) pe_int (fun _ _ => rfl)) (pa_cons pe_int (pa_cons pe_int pa_nil)))))))))
theorem ok_is_piece (T : Txt K mg a)
    (G_are_bytes : FnOk P a.w K mg base CX0 2 a.f_are_bytes a.d_are_bytes P_are_bytes (sp_are_bytes K a))
    (rd : RD (sp_is_piece K a) (t_is_piece K a) N_is_piece) :
    FnOk P a.w K mg base CX0 3 a.f_is_piece a.d_is_piece P_is_piece (sp_is_piece K a) := by
  have nd := sc_is_piece.nd
  refine T.F_is_piece.ok sc_is_piece (fun vs H Q E h => by first | (obtain ⟨rfl, _⟩ := h; rfl; done) | (obtain ⟨_, rfl, _⟩ := h; rfl; done) | (obtain ⟨_, _, rfl, _⟩ := h; rfl; done) | (obtain ⟨_, _, _, rfl, _⟩ := h; rfl; done) | (obtain ⟨_, _, _, _, rfl, _⟩ := h; rfl; done) | (obtain ⟨_, _, _, _, _, rfl, _⟩ := h; rfl; done) | (obtain ⟨_, _, _, _, _, _, rfl, _⟩ := h; rfl; done) | (obtain ⟨_, _, _, _, _, _, _, rfl, _⟩ := h; rfl; done) | (obtain ⟨_, _, _, _, _, _, _, _, rfl, _⟩ := h; rfl; done) | (obtain ⟨_, _, _, _, _, _, _, _, _, rfl, _⟩ := h; rfl; done) | (obtain ⟨_, _, _, _, _, _, _, _, _, _, rfl, _⟩ := h; rfl; done) | (obtain ⟨_, _, _, _, _, _, _, _, _, _, _, rfl, _⟩ := h; rfl; done) | (obtain ⟨_, _, _, _, _, _, _, _, _, _, _, _, rfl, _⟩ := h; rfl; done) | (obtain ⟨_, _, _, _, _, _, _, _, _, _, _, _, _, rfl, _⟩ := h; rfl; done) | (obtain ⟨_, _, _, _, _, _, _, _, _, _, _, _, _, _, rfl, _⟩ := h; rfl; done) | (rcases h with ⟨_, rfl, _⟩ | ⟨_, rfl, _⟩ <;> rfl; done) | (rcases h with ⟨_, rfl, _⟩ | ⟨_, _, rfl, _⟩ <;> rfl; done) | (rcases h with ⟨_, rfl, _⟩ | ⟨_, _, _, rfl, _⟩ <;> rfl; done) | (rcases h with ⟨_, rfl, _⟩ | ⟨_, _, _, _, rfl, _⟩ <;> rfl; done) | (rcases h with ⟨_, rfl, _⟩ | ⟨_, _, _, _, _, rfl, _⟩ <;> rfl; done) | (rcases h with ⟨_, rfl, _⟩ | ⟨_, _, _, _, _, _, rfl, _⟩ <;> rfl; done) | (rcases h with ⟨_, _, rfl, _⟩ | ⟨_, rfl, _⟩ <;> rfl; done) | (rcases h with ⟨_, _, rfl, _⟩ | ⟨_, _, rfl, _⟩ <;> rfl; done) | (rcases h with ⟨_, _, rfl, _⟩ | ⟨_, _, _, rfl, _⟩ <;> rfl; done) | (rcases h with ⟨_, _, rfl, _⟩ | ⟨_, _, _, _, rfl, _⟩ <;> rfl; done) | (rcases h with ⟨_, _, rfl, _⟩ | ⟨_, _, _, _, _, rfl, _⟩ <;> rfl; done) | (rcases h with ⟨_, _, rfl, _⟩ | ⟨_, _, _, _, _, _, rfl, _⟩ <;> rfl; done) | (rcases h with ⟨_, _, _, rfl, _⟩ | ⟨_, rfl, _⟩ <;> rfl; done) | (rcases h with ⟨_, _, _, rfl, _⟩ | ⟨_, _, rfl, _⟩ <;> rfl; done) | (rcases h with ⟨_, _, _, rfl, _⟩ | ⟨_, _, _, rfl, _⟩ <;> rfl; done) | (rcases h with ⟨_, _, _, rfl, _⟩ | ⟨_, _, _, _, rfl, _⟩ <;> rfl; done) | (rcases h with ⟨_, _, _, rfl, _⟩ | ⟨_, _, _, _, _, rfl, _⟩ <;> rfl; done) | (rcases h with ⟨_, _, _, rfl, _⟩ | ⟨_, _, _, _, _, _, rfl, _⟩ <;> rfl; done) | (rcases h with ⟨_, _, _, _, rfl, _⟩ | ⟨_, rfl, _⟩ <;> rfl; done) | (rcases h with ⟨_, _, _, _, rfl, _⟩ | ⟨_, _, rfl, _⟩ <;> rfl; done) | (rcases h with ⟨_, _, _, _, rfl, _⟩ | ⟨_, _, _, rfl, _⟩ <;> rfl; done) | (rcases h with ⟨_, _, _, _, rfl, _⟩ | ⟨_, _, _, _, rfl, _⟩ <;> rfl; done) | (rcases h with ⟨_, _, _, _, rfl, _⟩ | ⟨_, _, _, _, _, rfl, _⟩ <;> rfl; done) | (rcases h with ⟨_, _, _, _, rfl, _⟩ | ⟨_, _, _, _, _, _, rfl, _⟩ <;> rfl; done) | (rcases h with ⟨_, _, _, _, _, rfl, _⟩ | ⟨_, rfl, _⟩ <;> rfl; done) | (rcases h with ⟨_, _, _, _, _, rfl, _⟩ | ⟨_, _, rfl, _⟩ <;> rfl; done) | (rcases h with ⟨_, _, _, _, _, rfl, _⟩ | ⟨_, _, _, rfl, _⟩ <;> rfl; done) | (rcases h with ⟨_, _, _, _, _, rfl, _⟩ | ⟨_, _, _, _, rfl, _⟩ <;> rfl; done) | (rcases h with ⟨_, _, _, _, _, rfl, _⟩ | ⟨_, _, _, _, _, rfl, _⟩ <;> rfl; done) | (rcases h with ⟨_, _, _, _, _, rfl, _⟩ | ⟨_, _, _, _, _, _, rfl, _⟩ <;> rfl; done) | (rcases h with ⟨_, _, _, _, _, _, rfl, _⟩ | ⟨_, rfl, _⟩ <;> rfl; done) | (rcases h with ⟨_, _, _, _, _, _, rfl, _⟩ | ⟨_, _, rfl, _⟩ <;> rfl; done) | (rcases h with ⟨_, _, _, _, _, _, rfl, _⟩ | ⟨_, _, _, rfl, _⟩ <;> rfl; done) | (rcases h with ⟨_, _, _, _, _, _, rfl, _⟩ | ⟨_, _, _, _, rfl, _⟩ <;> rfl; done) | (rcases h with ⟨_, _, _, _, _, _, rfl, _⟩ | ⟨_, _, _, _, _, rfl, _⟩ <;> rfl; done) | (rcases h with ⟨_, _, _, _, _, _, rfl, _⟩ | ⟨_, _, _, _, _, _, rfl, _⟩ <;> rfl; done) | (rcases h with ⟨_, rfl, _⟩ | ⟨_, _, rfl, _⟩ <;> rfl) | (rcases h with ⟨_, rfl, _⟩ | ⟨_, rfl, _⟩ <;> rfl) | (rcases h with h | h | h <;> (first | (obtain ⟨rfl, _⟩ := h; rfl; done) | (obtain ⟨_, rfl, _⟩ := h; rfl; done) | (obtain ⟨_, _, rfl, _⟩ := h; rfl; done) | (obtain ⟨_, _, _, rfl, _⟩ := h; rfl; done) | (obtain ⟨_, _, _, _, rfl, _⟩ := h; rfl; done) | (obtain ⟨_, _, _, _, _, rfl, _⟩ := h; rfl; done) | (obtain ⟨_, _, _, _, _, _, rfl, _⟩ := h; rfl; done) | (obtain ⟨_, _, _, _, _, _, _, rfl, _⟩ := h; rfl; done) | (obtain ⟨_, _, _, _, _, _, _, _, rfl, _⟩ := h; rfl; done) | (obtain ⟨_, _, _, _, _, _, _, _, _, rfl, _⟩ := h; rfl; done) | (obtain ⟨_, _, _, _, _, _, _, _, _, _, rfl, _⟩ := h; rfl; done) | (obtain ⟨_, _, _, _, _, _, _, _, _, _, _, rfl, _⟩ := h; rfl; done) | (obtain ⟨_, _, _, _, _, _, _, _, _, _, _, _, rfl, _⟩ := h; rfl; done) | (obtain ⟨_, _, _, _, _, _, _, _, _, _, _, _, _, rfl, _⟩ := h; rfl; done) | (obtain ⟨_, _, _, _, _, _, _, _, _, _, _, _, _, _, rfl, _⟩ := h; rfl; done)))) (fun cdv A outer s H vs Q E hr h => ⟨t_is_piece K a, ?_, rd vs H Q E h⟩)
  exact (pss_one (ps_ret (pe_and (pe_callB call_isi (by rfl) T.n_isinstance (by decide +kernel) (pa_cons (pv 0) (pa_cons (pe_bltn (v := .ty "tuple") rfl T.n_tuple (by decide +kernel) rfl) pa_nil))) (pe_and (pe_cmpR op_le (pe_callB call_len_seq (by rfl) T.n_len (by decide +kernel) (pa_cons (pv 0) pa_nil)) (pe_glob (v := (.int 64)) rfl T.g_MOST_DATA ⟨_, rfl⟩) (nomark _)) (pe_one (pe_call G_are_bytes (hr.mono (by decide)) rfl T.g_are_bytes T.F_are_bytes.kp T.b_are_bytes .nil pass0 (pa_cons (pv 0) pa_nil)))))))
theorem ok_is_data (T : Txt K mg a)
    (G_is_number : FnOk P a.w K mg base CX0 1 a.f_is_number a.d_is_number P_is_number (sp_is_number K a))
    (G_is_piece : FnOk P a.w K mg base CX0 3 a.f_is_piece a.d_is_piece P_is_piece (sp_is_piece K a))
    (rd : RD (sp_is_data K a) (t_is_data K a) N_is_data) :
    FnOk P a.w K mg base CX0 4 a.f_is_data a.d_is_data P_is_data (sp_is_data K a) := by
  have nd := sc_is_data.nd
  refine T.F_is_data.ok sc_is_data (fun vs H Q E h => by first | (obtain ⟨rfl, _⟩ := h; rfl; done) | (obtain ⟨_, rfl, _⟩ := h; rfl; done) | (obtain ⟨_, _, rfl, _⟩ := h; rfl; done) | (obtain ⟨_, _, _, rfl, _⟩ := h; rfl; done) | (obtain ⟨_, _, _, _, rfl, _⟩ := h; rfl; done) | (obtain ⟨_, _, _, _, _, rfl, _⟩ := h; rfl; done) | (obtain ⟨_, _, _, _, _, _, rfl, _⟩ := h; rfl; done) | (obtain ⟨_, _, _, _, _, _, _, rfl, _⟩ := h; rfl; done) | (obtain ⟨_, _, _, _, _, _, _, _, rfl, _⟩ := h; rfl; done) | (obtain ⟨_, _, _, _, _, _, _, _, _, rfl, _⟩ := h; rfl; done) | (obtain ⟨_, _, _, _, _, _, _, _, _, _, rfl, _⟩ := h; rfl; done) | (obtain ⟨_, _, _, _, _, _, _, _, _, _, _, rfl, _⟩ := h; rfl; done) | (obtain ⟨_, _, _, _, _, _, _, _, _, _, _, _, rfl, _⟩ := h; rfl; done) | (obtain ⟨_, _, _, _, _, _, _, _, _, _, _, _, _, rfl, _⟩ := h; rfl; done) | (obtain ⟨_, _, _, _, _, _, _, _, _, _, _, _, _, _, rfl, _⟩ := h; rfl; done) | (rcases h with ⟨_, rfl, _⟩ | ⟨_, rfl, _⟩ <;> rfl; done) | (rcases h with ⟨_, rfl, _⟩ | ⟨_, _, rfl, _⟩ <;> rfl; done) | (rcases h with ⟨_, rfl, _⟩ | ⟨_, _, _, rfl, _⟩ <;> rfl; done) | (rcases h with ⟨_, rfl, _⟩ | ⟨_, _, _, _, rfl, _⟩ <;> rfl; done) | (rcases h with ⟨_, rfl, _⟩ | ⟨_, _, _, _, _, rfl, _⟩ <;> rfl; done) | (rcases h with ⟨_, rfl, _⟩ | ⟨_, _, _, _, _, _, rfl, _⟩ <;> rfl; done) | (rcases h with ⟨_, _, rfl, _⟩ | ⟨_, rfl, _⟩ <;> rfl; done) | (rcases h with ⟨_, _, rfl, _⟩ | ⟨_, _, rfl, _⟩ <;> rfl; done) | (rcases h with ⟨_, _, rfl, _⟩ | ⟨_, _, _, rfl, _⟩ <;> rfl; done) | (rcases h with ⟨_, _, rfl, _⟩ | ⟨_, _, _, _, rfl, _⟩ <;> rfl; done) | (rcases h with ⟨_, _, rfl, _⟩ | ⟨_, _, _, _, _, rfl, _⟩ <;> rfl; done) | (rcases h with ⟨_, _, rfl, _⟩ | ⟨_, _, _, _, _, _, rfl, _⟩ <;> rfl; done) | (rcases h with ⟨_, _, _, rfl, _⟩ | ⟨_, rfl, _⟩ <;> rfl; done) | (rcases h with ⟨_, _, _, rfl, _⟩ | ⟨_, _, rfl, _⟩ <;> rfl; done) | (rcases h with ⟨_, _, _, rfl, _⟩ | ⟨_, _, _, rfl, _⟩ <;> rfl; done) | (rcases h with ⟨_, _, _, rfl, _⟩ | ⟨_, _, _, _, rfl, _⟩ <;> rfl; done) | (rcases h with ⟨_, _, _, rfl, _⟩ | ⟨_, _, _, _, _, rfl, _⟩ <;> rfl; done) | (rcases h with ⟨_, _, _, rfl, _⟩ | ⟨_, _, _, _, _, _, rfl, _⟩ <;> rfl; done) | (rcases h with ⟨_, _, _, _, rfl, _⟩ | ⟨_, rfl, _⟩ <;> rfl; done) | (rcases h with ⟨_, _, _, _, rfl, _⟩ | ⟨_, _, rfl, _⟩ <;> rfl; done) | (rcases h with ⟨_, _, _, _, rfl, _⟩ | ⟨_, _, _, rfl, _⟩ <;> rfl; done) | (rcases h with ⟨_, _, _, _, rfl, _⟩ | ⟨_, _, _, _, rfl, _⟩ <;> rfl; done) | (rcases h with ⟨_, _, _, _, rfl, _⟩ | ⟨_, _, _, _, _, rfl, _⟩ <;> rfl; done) | (rcases h with ⟨_, _, _, _, rfl, _⟩ | ⟨_, _, _, _, _, _, rfl, _⟩ <;> rfl; done) | (rcases h with ⟨_, _, _, _, _, rfl, _⟩ | ⟨_, rfl, _⟩ <;> rfl; done) | (rcases h with ⟨_, _, _, _, _, rfl, _⟩ | ⟨_, _, rfl, _⟩ <;> rfl; done) | (rcases h with ⟨_, _, _, _, _, rfl, _⟩ | ⟨_, _, _, rfl, _⟩ <;> rfl; done) | (rcases h with ⟨_, _, _, _, _, rfl, _⟩ | ⟨_, _, _, _, rfl, _⟩ <;> rfl; done) | (rcases h with ⟨_, _, _, _, _, rfl, _⟩ | ⟨_, _, _, _, _, rfl, _⟩ <;> rfl; done) | (rcases h with ⟨_, _, _, _, _, rfl, _⟩ | ⟨_, _, _, _, _, _, rfl, _⟩ <;> rfl; done) | (rcases h with ⟨_, _, _, _, _, _, rfl, _⟩ | ⟨_, rfl, _⟩ <;> rfl; done) | (rcases h with ⟨_, _, _, _, _, _, rfl, _⟩ | ⟨_, _, rfl, _⟩ <;> rfl; done) | (rcases h with ⟨_, _, _, _, _, _, rfl, _⟩ | ⟨_, _, _, rfl, _⟩ <;> rfl; done) | (rcases h with ⟨_, _, _, _, _, _, rfl, _⟩ | ⟨_, _, _, _, rfl, _⟩ <;> rfl; done) | (rcases h with ⟨_, _, _, _, _, _, rfl, _⟩ | ⟨_, _, _, _, _, rfl, _⟩ <;> rfl; done) | (rcases h with ⟨_, _, _, _, _, _, rfl, _⟩ | ⟨_, _, _, _, _, _, rfl, _⟩ <;> rfl; done) | (rcases h with ⟨_, rfl, _⟩ | ⟨_, _, rfl, _⟩ <;> rfl) | (rcases h with ⟨_, rfl, _⟩ | ⟨_, rfl, _⟩ <;> rfl) | (rcases h with h | h | h <;> (first | (obtain ⟨rfl, _⟩ := h; rfl; done) | (obtain ⟨_, rfl, _⟩ := h; rfl; done) | (obtain ⟨_, _, rfl, _⟩ := h; rfl; done) | (obtain ⟨_, _, _, rfl, _⟩ := h; rfl; done) | (obtain ⟨_, _, _, _, rfl, _⟩ := h; rfl; done) | (obtain ⟨_, _, _, _, _, rfl, _⟩ := h; rfl; done) | (obtain ⟨_, _, _, _, _, _, rfl, _⟩ := h; rfl; done) | (obtain ⟨_, _, _, _, _, _, _, rfl, _⟩ := h; rfl; done) | (obtain ⟨_, _, _, _, _, _, _, _, rfl, _⟩ := h; rfl; done) | (obtain ⟨_, _, _, _, _, _, _, _, _, rfl, _⟩ := h; rfl; done) | (obtain ⟨_, _, _, _, _, _, _, _, _, _, rfl, _⟩ := h; rfl; done) | (obtain ⟨_, _, _, _, _, _, _, _, _, _, _, rfl, _⟩ := h; rfl; done) | (obtain ⟨_, _, _, _, _, _, _, _, _, _, _, _, rfl, _⟩ := h; rfl; done) | (obtain ⟨_, _, _, _, _, _, _, _, _, _, _, _, _, rfl, _⟩ := h; rfl; done) | (obtain ⟨_, _, _, _, _, _, _, _, _, _, _, _, _, _, rfl, _⟩ := h; rfl; done)))) (fun cdv A outer s H vs Q E hr h => ⟨t_is_data K a, ?_, rd vs H Q E h⟩)
  exact (pss_cons (ps_if (PW.pt (pw_or (pt_cmpR op_ne (pe_callB call_len_seq (by rfl) T.n_len (by decide +kernel) (pa_cons (pv 0) pa_nil)) pe_int (nomark _)) (pw_or1 (pt_cmpR op_ne (pe_ix ix_tup (pv 0) pe_int (fun _ _ => rfl)) pe_str (nomark _))))) (pss_one (ps_ret pe_bl)) pss_nil)
      (pss_one (ps_ret (pe_and (pe_call G_is_number (hr.mono (by decide)) rfl T.g_is_number T.F_is_number.kp T.b_is_number .nil pass0 (pa_cons (pe_ix ix_tup (pv 0) pe_int (fun _ _ => rfl)) (pa_cons pe_int (pa_cons pe_int pa_nil)))) (pe_one (pe_call G_is_piece (hr.mono (by decide)) rfl T.g_is_piece T.F_is_piece.kp T.b_is_piece .nil pass0 (pa_cons (pe_ix ix_tup (pv 0) pe_int (fun _ _ => rfl)) pa_nil)))))))
theorem ok_is_answer (T : Txt K mg a)
    (rd : RD (sp_is_answer K a) (t_is_answer K a) N_is_answer) :
    FnOk P a.w K mg base CX0 1 a.f_is_answer a.d_is_answer P_is_answer (sp_is_answer K a) := by
  have nd := sc_is_answer.nd
  refine T.F_is_answer.ok sc_is_answer (fun vs H Q E h => by first | (obtain ⟨rfl, _⟩ := h; rfl; done) | (obtain ⟨_, rfl, _⟩ := h; rfl; done) | (obtain ⟨_, _, rfl, _⟩ := h; rfl; done) | (obtain ⟨_, _, _, rfl, _⟩ := h; rfl; done) | (obtain ⟨_, _, _, _, rfl, _⟩ := h; rfl; done) | (obtain ⟨_, _, _, _, _, rfl, _⟩ := h; rfl; done) | (obtain ⟨_, _, _, _, _, _, rfl, _⟩ := h; rfl; done) | (obtain ⟨_, _, _, _, _, _, _, rfl, _⟩ := h; rfl; done) | (obtain ⟨_, _, _, _, _, _, _, _, rfl, _⟩ := h; rfl; done) | (obtain ⟨_, _, _, _, _, _, _, _, _, rfl, _⟩ := h; rfl; done) | (obtain ⟨_, _, _, _, _, _, _, _, _, _, rfl, _⟩ := h; rfl; done) | (obtain ⟨_, _, _, _, _, _, _, _, _, _, _, rfl, _⟩ := h; rfl; done) | (obtain ⟨_, _, _, _, _, _, _, _, _, _, _, _, rfl, _⟩ := h; rfl; done) | (obtain ⟨_, _, _, _, _, _, _, _, _, _, _, _, _, rfl, _⟩ := h; rfl; done) | (obtain ⟨_, _, _, _, _, _, _, _, _, _, _, _, _, _, rfl, _⟩ := h; rfl; done) | (rcases h with ⟨_, rfl, _⟩ | ⟨_, rfl, _⟩ <;> rfl; done) | (rcases h with ⟨_, rfl, _⟩ | ⟨_, _, rfl, _⟩ <;> rfl; done) | (rcases h with ⟨_, rfl, _⟩ | ⟨_, _, _, rfl, _⟩ <;> rfl; done) | (rcases h with ⟨_, rfl, _⟩ | ⟨_, _, _, _, rfl, _⟩ <;> rfl; done) | (rcases h with ⟨_, rfl, _⟩ | ⟨_, _, _, _, _, rfl, _⟩ <;> rfl; done) | (rcases h with ⟨_, rfl, _⟩ | ⟨_, _, _, _, _, _, rfl, _⟩ <;> rfl; done) | (rcases h with ⟨_, _, rfl, _⟩ | ⟨_, rfl, _⟩ <;> rfl; done) | (rcases h with ⟨_, _, rfl, _⟩ | ⟨_, _, rfl, _⟩ <;> rfl; done) | (rcases h with ⟨_, _, rfl, _⟩ | ⟨_, _, _, rfl, _⟩ <;> rfl; done) | (rcases h with ⟨_, _, rfl, _⟩ | ⟨_, _, _, _, rfl, _⟩ <;> rfl; done) | (rcases h with ⟨_, _, rfl, _⟩ | ⟨_, _, _, _, _, rfl, _⟩ <;> rfl; done) | (rcases h with ⟨_, _, rfl, _⟩ | ⟨_, _, _, _, _, _, rfl, _⟩ <;> rfl; done) | (rcases h with ⟨_, _, _, rfl, _⟩ | ⟨_, rfl, _⟩ <;> rfl; done) | (rcases h with ⟨_, _, _, rfl, _⟩ | ⟨_, _, rfl, _⟩ <;> rfl; done) | (rcases h with ⟨_, _, _, rfl, _⟩ | ⟨_, _, _, rfl, _⟩ <;> rfl; done) | (rcases h with ⟨_, _, _, rfl, _⟩ | ⟨_, _, _, _, rfl, _⟩ <;> rfl; done) | (rcases h with ⟨_, _, _, rfl, _⟩ | ⟨_, _, _, _, _, rfl, _⟩ <;> rfl; done) | (rcases h with ⟨_, _, _, rfl, _⟩ | ⟨_, _, _, _, _, _, rfl, _⟩ <;> rfl; done) | (rcases h with ⟨_, _, _, _, rfl, _⟩ | ⟨_, rfl, _⟩ <;> rfl; done) | (rcases h with ⟨_, _, _, _, rfl, _⟩ | ⟨_, _, rfl, _⟩ <;> rfl; done) | (rcases h with ⟨_, _, _, _, rfl, _⟩ | ⟨_, _, _, rfl, _⟩ <;> rfl; done) | (rcases h with ⟨_, _, _, _, rfl, _⟩ | ⟨_, _, _, _, rfl, _⟩ <;> rfl; done) | (rcases h with ⟨_, _, _, _, rfl, _⟩ | ⟨_, _, _, _, _, rfl, _⟩ <;> rfl; done) | (rcases h with ⟨_, _, _, _, rfl, _⟩ | ⟨_, _, _, _, _, _, rfl, _⟩ <;> rfl; done) | (rcases h with ⟨_, _, _, _, _, rfl, _⟩ | ⟨_, rfl, _⟩ <;> rfl; done) | (rcases h with ⟨_, _, _, _, _, rfl, _⟩ | ⟨_, _, rfl, _⟩ <;> rfl; done) | (rcases h with ⟨_, _, _, _, _, rfl, _⟩ | ⟨_, _, _, rfl, _⟩ <;> rfl; done) | (rcases h with ⟨_, _, _, _, _, rfl, _⟩ | ⟨_, _, _, _, rfl, _⟩ <;> rfl; done) | (rcases h with ⟨_, _, _, _, _, rfl, _⟩ | ⟨_, _, _, _, _, rfl, _⟩ <;> rfl; done) | (rcases h with ⟨_, _, _, _, _, rfl, _⟩ | ⟨_, _, _, _, _, _, rfl, _⟩ <;> rfl; done) | (rcases h with ⟨_, _, _, _, _, _, rfl, _⟩ | ⟨_, rfl, _⟩ <;> rfl; done) | (rcases h with ⟨_, _, _, _, _, _, rfl, _⟩ | ⟨_, _, rfl, _⟩ <;> rfl; done) | (rcases h with ⟨_, _, _, _, _, _, rfl, _⟩ | ⟨_, _, _, rfl, _⟩ <;> rfl; done) | (rcases h with ⟨_, _, _, _, _, _, rfl, _⟩ | ⟨_, _, _, _, rfl, _⟩ <;> rfl; done) | (rcases h with ⟨_, _, _, _, _, _, rfl, _⟩ | ⟨_, _, _, _, _, rfl, _⟩ <;> rfl; done) | (rcases h with ⟨_, _, _, _, _, _, rfl, _⟩ | ⟨_, _, _, _, _, _, rfl, _⟩ <;> rfl; done) | (rcases h with ⟨_, rfl, _⟩ | ⟨_, _, rfl, _⟩ <;> rfl) | (rcases h with ⟨_, rfl, _⟩ | ⟨_, rfl, _⟩ <;> rfl) | (rcases h with h | h | h <;> (first | (obtain ⟨rfl, _⟩ := h; rfl; done) | (obtain ⟨_, rfl, _⟩ := h; rfl; done) | (obtain ⟨_, _, rfl, _⟩ := h; rfl; done) | (obtain ⟨_, _, _, rfl, _⟩ := h; rfl; done) | (obtain ⟨_, _, _, _, rfl, _⟩ := h; rfl; done) | (obtain ⟨_, _, _, _, _, rfl, _⟩ := h; rfl; done) | (obtain ⟨_, _, _, _, _, _, rfl, _⟩ := h; rfl; done) | (obtain ⟨_, _, _, _, _, _, _, rfl, _⟩ := h; rfl; done) | (obtain ⟨_, _, _, _, _, _, _, _, rfl, _⟩ := h; rfl; done) | (obtain ⟨_, _, _, _, _, _, _, _, _, rfl, _⟩ := h; rfl; done) | (obtain ⟨_, _, _, _, _, _, _, _, _, _, rfl, _⟩ := h; rfl; done) | (obtain ⟨_, _, _, _, _, _, _, _, _, _, _, rfl, _⟩ := h; rfl; done) | (obtain ⟨_, _, _, _, _, _, _, _, _, _, _, _, rfl, _⟩ := h; rfl; done) | (obtain ⟨_, _, _, _, _, _, _, _, _, _, _, _, _, rfl, _⟩ := h; rfl; done) | (obtain ⟨_, _, _, _, _, _, _, _, _, _, _, _, _, _, rfl, _⟩ := h; rfl; done)))) (fun cdv A outer s H vs Q E hr h => ⟨t_is_answer K a, ?_, rd vs H Q E h⟩)
  exact (pss_one (ps_ret (pe_and (pe_cmpR op_eq (pe_callB call_len_seq (by rfl) T.n_len (by decide +kernel) (pa_cons (pv 0) pa_nil)) pe_int (nomark _)) (pe_one (pe_cmpR op_in_seq (pe_ix ix_tup (pv 0) pe_int (fun _ _ => rfl)) (pe_glob (v := .ref a.k_ANSWERS) rfl T.g_ANSWERS rfl) (by rfl))))))
theorem ok_is_packet (T : Txt K mg a)
    (G_is_answer : FnOk P a.w K mg base CX0 1 a.f_is_answer a.d_is_answer P_is_answer (sp_is_answer K a))
    (G_is_data : FnOk P a.w K mg base CX0 4 a.f_is_data a.d_is_data P_is_data (sp_is_data K a))
    (G_is_frame : FnOk P a.w K mg base CX0 2 a.f_is_frame a.d_is_frame P_is_frame (sp_is_frame K a))
    (G_is_token : FnOk P a.w K mg base CX0 2 a.f_is_token a.d_is_token P_is_token (sp_is_token K a))
    (rd : RD (sp_is_packet K a) (t_is_packet K a) N_is_packet) :
    FnOk P a.w K mg base CX0 5 a.f_is_packet a.d_is_packet P_is_packet (sp_is_packet K a) := by
  have nd := sc_is_packet.nd
  refine T.F_is_packet.ok sc_is_packet (fun vs H Q E h => by first | (obtain ⟨rfl, _⟩ := h; rfl; done) | (obtain ⟨_, rfl, _⟩ := h; rfl; done) | (obtain ⟨_, _, rfl, _⟩ := h; rfl; done) | (obtain ⟨_, _, _, rfl, _⟩ := h; rfl; done) | (obtain ⟨_, _, _, _, rfl, _⟩ := h; rfl; done) | (obtain ⟨_, _, _, _, _, rfl, _⟩ := h; rfl; done) | (obtain ⟨_, _, _, _, _, _, rfl, _⟩ := h; rfl; done) | (obtain ⟨_, _, _, _, _, _, _, rfl, _⟩ := h; rfl; done) | (obtain ⟨_, _, _, _, _, _, _, _, rfl, _⟩ := h; rfl; done) | (obtain ⟨_, _, _, _, _, _, _, _, _, rfl, _⟩ := h; rfl; done) | (obtain ⟨_, _, _, _, _, _, _, _, _, _, rfl, _⟩ := h; rfl; done) | (obtain ⟨_, _, _, _, _, _, _, _, _, _, _, rfl, _⟩ := h; rfl; done) | (obtain ⟨_, _, _, _, _, _, _, _, _, _, _, _, rfl, _⟩ := h; rfl; done) | (obtain ⟨_, _, _, _, _, _, _, _, _, _, _, _, _, rfl, _⟩ := h; rfl; done) | (obtain ⟨_, _, _, _, _, _, _, _, _, _, _, _, _, _, rfl, _⟩ := h; rfl; done) | (rcases h with ⟨_, rfl, _⟩ | ⟨_, rfl, _⟩ <;> rfl; done) | (rcases h with ⟨_, rfl, _⟩ | ⟨_, _, rfl, _⟩ <;> rfl; done) | (rcases h with ⟨_, rfl, _⟩ | ⟨_, _, _, rfl, _⟩ <;> rfl; done) | (rcases h with ⟨_, rfl, _⟩ | ⟨_, _, _, _, rfl, _⟩ <;> rfl; done) | (rcases h with ⟨_, rfl, _⟩ | ⟨_, _, _, _, _, rfl, _⟩ <;> rfl; done) | (rcases h with ⟨_, rfl, _⟩ | ⟨_, _, _, _, _, _, rfl, _⟩ <;> rfl; done) | (rcases h with ⟨_, _, rfl, _⟩ | ⟨_, rfl, _⟩ <;> rfl; done) | (rcases h with ⟨_, _, rfl, _⟩ | ⟨_, _, rfl, _⟩ <;> rfl; done) | (rcases h with ⟨_, _, rfl, _⟩ | ⟨_, _, _, rfl, _⟩ <;> rfl; done) | (rcases h with ⟨_, _, rfl, _⟩ | ⟨_, _, _, _, rfl, _⟩ <;> rfl; done) | (rcases h with ⟨_, _, rfl, _⟩ | ⟨_, _, _, _, _, rfl, _⟩ <;> rfl; done) | (rcases h with ⟨_, _, rfl, _⟩ | ⟨_, _, _, _, _, _, rfl, _⟩ <;> rfl; done) | (rcases h with ⟨_, _, _, rfl, _⟩ | ⟨_, rfl, _⟩ <;> rfl; done) | (rcases h with ⟨_, _, _, rfl, _⟩ | ⟨_, _, rfl, _⟩ <;> rfl; done) | (rcases h with ⟨_, _, _, rfl, _⟩ | ⟨_, _, _, rfl, _⟩ <;> rfl; done) | (rcases h with ⟨_, _, _, rfl, _⟩ | ⟨_, _, _, _, rfl, _⟩ <;> rfl; done) | (rcases h with ⟨_, _, _, rfl, _⟩ | ⟨_, _, _, _, _, rfl, _⟩ <;> rfl; done) | (rcases h with ⟨_, _, _, rfl, _⟩ | ⟨_, _, _, _, _, _, rfl, _⟩ <;> rfl; done) | (rcases h with ⟨_, _, _, _, rfl, _⟩ | ⟨_, rfl, _⟩ <;> rfl; done) | (rcases h with ⟨_, _, _, _, rfl, _⟩ | ⟨_, _, rfl, _⟩ <;> rfl; done) | (rcases h with ⟨_, _, _, _, rfl, _⟩ | ⟨_, _, _, rfl, _⟩ <;> rfl; done) | (rcases h with ⟨_, _, _, _, rfl, _⟩ | ⟨_, _, _, _, rfl, _⟩ <;> rfl; done) | (rcases h with ⟨_, _, _, _, rfl, _⟩ | ⟨_, _, _, _, _, rfl, _⟩ <;> rfl; done) | (rcases h with ⟨_, _, _, _, rfl, _⟩ | ⟨_, _, _, _, _, _, rfl, _⟩ <;> rfl; done) | (rcases h with ⟨_, _, _, _, _, rfl, _⟩ | ⟨_, rfl, _⟩ <;> rfl; done) | (rcases h with ⟨_, _, _, _, _, rfl, _⟩ | ⟨_, _, rfl, _⟩ <;> rfl; done) | (rcases h with ⟨_, _, _, _, _, rfl, _⟩ | ⟨_, _, _, rfl, _⟩ <;> rfl; done) | (rcases h with ⟨_, _, _, _, _, rfl, _⟩ | ⟨_, _, _, _, rfl, _⟩ <;> rfl; done) | (rcases h with ⟨_, _, _, _, _, rfl, _⟩ | ⟨_, _, _, _, _, rfl, _⟩ <;> rfl; done) | (rcases h with ⟨_, _, _, _, _, rfl, _⟩ | ⟨_, _, _, _, _, _, rfl, _⟩ <;> rfl; done) | (rcases h with ⟨_, _, _, _, _, _, rfl, _⟩ | ⟨_, rfl, _⟩ <;> rfl; done) | (rcases h with ⟨_, _, _, _, _, _, rfl, _⟩ | ⟨_, _, rfl, _⟩ <;> rfl; done) | (rcases h with ⟨_, _, _, _, _, _, rfl, _⟩ | ⟨_, _, _, rfl, _⟩ <;> rfl; done) | (rcases h with ⟨_, _, _, _, _, _, rfl, _⟩ | ⟨_, _, _, _, rfl, _⟩ <;> rfl; done) | (rcases h with ⟨_, _, _, _, _, _, rfl, _⟩ | ⟨_, _, _, _, _, rfl, _⟩ <;> rfl; done) | (rcases h with ⟨_, _, _, _, _, _, rfl, _⟩ | ⟨_, _, _, _, _, _, rfl, _⟩ <;> rfl; done) | (rcases h with ⟨_, rfl, _⟩ | ⟨_, _, rfl, _⟩ <;> rfl) | (rcases h with ⟨_, rfl, _⟩ | ⟨_, rfl, _⟩ <;> rfl) | (rcases h with h | h | h <;> (first | (obtain ⟨rfl, _⟩ := h; rfl; done) | (obtain ⟨_, rfl, _⟩ := h; rfl; done) | (obtain ⟨_, _, rfl, _⟩ := h; rfl; done) | (obtain ⟨_, _, _, rfl, _⟩ := h; rfl; done) | (obtain ⟨_, _, _, _, rfl, _⟩ := h; rfl; done) | (obtain ⟨_, _, _, _, _, rfl, _⟩ := h; rfl; done) | (obtain ⟨_, _, _, _, _, _, rfl, _⟩ := h; rfl; done) | (obtain ⟨_, _, _, _, _, _, _, rfl, _⟩ := h; rfl; done) | (obtain ⟨_, _, _, _, _, _, _, _, rfl, _⟩ := h; rfl; done) | (obtain ⟨_, _, _, _, _, _, _, _, _, rfl, _⟩ := h; rfl; done) | (obtain ⟨_, _, _, _, _, _, _, _, _, _, rfl, _⟩ := h; rfl; done) | (obtain ⟨_, _, _, _, _, _, _, _, _, _, _, rfl, _⟩ := h; rfl; done) | (obtain ⟨_, _, _, _, _, _, _, _, _, _, _, _, rfl, _⟩ := h; rfl; done) | (obtain ⟨_, _, _, _, _, _, _, _, _, _, _, _, _, rfl, _⟩ := h; rfl; done) | (obtain ⟨_, _, _, _, _, _, _, _, _, _, _, _, _, _, rfl, _⟩ := h; rfl; done)))) (fun cdv A outer s H vs Q E hr h => ⟨t_is_packet K a, ?_, rd vs H Q E h⟩)
  exact (pss_one (ps_ret (pe_or (pe_call G_is_token (hr.mono (by decide)) rfl T.g_is_token T.F_is_token.kp T.b_is_token .nil pass0 (pa_cons (pv 0) pa_nil)) (pe_or (pe_call G_is_frame (hr.mono (by decide)) rfl T.g_is_frame T.F_is_frame.kp T.b_is_frame .nil pass0 (pa_cons (pv 0) pa_nil)) (pe_or (pe_call G_is_data (hr.mono (by decide)) rfl T.g_is_data T.F_is_data.kp T.b_is_data .nil pass0 (pa_cons (pv 0) pa_nil)) (pe_one (pe_call G_is_answer (hr.mono (by decide)) rfl T.g_is_answer T.F_is_answer.kp T.b_is_answer .nil pass0 (pa_cons (pv 0) pa_nil))))))))
theorem ok_said_behind (T : Txt K mg a)
    (rd : RD (sp_said_behind K a) (t_said_behind K a) N_said_behind) :
    FnOk P a.w K mg base CX0 1 a.f_said_behind a.d_said_behind P_said_behind (sp_said_behind K a) := by
  have nd := sc_said_behind.nd
  refine T.F_said_behind.ok sc_said_behind (fun vs H Q E h => by first | (obtain ⟨rfl, _⟩ := h; rfl; done) | (obtain ⟨_, rfl, _⟩ := h; rfl; done) | (obtain ⟨_, _, rfl, _⟩ := h; rfl; done) | (obtain ⟨_, _, _, rfl, _⟩ := h; rfl; done) | (obtain ⟨_, _, _, _, rfl, _⟩ := h; rfl; done) | (obtain ⟨_, _, _, _, _, rfl, _⟩ := h; rfl; done) | (obtain ⟨_, _, _, _, _, _, rfl, _⟩ := h; rfl; done) | (obtain ⟨_, _, _, _, _, _, _, rfl, _⟩ := h; rfl; done) | (obtain ⟨_, _, _, _, _, _, _, _, rfl, _⟩ := h; rfl; done) | (obtain ⟨_, _, _, _, _, _, _, _, _, rfl, _⟩ := h; rfl; done) | (obtain ⟨_, _, _, _, _, _, _, _, _, _, rfl, _⟩ := h; rfl; done) | (obtain ⟨_, _, _, _, _, _, _, _, _, _, _, rfl, _⟩ := h; rfl; done) | (obtain ⟨_, _, _, _, _, _, _, _, _, _, _, _, rfl, _⟩ := h; rfl; done) | (obtain ⟨_, _, _, _, _, _, _, _, _, _, _, _, _, rfl, _⟩ := h; rfl; done) | (obtain ⟨_, _, _, _, _, _, _, _, _, _, _, _, _, _, rfl, _⟩ := h; rfl; done) | (rcases h with ⟨_, rfl, _⟩ | ⟨_, rfl, _⟩ <;> rfl; done) | (rcases h with ⟨_, rfl, _⟩ | ⟨_, _, rfl, _⟩ <;> rfl; done) | (rcases h with ⟨_, rfl, _⟩ | ⟨_, _, _, rfl, _⟩ <;> rfl; done) | (rcases h with ⟨_, rfl, _⟩ | ⟨_, _, _, _, rfl, _⟩ <;> rfl; done) | (rcases h with ⟨_, rfl, _⟩ | ⟨_, _, _, _, _, rfl, _⟩ <;> rfl; done) | (rcases h with ⟨_, rfl, _⟩ | ⟨_, _, _, _, _, _, rfl, _⟩ <;> rfl; done) | (rcases h with ⟨_, _, rfl, _⟩ | ⟨_, rfl, _⟩ <;> rfl; done) | (rcases h with ⟨_, _, rfl, _⟩ | ⟨_, _, rfl, _⟩ <;> rfl; done) | (rcases h with ⟨_, _, rfl, _⟩ | ⟨_, _, _, rfl, _⟩ <;> rfl; done) | (rcases h with ⟨_, _, rfl, _⟩ | ⟨_, _, _, _, rfl, _⟩ <;> rfl; done) | (rcases h with ⟨_, _, rfl, _⟩ | ⟨_, _, _, _, _, rfl, _⟩ <;> rfl; done) | (rcases h with ⟨_, _, rfl, _⟩ | ⟨_, _, _, _, _, _, rfl, _⟩ <;> rfl; done) | (rcases h with ⟨_, _, _, rfl, _⟩ | ⟨_, rfl, _⟩ <;> rfl; done) | (rcases h with ⟨_, _, _, rfl, _⟩ | ⟨_, _, rfl, _⟩ <;> rfl; done) | (rcases h with ⟨_, _, _, rfl, _⟩ | ⟨_, _, _, rfl, _⟩ <;> rfl; done) | (rcases h with ⟨_, _, _, rfl, _⟩ | ⟨_, _, _, _, rfl, _⟩ <;> rfl; done) | (rcases h with ⟨_, _, _, rfl, _⟩ | ⟨_, _, _, _, _, rfl, _⟩ <;> rfl; done) | (rcases h with ⟨_, _, _, rfl, _⟩ | ⟨_, _, _, _, _, _, rfl, _⟩ <;> rfl; done) | (rcases h with ⟨_, _, _, _, rfl, _⟩ | ⟨_, rfl, _⟩ <;> rfl; done) | (rcases h with ⟨_, _, _, _, rfl, _⟩ | ⟨_, _, rfl, _⟩ <;> rfl; done) | (rcases h with ⟨_, _, _, _, rfl, _⟩ | ⟨_, _, _, rfl, _⟩ <;> rfl; done) | (rcases h with ⟨_, _, _, _, rfl, _⟩ | ⟨_, _, _, _, rfl, _⟩ <;> rfl; done) | (rcases h with ⟨_, _, _, _, rfl, _⟩ | ⟨_, _, _, _, _, rfl, _⟩ <;> rfl; done) | (rcases h with ⟨_, _, _, _, rfl, _⟩ | ⟨_, _, _, _, _, _, rfl, _⟩ <;> rfl; done) | (rcases h with ⟨_, _, _, _, _, rfl, _⟩ | ⟨_, rfl, _⟩ <;> rfl; done) | (rcases h with ⟨_, _, _, _, _, rfl, _⟩ | ⟨_, _, rfl, _⟩ <;> rfl; done) | (rcases h with ⟨_, _, _, _, _, rfl, _⟩ | ⟨_, _, _, rfl, _⟩ <;> rfl; done) | (rcases h with ⟨_, _, _, _, _, rfl, _⟩ | ⟨_, _, _, _, rfl, _⟩ <;> rfl; done) | (rcases h with ⟨_, _, _, _, _, rfl, _⟩ | ⟨_, _, _, _, _, rfl, _⟩ <;> rfl; done) | (rcases h with ⟨_, _, _, _, _, rfl, _⟩ | ⟨_, _, _, _, _, _, rfl, _⟩ <;> rfl; done) | (rcases h with ⟨_, _, _, _, _, _, rfl, _⟩ | ⟨_, rfl, _⟩ <;> rfl; done) | (rcases h with ⟨_, _, _, _, _, _, rfl, _⟩ | ⟨_, _, rfl, _⟩ <;> rfl; done) | (rcases h with ⟨_, _, _, _, _, _, rfl, _⟩ | ⟨_, _, _, rfl, _⟩ <;> rfl; done) | (rcases h with ⟨_, _, _, _, _, _, rfl, _⟩ | ⟨_, _, _, _, rfl, _⟩ <;> rfl; done) | (rcases h with ⟨_, _, _, _, _, _, rfl, _⟩ | ⟨_, _, _, _, _, rfl, _⟩ <;> rfl; done) | (rcases h with ⟨_, _, _, _, _, _, rfl, _⟩ | ⟨_, _, _, _, _, _, rfl, _⟩ <;> rfl; done) | (rcases h with ⟨_, rfl, _⟩ | ⟨_, _, rfl, _⟩ <;> rfl) | (rcases h with ⟨_, rfl, _⟩ | ⟨_, rfl, _⟩ <;> rfl) | (rcases h with h | h | h <;> (first | (obtain ⟨rfl, _⟩ := h; rfl; done) | (obtain ⟨_, rfl, _⟩ := h; rfl; done) | (obtain ⟨_, _, rfl, _⟩ := h; rfl; done) | (obtain ⟨_, _, _, rfl, _⟩ := h; rfl; done) | (obtain ⟨_, _, _, _, rfl, _⟩ := h; rfl; done) | (obtain ⟨_, _, _, _, _, rfl, _⟩ := h; rfl; done) | (obtain ⟨_, _, _, _, _, _, rfl, _⟩ := h; rfl; done) | (obtain ⟨_, _, _, _, _, _, _, rfl, _⟩ := h; rfl; done) | (obtain ⟨_, _, _, _, _, _, _, _, rfl, _⟩ := h; rfl; done) | (obtain ⟨_, _, _, _, _, _, _, _, _, rfl, _⟩ := h; rfl; done) | (obtain ⟨_, _, _, _, _, _, _, _, _, _, rfl, _⟩ := h; rfl; done) | (obtain ⟨_, _, _, _, _, _, _, _, _, _, _, rfl, _⟩ := h; rfl; done) | (obtain ⟨_, _, _, _, _, _, _, _, _, _, _, _, rfl, _⟩ := h; rfl; done) | (obtain ⟨_, _, _, _, _, _, _, _, _, _, _, _, _, rfl, _⟩ := h; rfl; done) | (obtain ⟨_, _, _, _, _, _, _, _, _, _, _, _, _, _, rfl, _⟩ := h; rfl; done)))) (fun cdv A outer s H vs Q E hr h => ⟨t_said_behind K a, ?_, rd vs H Q E h⟩)
  exact (pss_cons (ps_asg (pv 0) (pg_tup rfl (pgs_cons (pg_name (i := 1) nd rfl (by first | exact Or.inl rfl | exact Or.inr rfl)) (pgs_cons (pg_name (i := 2) nd rfl (by first | exact Or.inl rfl | exact Or.inr rfl)) (pgs_cons (pg_name (i := 3) nd rfl (by first | exact Or.inl rfl | exact Or.inr rfl)) (pgs_cons (pg_name (i := 4) nd rfl (by first | exact Or.inl rfl | exact Or.inr rfl)) pgs_nil))))))
      (pss_cons (ps_set (i := 5) nd rfl (by first | exact Or.inl rfl | exact Or.inr rfl) (pe_ix ix_tup (pv 3) pe_int (fun _ _ => rfl)))
      (pss_cons (ps_if (pt_cmpR op_in_seq (pv 5) (pe_tup (pa_cons pe_str (pa_cons pe_str pa_nil))) (by rfl)) (pss_one (ps_ret (pe_glob (v := .ref a.k_BEHIND_OUT) rfl T.g_BEHIND_OUT rfl))) pss_nil)
      (pss_cons (ps_if (pt_not (pt_val (pv 4))) (pss_one (ps_ret (pe_glob (v := .ref a.k_FREE) rfl T.g_FREE rfl))) pss_nil)
      (pss_cons (ps_if (pt_cmpR op_eq (pv 5) pe_str (nomark _)) (pss_one (ps_ret (pe_op op_catA (pe_glob (v := .ref a.k_FREE) rfl T.g_FREE rfl) (pe_glob (v := .ref a.k_ANSWERS_TO_IN) rfl T.g_ANSWERS_TO_IN rfl)))) pss_nil)
      (pss_cons (ps_if (pt_cmpR op_eq (pv 5) pe_str (nomark _)) (pss_one (ps_ret (pe_ifExp (pt_cmpR op_eq (pv 2) pe_str (nomark _)) (pe_op op_catA (pe_glob (v := .ref a.k_FREE) rfl T.g_FREE rfl) (pe_glob (v := .ref a.k_ANSWERS_TO_PIECE) rfl T.g_ANSWERS_TO_PIECE rfl)) (pe_glob (v := .ref a.k_BEHIND_GIVEN) rfl T.g_BEHIND_GIVEN rfl)))) pss_nil)
      (pss_one (ps_ret (pe_glob (v := .ref a.k_FREE) rfl T.g_FREE rfl)))))))))
theorem ok_is_numbered (T : Txt K mg a)
    (rd : RD (sp_is_numbered K a) (t_is_numbered K a) N_is_numbered) :
    FnOk P a.w K mg base CX0 1 a.f_is_numbered a.d_is_numbered P_is_numbered (sp_is_numbered K a) := by
  have nd := sc_is_numbered.nd
  refine T.F_is_numbered.ok sc_is_numbered (fun vs H Q E h => by first | (obtain ⟨rfl, _⟩ := h; rfl; done) | (obtain ⟨_, rfl, _⟩ := h; rfl; done) | (obtain ⟨_, _, rfl, _⟩ := h; rfl; done) | (obtain ⟨_, _, _, rfl, _⟩ := h; rfl; done) | (obtain ⟨_, _, _, _, rfl, _⟩ := h; rfl; done) | (obtain ⟨_, _, _, _, _, rfl, _⟩ := h; rfl; done) | (obtain ⟨_, _, _, _, _, _, rfl, _⟩ := h; rfl; done) | (obtain ⟨_, _, _, _, _, _, _, rfl, _⟩ := h; rfl; done) | (obtain ⟨_, _, _, _, _, _, _, _, rfl, _⟩ := h; rfl; done) | (obtain ⟨_, _, _, _, _, _, _, _, _, rfl, _⟩ := h; rfl; done) | (obtain ⟨_, _, _, _, _, _, _, _, _, _, rfl, _⟩ := h; rfl; done) | (obtain ⟨_, _, _, _, _, _, _, _, _, _, _, rfl, _⟩ := h; rfl; done) | (obtain ⟨_, _, _, _, _, _, _, _, _, _, _, _, rfl, _⟩ := h; rfl; done) | (obtain ⟨_, _, _, _, _, _, _, _, _, _, _, _, _, rfl, _⟩ := h; rfl; done) | (obtain ⟨_, _, _, _, _, _, _, _, _, _, _, _, _, _, rfl, _⟩ := h; rfl; done) | (rcases h with ⟨_, rfl, _⟩ | ⟨_, rfl, _⟩ <;> rfl; done) | (rcases h with ⟨_, rfl, _⟩ | ⟨_, _, rfl, _⟩ <;> rfl; done) | (rcases h with ⟨_, rfl, _⟩ | ⟨_, _, _, rfl, _⟩ <;> rfl; done) | (rcases h with ⟨_, rfl, _⟩ | ⟨_, _, _, _, rfl, _⟩ <;> rfl; done) | (rcases h with ⟨_, rfl, _⟩ | ⟨_, _, _, _, _, rfl, _⟩ <;> rfl; done) | (rcases h with ⟨_, rfl, _⟩ | ⟨_, _, _, _, _, _, rfl, _⟩ <;> rfl; done) | (rcases h with ⟨_, _, rfl, _⟩ | ⟨_, rfl, _⟩ <;> rfl; done) | (rcases h with ⟨_, _, rfl, _⟩ | ⟨_, _, rfl, _⟩ <;> rfl; done) | (rcases h with ⟨_, _, rfl, _⟩ | ⟨_, _, _, rfl, _⟩ <;> rfl; done) | (rcases h with ⟨_, _, rfl, _⟩ | ⟨_, _, _, _, rfl, _⟩ <;> rfl; done) | (rcases h with ⟨_, _, rfl, _⟩ | ⟨_, _, _, _, _, rfl, _⟩ <;> rfl; done) | (rcases h with ⟨_, _, rfl, _⟩ | ⟨_, _, _, _, _, _, rfl, _⟩ <;> rfl; done) | (rcases h with ⟨_, _, _, rfl, _⟩ | ⟨_, rfl, _⟩ <;> rfl; done) | (rcases h with ⟨_, _, _, rfl, _⟩ | ⟨_, _, rfl, _⟩ <;> rfl; done) | (rcases h with ⟨_, _, _, rfl, _⟩ | ⟨_, _, _, rfl, _⟩ <;> rfl; done) | (rcases h with ⟨_, _, _, rfl, _⟩ | ⟨_, _, _, _, rfl, _⟩ <;> rfl; done) | (rcases h with ⟨_, _, _, rfl, _⟩ | ⟨_, _, _, _, _, rfl, _⟩ <;> rfl; done) | (rcases h with ⟨_, _, _, rfl, _⟩ | ⟨_, _, _, _, _, _, rfl, _⟩ <;> rfl; done) | (rcases h with ⟨_, _, _, _, rfl, _⟩ | ⟨_, rfl, _⟩ <;> rfl; done) | (rcases h with ⟨_, _, _, _, rfl, _⟩ | ⟨_, _, rfl, _⟩ <;> rfl; done) | (rcases h with ⟨_, _, _, _, rfl, _⟩ | ⟨_, _, _, rfl, _⟩ <;> rfl; done) | (rcases h with ⟨_, _, _, _, rfl, _⟩ | ⟨_, _, _, _, rfl, _⟩ <;> rfl; done) | (rcases h with ⟨_, _, _, _, rfl, _⟩ | ⟨_, _, _, _, _, rfl, _⟩ <;> rfl; done) | (rcases h with ⟨_, _, _, _, rfl, _⟩ | ⟨_, _, _, _, _, _, rfl, _⟩ <;> rfl; done) | (rcases h with ⟨_, _, _, _, _, rfl, _⟩ | ⟨_, rfl, _⟩ <;> rfl; done) | (rcases h with ⟨_, _, _, _, _, rfl, _⟩ | ⟨_, _, rfl, _⟩ <;> rfl; done) | (rcases h with ⟨_, _, _, _, _, rfl, _⟩ | ⟨_, _, _, rfl, _⟩ <;> rfl; done) | (rcases h with ⟨_, _, _, _, _, rfl, _⟩ | ⟨_, _, _, _, rfl, _⟩ <;> rfl; done) | (rcases h with ⟨_, _, _, _, _, rfl, _⟩ | ⟨_, _, _, _, _, rfl, _⟩ <;> rfl; done) | (rcases h with ⟨_, _, _, _, _, rfl, _⟩ | ⟨_, _, _, _, _, _, rfl, _⟩ <;> rfl; done) | (rcases h with ⟨_, _, _, _, _, _, rfl, _⟩ | ⟨_, rfl, _⟩ <;> rfl; done) | (rcases h with ⟨_, _, _, _, _, _, rfl, _⟩ | ⟨_, _, rfl, _⟩ <;> rfl; done) | (rcases h with ⟨_, _, _, _, _, _, rfl, _⟩ | ⟨_, _, _, rfl, _⟩ <;> rfl; done) | (rcases h with ⟨_, _, _, _, _, _, rfl, _⟩ | ⟨_, _, _, _, rfl, _⟩ <;> rfl; done) | (rcases h with ⟨_, _, _, _, _, _, rfl, _⟩ | ⟨_, _, _, _, _, rfl, _⟩ <;> rfl; done) | (rcases h with ⟨_, _, _, _, _, _, rfl, _⟩ | ⟨_, _, _, _, _, _, rfl, _⟩ <;> rfl; done) | (rcases h with ⟨_, rfl, _⟩ | ⟨_, _, rfl, _⟩ <;> rfl) | (rcases h with ⟨_, rfl, _⟩ | ⟨_, rfl, _⟩ <;> rfl) | (rcases h with h | h | h <;> (first | (obtain ⟨rfl, _⟩ := h; rfl; done) | (obtain ⟨_, rfl, _⟩ := h; rfl; done) | (obtain ⟨_, _, rfl, _⟩ := h; rfl; done) | (obtain ⟨_, _, _, rfl, _⟩ := h; rfl; done) | (obtain ⟨_, _, _, _, rfl, _⟩ := h; rfl; done) | (obtain ⟨_, _, _, _, _, rfl, _⟩ := h; rfl; done) | (obtain ⟨_, _, _, _, _, _, rfl, _⟩ := h; rfl; done) | (obtain ⟨_, _, _, _, _, _, _, rfl, _⟩ := h; rfl; done) | (obtain ⟨_, _, _, _, _, _, _, _, rfl, _⟩ := h; rfl; done) | (obtain ⟨_, _, _, _, _, _, _, _, _, rfl, _⟩ := h; rfl; done) | (obtain ⟨_, _, _, _, _, _, _, _, _, _, rfl, _⟩ := h; rfl; done) | (obtain ⟨_, _, _, _, _, _, _, _, _, _, _, rfl, _⟩ := h; rfl; done) | (obtain ⟨_, _, _, _, _, _, _, _, _, _, _, _, rfl, _⟩ := h; rfl; done) | (obtain ⟨_, _, _, _, _, _, _, _, _, _, _, _, _, rfl, _⟩ := h; rfl; done) | (obtain ⟨_, _, _, _, _, _, _, _, _, _, _, _, _, _, rfl, _⟩ := h; rfl; done)))) (fun cdv A outer s H vs Q E hr h => ⟨t_is_numbered K a, ?_, rd vs H Q E h⟩)
  exact (pss_cons (ps_asg (pv 0) (pg_tup rfl (pgs_cons (pg_name (i := 2) nd rfl (by first | exact Or.inl rfl | exact Or.inr rfl)) (pgs_cons (pg_name (i := 3) nd rfl (by first | exact Or.inl rfl | exact Or.inr rfl)) (pgs_cons (pg_name (i := 4) nd rfl (by first | exact Or.inl rfl | exact Or.inr rfl)) (pgs_cons (pg_name (i := 3) nd rfl (by first | exact Or.inl rfl | exact Or.inr rfl)) pgs_nil))))))
      (pss_cons (ps_if (pt_cmpR op_ne (pe_ix ix_tup (pv 4) pe_int (fun _ _ => rfl)) pe_str (nomark _)) (pss_one (ps_ret (pe_cmpR op_eq (pv 2) (pv 1) (nomark _)))) pss_nil)
      (pss_cons (ps_if (PW.pt (pw_or (pt_cmpR op_lt (pv 2) pe_int (nomark _)) (pw_or1 (pt_cmpR op_ne (pe_ix ix_tup (pv 4) pe_int (fun _ _ => rfl)) (pe_op op_mod (pv 2) (pe_glob (v := (.int 2048)) rfl T.g_FRAME_NUMBERS ⟨_, rfl⟩)) (nomark _))))) (pss_one (ps_ret pe_bl)) pss_nil)
      (pss_one (ps_ret (pe_or (pe_cmpR op_lt (pv 1) pe_int (nomark _)) (pe_one (pe_cmpR op_eq (pv 2) (pe_op op_add (pv 1) pe_int) (nomark _)))))))))
theorem ok_room_behind (T : Txt K mg a)
    (rd : RD (sp_room_behind K a) (t_room_behind K a) N_room_behind) :
    FnOk P a.w K mg base CX0 1 a.f_room_behind a.d_room_behind P_room_behind (sp_room_behind K a) := by
  have nd := sc_room_behind.nd
  refine T.F_room_behind.ok sc_room_behind (fun vs H Q E h => by first | (obtain ⟨rfl, _⟩ := h; rfl; done) | (obtain ⟨_, rfl, _⟩ := h; rfl; done) | (obtain ⟨_, _, rfl, _⟩ := h; rfl; done) | (obtain ⟨_, _, _, rfl, _⟩ := h; rfl; done) | (obtain ⟨_, _, _, _, rfl, _⟩ := h; rfl; done) | (obtain ⟨_, _, _, _, _, rfl, _⟩ := h; rfl; done) | (obtain ⟨_, _, _, _, _, _, rfl, _⟩ := h; rfl; done) | (obtain ⟨_, _, _, _, _, _, _, rfl, _⟩ := h; rfl; done) | (obtain ⟨_, _, _, _, _, _, _, _, rfl, _⟩ := h; rfl; done) | (obtain ⟨_, _, _, _, _, _, _, _, _, rfl, _⟩ := h; rfl; done) | (obtain ⟨_, _, _, _, _, _, _, _, _, _, rfl, _⟩ := h; rfl; done) | (obtain ⟨_, _, _, _, _, _, _, _, _, _, _, rfl, _⟩ := h; rfl; done) | (obtain ⟨_, _, _, _, _, _, _, _, _, _, _, _, rfl, _⟩ := h; rfl; done) | (obtain ⟨_, _, _, _, _, _, _, _, _, _, _, _, _, rfl, _⟩ := h; rfl; done) | (obtain ⟨_, _, _, _, _, _, _, _, _, _, _, _, _, _, rfl, _⟩ := h; rfl; done) | (rcases h with ⟨_, rfl, _⟩ | ⟨_, rfl, _⟩ <;> rfl; done) | (rcases h with ⟨_, rfl, _⟩ | ⟨_, _, rfl, _⟩ <;> rfl; done) | (rcases h with ⟨_, rfl, _⟩ | ⟨_, _, _, rfl, _⟩ <;> rfl; done) | (rcases h with ⟨_, rfl, _⟩ | ⟨_, _, _, _, rfl, _⟩ <;> rfl; done) | (rcases h with ⟨_, rfl, _⟩ | ⟨_, _, _, _, _, rfl, _⟩ <;> rfl; done) | (rcases h with ⟨_, rfl, _⟩ | ⟨_, _, _, _, _, _, rfl, _⟩ <;> rfl; done) | (rcases h with ⟨_, _, rfl, _⟩ | ⟨_, rfl, _⟩ <;> rfl; done) | (rcases h with ⟨_, _, rfl, _⟩ | ⟨_, _, rfl, _⟩ <;> rfl; done) | (rcases h with ⟨_, _, rfl, _⟩ | ⟨_, _, _, rfl, _⟩ <;> rfl; done) | (rcases h with ⟨_, _, rfl, _⟩ | ⟨_, _, _, _, rfl, _⟩ <;> rfl; done) | (rcases h with ⟨_, _, rfl, _⟩ | ⟨_, _, _, _, _, rfl, _⟩ <;> rfl; done) | (rcases h with ⟨_, _, rfl, _⟩ | ⟨_, _, _, _, _, _, rfl, _⟩ <;> rfl; done) | (rcases h with ⟨_, _, _, rfl, _⟩ | ⟨_, rfl, _⟩ <;> rfl; done) | (rcases h with ⟨_, _, _, rfl, _⟩ | ⟨_, _, rfl, _⟩ <;> rfl; done) | (rcases h with ⟨_, _, _, rfl, _⟩ | ⟨_, _, _, rfl, _⟩ <;> rfl; done) | (rcases h with ⟨_, _, _, rfl, _⟩ | ⟨_, _, _, _, rfl, _⟩ <;> rfl; done) | (rcases h with ⟨_, _, _, rfl, _⟩ | ⟨_, _, _, _, _, rfl, _⟩ <;> rfl; done) | (rcases h with ⟨_, _, _, rfl, _⟩ | ⟨_, _, _, _, _, _, rfl, _⟩ <;> rfl; done) | (rcases h with ⟨_, _, _, _, rfl, _⟩ | ⟨_, rfl, _⟩ <;> rfl; done) | (rcases h with ⟨_, _, _, _, rfl, _⟩ | ⟨_, _, rfl, _⟩ <;> rfl; done) | (rcases h with ⟨_, _, _, _, rfl, _⟩ | ⟨_, _, _, rfl, _⟩ <;> rfl; done) | (rcases h with ⟨_, _, _, _, rfl, _⟩ | ⟨_, _, _, _, rfl, _⟩ <;> rfl; done) | (rcases h with ⟨_, _, _, _, rfl, _⟩ | ⟨_, _, _, _, _, rfl, _⟩ <;> rfl; done) | (rcases h with ⟨_, _, _, _, rfl, _⟩ | ⟨_, _, _, _, _, _, rfl, _⟩ <;> rfl; done) | (rcases h with ⟨_, _, _, _, _, rfl, _⟩ | ⟨_, rfl, _⟩ <;> rfl; done) | (rcases h with ⟨_, _, _, _, _, rfl, _⟩ | ⟨_, _, rfl, _⟩ <;> rfl; done) | (rcases h with ⟨_, _, _, _, _, rfl, _⟩ | ⟨_, _, _, rfl, _⟩ <;> rfl; done) | (rcases h with ⟨_, _, _, _, _, rfl, _⟩ | ⟨_, _, _, _, rfl, _⟩ <;> rfl; done) | (rcases h with ⟨_, _, _, _, _, rfl, _⟩ | ⟨_, _, _, _, _, rfl, _⟩ <;> rfl; done) | (rcases h with ⟨_, _, _, _, _, rfl, _⟩ | ⟨_, _, _, _, _, _, rfl, _⟩ <;> rfl; done) | (rcases h with ⟨_, _, _, _, _, _, rfl, _⟩ | ⟨_, rfl, _⟩ <;> rfl; done) | (rcases h with ⟨_, _, _, _, _, _, rfl, _⟩ | ⟨_, _, rfl, _⟩ <;> rfl; done) | (rcases h with ⟨_, _, _, _, _, _, rfl, _⟩ | ⟨_, _, _, rfl, _⟩ <;> rfl; done) | (rcases h with ⟨_, _, _, _, _, _, rfl, _⟩ | ⟨_, _, _, _, rfl, _⟩ <;> rfl; done) | (rcases h with ⟨_, _, _, _, _, _, rfl, _⟩ | ⟨_, _, _, _, _, rfl, _⟩ <;> rfl; done) | (rcases h with ⟨_, _, _, _, _, _, rfl, _⟩ | ⟨_, _, _, _, _, _, rfl, _⟩ <;> rfl; done) | (rcases h with ⟨_, rfl, _⟩ | ⟨_, _, rfl, _⟩ <;> rfl) | (rcases h with ⟨_, rfl, _⟩ | ⟨_, rfl, _⟩ <;> rfl) | (rcases h with h | h | h <;> (first | (obtain ⟨rfl, _⟩ := h; rfl; done) | (obtain ⟨_, rfl, _⟩ := h; rfl; done) | (obtain ⟨_, _, rfl, _⟩ := h; rfl; done) | (obtain ⟨_, _, _, rfl, _⟩ := h; rfl; done) | (obtain ⟨_, _, _, _, rfl, _⟩ := h; rfl; done) | (obtain ⟨_, _, _, _, _, rfl, _⟩ := h; rfl; done) | (obtain ⟨_, _, _, _, _, _, rfl, _⟩ := h; rfl; done) | (obtain ⟨_, _, _, _, _, _, _, rfl, _⟩ := h; rfl; done) | (obtain ⟨_, _, _, _, _, _, _, _, rfl, _⟩ := h; rfl; done) | (obtain ⟨_, _, _, _, _, _, _, _, _, rfl, _⟩ := h; rfl; done) | (obtain ⟨_, _, _, _, _, _, _, _, _, _, rfl, _⟩ := h; rfl; done) | (obtain ⟨_, _, _, _, _, _, _, _, _, _, _, rfl, _⟩ := h; rfl; done) | (obtain ⟨_, _, _, _, _, _, _, _, _, _, _, _, rfl, _⟩ := h; rfl; done) | (obtain ⟨_, _, _, _, _, _, _, _, _, _, _, _, _, rfl, _⟩ := h; rfl; done) | (obtain ⟨_, _, _, _, _, _, _, _, _, _, _, _, _, _, rfl, _⟩ := h; rfl; done)))) (fun cdv A outer s H vs Q E hr h => ⟨t_room_behind K a, ?_, rd vs H Q E h⟩)
  exact (pss_cons (ps_if (pt_cmpR op_eq (pe_ix ix_tup (pv 1) pe_int (fun _ _ => rfl)) pe_str (nomark _)) (pss_one (ps_ret (pe_glob (v := (.int 6)) rfl T.g_BEGINNING_ROOM ⟨_, rfl⟩))) pss_nil)
      (pss_cons (ps_if (pt_cmpR op_in_seq (pe_ix ix_tup (pv 1) pe_int (fun _ _ => rfl)) (pe_glob (v := .ref a.k_TOKENS_journal) rfl T.g_TOKENS_journal rfl) (by rfl)) (pss_one (ps_ret (pe_op op_add (pv 0) (pe_glob (v := (.int 13)) rfl T.g_TURN_ROOM ⟨_, rfl⟩)))) pss_nil)
      (pss_cons (ps_if (pt_cmpR op_eq (pe_ix ix_tup (pv 1) pe_int (fun _ _ => rfl)) pe_str (nomark _)) (pss_one (ps_ret (pe_op op_add (pv 0) (pe_callB call_len_seq (by rfl) T.n_len (by decide +kernel) (pa_cons (pe_ix ix_tup (pv 1) pe_int (fun _ _ => rfl)) pa_nil))))) pss_nil)
      (pss_one (ps_ret (pv 0))))))
theorem ok_first_wrong (T : Txt K mg a)
    (G_is_numbered : FnOk P a.w K mg base CX0 1 a.f_is_numbered a.d_is_numbered P_is_numbered (sp_is_numbered K a))
    (G_is_packet : FnOk P a.w K mg base CX0 5 a.f_is_packet a.d_is_packet P_is_packet (sp_is_packet K a))
    (G_room_behind : FnOk P a.w K mg base CX0 1 a.f_room_behind a.d_room_behind P_room_behind (sp_room_behind K a))
    (G_said_behind : FnOk P a.w K mg base CX0 1 a.f_said_behind a.d_said_behind P_said_behind (sp_said_behind K a))
    (rd : RD (sp_first_wrong K a) (t_first_wrong K a) N_first_wrong) :
    FnOk P a.w K mg base CX0 6 a.f_first_wrong a.d_first_wrong P_first_wrong (sp_first_wrong K a) := by
  have nd := sc_first_wrong.nd
  refine T.F_first_wrong.ok sc_first_wrong (fun vs H Q E h => by first | (obtain ⟨rfl, _⟩ := h; rfl; done) | (obtain ⟨_, rfl, _⟩ := h; rfl; done) | (obtain ⟨_, _, rfl, _⟩ := h; rfl; done) | (obtain ⟨_, _, _, rfl, _⟩ := h; rfl; done) | (obtain ⟨_, _, _, _, rfl, _⟩ := h; rfl; done) | (obtain ⟨_, _, _, _, _, rfl, _⟩ := h; rfl; done) | (obtain ⟨_, _, _, _, _, _, rfl, _⟩ := h; rfl; done) | (obtain ⟨_, _, _, _, _, _, _, rfl, _⟩ := h; rfl; done) | (obtain ⟨_, _, _, _, _, _, _, _, rfl, _⟩ := h; rfl; done) | (obtain ⟨_, _, _, _, _, _, _, _, _, rfl, _⟩ := h; rfl; done) | (obtain ⟨_, _, _, _, _, _, _, _, _, _, rfl, _⟩ := h; rfl; done) | (obtain ⟨_, _, _, _, _, _, _, _, _, _, _, rfl, _⟩ := h; rfl; done) | (obtain ⟨_, _, _, _, _, _, _, _, _, _, _, _, rfl, _⟩ := h; rfl; done) | (obtain ⟨_, _, _, _, _, _, _, _, _, _, _, _, _, rfl, _⟩ := h; rfl; done) | (obtain ⟨_, _, _, _, _, _, _, _, _, _, _, _, _, _, rfl, _⟩ := h; rfl; done) | (rcases h with ⟨_, rfl, _⟩ | ⟨_, rfl, _⟩ <;> rfl; done) | (rcases h with ⟨_, rfl, _⟩ | ⟨_, _, rfl, _⟩ <;> rfl; done) | (rcases h with ⟨_, rfl, _⟩ | ⟨_, _, _, rfl, _⟩ <;> rfl; done) | (rcases h with ⟨_, rfl, _⟩ | ⟨_, _, _, _, rfl, _⟩ <;> rfl; done) | (rcases h with ⟨_, rfl, _⟩ | ⟨_, _, _, _, _, rfl, _⟩ <;> rfl; done) | (rcases h with ⟨_, rfl, _⟩ | ⟨_, _, _, _, _, _, rfl, _⟩ <;> rfl; done) | (rcases h with ⟨_, _, rfl, _⟩ | ⟨_, rfl, _⟩ <;> rfl; done) | (rcases h with ⟨_, _, rfl, _⟩ | ⟨_, _, rfl, _⟩ <;> rfl; done) | (rcases h with ⟨_, _, rfl, _⟩ | ⟨_, _, _, rfl, _⟩ <;> rfl; done) | (rcases h with ⟨_, _, rfl, _⟩ | ⟨_, _, _, _, rfl, _⟩ <;> rfl; done) | (rcases h with ⟨_, _, rfl, _⟩ | ⟨_, _, _, _, _, rfl, _⟩ <;> rfl; done) | (rcases h with ⟨_, _, rfl, _⟩ | ⟨_, _, _, _, _, _, rfl, _⟩ <;> rfl; done) | (rcases h with ⟨_, _, _, rfl, _⟩ | ⟨_, rfl, _⟩ <;> rfl; done) | (rcases h with ⟨_, _, _, rfl, _⟩ | ⟨_, _, rfl, _⟩ <;> rfl; done) | (rcases h with ⟨_, _, _, rfl, _⟩ | ⟨_, _, _, rfl, _⟩ <;> rfl; done) | (rcases h with ⟨_, _, _, rfl, _⟩ | ⟨_, _, _, _, rfl, _⟩ <;> rfl; done) | (rcases h with ⟨_, _, _, rfl, _⟩ | ⟨_, _, _, _, _, rfl, _⟩ <;> rfl; done) | (rcases h with ⟨_, _, _, rfl, _⟩ | ⟨_, _, _, _, _, _, rfl, _⟩ <;> rfl; done) | (rcases h with ⟨_, _, _, _, rfl, _⟩ | ⟨_, rfl, _⟩ <;> rfl; done) | (rcases h with ⟨_, _, _, _, rfl, _⟩ | ⟨_, _, rfl, _⟩ <;> rfl; done) | (rcases h with ⟨_, _, _, _, rfl, _⟩ | ⟨_, _, _, rfl, _⟩ <;> rfl; done) | (rcases h with ⟨_, _, _, _, rfl, _⟩ | ⟨_, _, _, _, rfl, _⟩ <;> rfl; done) | (rcases h with ⟨_, _, _, _, rfl, _⟩ | ⟨_, _, _, _, _, rfl, _⟩ <;> rfl; done) | (rcases h with ⟨_, _, _, _, rfl, _⟩ | ⟨_, _, _, _, _, _, rfl, _⟩ <;> rfl; done) | (rcases h with ⟨_, _, _, _, _, rfl, _⟩ | ⟨_, rfl, _⟩ <;> rfl; done) | (rcases h with ⟨_, _, _, _, _, rfl, _⟩ | ⟨_, _, rfl, _⟩ <;> rfl; done) | (rcases h with ⟨_, _, _, _, _, rfl, _⟩ | ⟨_, _, _, rfl, _⟩ <;> rfl; done) | (rcases h with ⟨_, _, _, _, _, rfl, _⟩ | ⟨_, _, _, _, rfl, _⟩ <;> rfl; done) | (rcases h with ⟨_, _, _, _, _, rfl, _⟩ | ⟨_, _, _, _, _, rfl, _⟩ <;> rfl; done) | (rcases h with ⟨_, _, _, _, _, rfl, _⟩ | ⟨_, _, _, _, _, _, rfl, _⟩ <;> rfl; done) | (rcases h with ⟨_, _, _, _, _, _, rfl, _⟩ | ⟨_, rfl, _⟩ <;> rfl; done) | (rcases h with ⟨_, _, _, _, _, _, rfl, _⟩ | ⟨_, _, rfl, _⟩ <;> rfl; done) | (rcases h with ⟨_, _, _, _, _, _, rfl, _⟩ | ⟨_, _, _, rfl, _⟩ <;> rfl; done) | (rcases h with ⟨_, _, _, _, _, _, rfl, _⟩ | ⟨_, _, _, _, rfl, _⟩ <;> rfl; done) | (rcases h with ⟨_, _, _, _, _, _, rfl, _⟩ | ⟨_, _, _, _, _, rfl, _⟩ <;> rfl; done) | (rcases h with ⟨_, _, _, _, _, _, rfl, _⟩ | ⟨_, _, _, _, _, _, rfl, _⟩ <;> rfl; done) | (rcases h with ⟨_, rfl, _⟩ | ⟨_, _, rfl, _⟩ <;> rfl) | (rcases h with ⟨_, rfl, _⟩ | ⟨_, rfl, _⟩ <;> rfl) | (rcases h with h | h | h <;> (first | (obtain ⟨rfl, _⟩ := h; rfl; done) | (obtain ⟨_, rfl, _⟩ := h; rfl; done) | (obtain ⟨_, _, rfl, _⟩ := h; rfl; done) | (obtain ⟨_, _, _, rfl, _⟩ := h; rfl; done) | (obtain ⟨_, _, _, _, rfl, _⟩ := h; rfl; done) | (obtain ⟨_, _, _, _, _, rfl, _⟩ := h; rfl; done) | (obtain ⟨_, _, _, _, _, _, rfl, _⟩ := h; rfl; done) | (obtain ⟨_, _, _, _, _, _, _, rfl, _⟩ := h; rfl; done) | (obtain ⟨_, _, _, _, _, _, _, _, rfl, _⟩ := h; rfl; done) | (obtain ⟨_, _, _, _, _, _, _, _, _, rfl, _⟩ := h; rfl; done) | (obtain ⟨_, _, _, _, _, _, _, _, _, _, rfl, _⟩ := h; rfl; done) | (obtain ⟨_, _, _, _, _, _, _, _, _, _, _, rfl, _⟩ := h; rfl; done) | (obtain ⟨_, _, _, _, _, _, _, _, _, _, _, _, rfl, _⟩ := h; rfl; done) | (obtain ⟨_, _, _, _, _, _, _, _, _, _, _, _, _, rfl, _⟩ := h; rfl; done) | (obtain ⟨_, _, _, _, _, _, _, _, _, _, _, _, _, _, rfl, _⟩ := h; rfl; done)))) (fun cdv A outer s H vs Q E hr h => ⟨t_first_wrong K a, ?_, rd vs H Q E h⟩)
  exact (pss_cons (ps_set (i := 1) nd rfl (by first | exact Or.inl rfl | exact Or.inr rfl) (pe_glob (v := .ref a.k_BEGINNING) rfl T.g_BEGINNING rfl))
      (pss_cons (ps_set (i := 2) nd rfl (by first | exact Or.inl rfl | exact Or.inr rfl) (pe_un un_neg pe_int))
      (pss_cons (ps_set (i := 3) nd rfl (by first | exact Or.inl rfl | exact Or.inr rfl) pe_int)
      (pss_cons (ps_for PassesOwn.never rfl (pi_enum rfl T.n_enumerate (pa_cons (pv 0) pa_nil)) (pg_tup rfl (pgs_cons (pg_name (i := 4) nd rfl (by first | exact Or.inl rfl | exact Or.inr rfl)) (pgs_cons (pg_name (i := 5) nd rfl (by first | exact Or.inl rfl | exact Or.inr rfl)) pgs_nil))) (pss_cons (ps_set (i := 6) nd rfl (by first | exact Or.inl rfl | exact Or.inr rfl) (pe_ix ix_tup (pv 5) pe_int (fun _ _ => rfl)))
      (pss_cons (ps_if (PW.pt (pw_or (pt_cmpR (op_notInDT (hu65 hr)) (pe_tup (pa_cons (pe_ix ix_tup (pv 5) pe_int (fun _ _ => rfl)) (pa_cons (pe_ix ix_tup (pv 6) pe_int (fun _ _ => rfl)) pa_nil))) (pv 1) (by rfl)) (pw_or (pt_not (pt_val (pe_call G_is_packet (hr.mono (by decide)) rfl T.g_is_packet T.F_is_packet.kp T.b_is_packet .nil pass0 (pa_cons (pv 6) pa_nil)))) (pw_or1 (pt_not (pt_val (pe_call G_is_numbered (hr.mono (by decide)) rfl T.g_is_numbered T.F_is_numbered.kp T.b_is_numbered .nil pass0 (pa_cons (pv 5) (pa_cons (pv 2) pa_nil))))))))) (pss_one (ps_ret (pv 4))) pss_nil)
      (pss_cons (ps_set (i := 3) nd rfl (by first | exact Or.inl rfl | exact Or.inr rfl) (pe_call G_room_behind (hr.mono (by decide)) rfl T.g_room_behind T.F_room_behind.kp T.b_room_behind .nil pass0 (pa_cons (pv 3) (pa_cons (pv 6) pa_nil))))
      (pss_cons (ps_if (pt_cmpR op_gt (pv 3) (pe_glob (v := (.int 1500)) rfl T.g_FRAME_ROOM ⟨_, rfl⟩) (nomark _)) (pss_one (ps_ret (pv 4))) pss_nil)
      (pss_cons (ps_set (i := 1) nd rfl (by first | exact Or.inl rfl | exact Or.inr rfl) (pe_call G_said_behind (hr.mono (by decide)) rfl T.g_said_behind T.F_said_behind.kp T.b_said_behind .nil pass0 (pa_cons (pv 5) pa_nil)))
      (pss_one (ps_set (i := 2) nd rfl (by first | exact Or.inl rfl | exact Or.inr rfl) (pe_ix ix_tup (pv 5) pe_int (fun _ _ => rfl))))))))))
      (pss_one (ps_ret (pe_un un_neg pe_int)))))))
theorem ok__law_bag (T : Txt K mg a)
    (rd : RD (sp__law_bag K a) (t__law_bag K a) N__law_bag) :
    FnOk P a.w K mg base CX0 1 a.f__law_bag a.d__law_bag P__law_bag (sp__law_bag K a) := by
  have nd := sc__law_bag.nd
  refine T.F__law_bag.ok sc__law_bag (fun vs H Q E h => by first | (obtain ⟨rfl, _⟩ := h; rfl; done) | (obtain ⟨_, rfl, _⟩ := h; rfl; done) | (obtain ⟨_, _, rfl, _⟩ := h; rfl; done) | (obtain ⟨_, _, _, rfl, _⟩ := h; rfl; done) | (obtain ⟨_, _, _, _, rfl, _⟩ := h; rfl; done) | (obtain ⟨_, _, _, _, _, rfl, _⟩ := h; rfl; done) | (obtain ⟨_, _, _, _, _, _, rfl, _⟩ := h; rfl; done) | (obtain ⟨_, _, _, _, _, _, _, rfl, _⟩ := h; rfl; done) | (obtain ⟨_, _, _, _, _, _, _, _, rfl, _⟩ := h; rfl; done) | (obtain ⟨_, _, _, _, _, _, _, _, _, rfl, _⟩ := h; rfl; done) | (obtain ⟨_, _, _, _, _, _, _, _, _, _, rfl, _⟩ := h; rfl; done) | (obtain ⟨_, _, _, _, _, _, _, _, _, _, _, rfl, _⟩ := h; rfl; done) | (obtain ⟨_, _, _, _, _, _, _, _, _, _, _, _, rfl, _⟩ := h; rfl; done) | (obtain ⟨_, _, _, _, _, _, _, _, _, _, _, _, _, rfl, _⟩ := h; rfl; done) | (obtain ⟨_, _, _, _, _, _, _, _, _, _, _, _, _, _, rfl, _⟩ := h; rfl; done) | (rcases h with ⟨_, rfl, _⟩ | ⟨_, rfl, _⟩ <;> rfl; done) | (rcases h with ⟨_, rfl, _⟩ | ⟨_, _, rfl, _⟩ <;> rfl; done) | (rcases h with ⟨_, rfl, _⟩ | ⟨_, _, _, rfl, _⟩ <;> rfl; done) | (rcases h with ⟨_, rfl, _⟩ | ⟨_, _, _, _, rfl, _⟩ <;> rfl; done) | (rcases h with ⟨_, rfl, _⟩ | ⟨_, _, _, _, _, rfl, _⟩ <;> rfl; done) | (rcases h with ⟨_, rfl, _⟩ | ⟨_, _, _, _, _, _, rfl, _⟩ <;> rfl; done) | (rcases h with ⟨_, _, rfl, _⟩ | ⟨_, rfl, _⟩ <;> rfl; done) | (rcases h with ⟨_, _, rfl, _⟩ | ⟨_, _, rfl, _⟩ <;> rfl; done) | (rcases h with ⟨_, _, rfl, _⟩ | ⟨_, _, _, rfl, _⟩ <;> rfl; done) | (rcases h with ⟨_, _, rfl, _⟩ | ⟨_, _, _, _, rfl, _⟩ <;> rfl; done) | (rcases h with ⟨_, _, rfl, _⟩ | ⟨_, _, _, _, _, rfl, _⟩ <;> rfl; done) | (rcases h with ⟨_, _, rfl, _⟩ | ⟨_, _, _, _, _, _, rfl, _⟩ <;> rfl; done) | (rcases h with ⟨_, _, _, rfl, _⟩ | ⟨_, rfl, _⟩ <;> rfl; done) | (rcases h with ⟨_, _, _, rfl, _⟩ | ⟨_, _, rfl, _⟩ <;> rfl; done) | (rcases h with ⟨_, _, _, rfl, _⟩ | ⟨_, _, _, rfl, _⟩ <;> rfl; done) | (rcases h with ⟨_, _, _, rfl, _⟩ | ⟨_, _, _, _, rfl, _⟩ <;> rfl; done) | (rcases h with ⟨_, _, _, rfl, _⟩ | ⟨_, _, _, _, _, rfl, _⟩ <;> rfl; done) | (rcases h with ⟨_, _, _, rfl, _⟩ | ⟨_, _, _, _, _, _, rfl, _⟩ <;> rfl; done) | (rcases h with ⟨_, _, _, _, rfl, _⟩ | ⟨_, rfl, _⟩ <;> rfl; done) | (rcases h with ⟨_, _, _, _, rfl, _⟩ | ⟨_, _, rfl, _⟩ <;> rfl; done) | (rcases h with ⟨_, _, _, _, rfl, _⟩ | ⟨_, _, _, rfl, _⟩ <;> rfl; done) | (rcases h with ⟨_, _, _, _, rfl, _⟩ | ⟨_, _, _, _, rfl, _⟩ <;> rfl; done) | (rcases h with ⟨_, _, _, _, rfl, _⟩ | ⟨_, _, _, _, _, rfl, _⟩ <;> rfl; done) | (rcases h with ⟨_, _, _, _, rfl, _⟩ | ⟨_, _, _, _, _, _, rfl, _⟩ <;> rfl; done) | (rcases h with ⟨_, _, _, _, _, rfl, _⟩ | ⟨_, rfl, _⟩ <;> rfl; done) | (rcases h with ⟨_, _, _, _, _, rfl, _⟩ | ⟨_, _, rfl, _⟩ <;> rfl; done) | (rcases h with ⟨_, _, _, _, _, rfl, _⟩ | ⟨_, _, _, rfl, _⟩ <;> rfl; done) | (rcases h with ⟨_, _, _, _, _, rfl, _⟩ | ⟨_, _, _, _, rfl, _⟩ <;> rfl; done) | (rcases h with ⟨_, _, _, _, _, rfl, _⟩ | ⟨_, _, _, _, _, rfl, _⟩ <;> rfl; done) | (rcases h with ⟨_, _, _, _, _, rfl, _⟩ | ⟨_, _, _, _, _, _, rfl, _⟩ <;> rfl; done) | (rcases h with ⟨_, _, _, _, _, _, rfl, _⟩ | ⟨_, rfl, _⟩ <;> rfl; done) | (rcases h with ⟨_, _, _, _, _, _, rfl, _⟩ | ⟨_, _, rfl, _⟩ <;> rfl; done) | (rcases h with ⟨_, _, _, _, _, _, rfl, _⟩ | ⟨_, _, _, rfl, _⟩ <;> rfl; done) | (rcases h with ⟨_, _, _, _, _, _, rfl, _⟩ | ⟨_, _, _, _, rfl, _⟩ <;> rfl; done) | (rcases h with ⟨_, _, _, _, _, _, rfl, _⟩ | ⟨_, _, _, _, _, rfl, _⟩ <;> rfl; done) | (rcases h with ⟨_, _, _, _, _, _, rfl, _⟩ | ⟨_, _, _, _, _, _, rfl, _⟩ <;> rfl; done) | (rcases h with ⟨_, rfl, _⟩ | ⟨_, _, rfl, _⟩ <;> rfl) | (rcases h with ⟨_, rfl, _⟩ | ⟨_, rfl, _⟩ <;> rfl) | (rcases h with h | h | h <;> (first | (obtain ⟨rfl, _⟩ := h; rfl; done) | (obtain ⟨_, rfl, _⟩ := h; rfl; done) | (obtain ⟨_, _, rfl, _⟩ := h; rfl; done) | (obtain ⟨_, _, _, rfl, _⟩ := h; rfl; done) | (obtain ⟨_, _, _, _, rfl, _⟩ := h; rfl; done) | (obtain ⟨_, _, _, _, _, rfl, _⟩ := h; rfl; done) | (obtain ⟨_, _, _, _, _, _, rfl, _⟩ := h; rfl; done) | (obtain ⟨_, _, _, _, _, _, _, rfl, _⟩ := h; rfl; done) | (obtain ⟨_, _, _, _, _, _, _, _, rfl, _⟩ := h; rfl; done) | (obtain ⟨_, _, _, _, _, _, _, _, _, rfl, _⟩ := h; rfl; done) | (obtain ⟨_, _, _, _, _, _, _, _, _, _, rfl, _⟩ := h; rfl; done) | (obtain ⟨_, _, _, _, _, _, _, _, _, _, _, rfl, _⟩ := h; rfl; done) | (obtain ⟨_, _, _, _, _, _, _, _, _, _, _, _, rfl, _⟩ := h; rfl; done) | (obtain ⟨_, _, _, _, _, _, _, _, _, _, _, _, _, rfl, _⟩ := h; rfl; done) | (obtain ⟨_, _, _, _, _, _, _, _, _, _, _, _, _, _, rfl, _⟩ := h; rfl; done)))) (fun cdv A outer s H vs Q E hr h => ⟨t__law_bag K a, ?_, rd vs H Q E h⟩)
  exact (pss_cons (ps_set (i := 1) nd rfl (by first | exact Or.inl rfl | exact Or.inr rfl) (pe_callTy call_list_of (by rfl) T.n_list (by decide +kernel) (pa_cons (pe_slice sl_list (pv 0) po_none (po_some pe_int)) pa_nil)))
      (pss_cons (ps_set (i := 2) nd rfl (by first | exact Or.inl rfl | exact Or.inr rfl) (pe_op op_add pe_int (pe_callB call_len_seq (by rfl) T.n_len (by decide +kernel) (pa_cons (pv 1) pa_nil))))
      (pss_cons (ps_for PassesOwn.never rfl (pi_list (pv 1)) (pg_name (i := 3) nd rfl (by first | exact Or.inl rfl | exact Or.inr rfl)) (pss_one (ps_set (i := 2) nd rfl (by first | exact Or.inl rfl | exact Or.inr rfl) (pe_op op_mod (pe_op op_add (pe_op op_mul (pv 2) pe_int) (pv 3)) pe_int))))
      (pss_one (ps_ret (pe_lst (pa_cons (pv 1) (pa_cons pe_int (pa_cons pe_int (pa_cons (pv 2) pa_nil))))))))))
theorem ok__law_pull (T : Txt K mg a)
    (rd : RD (sp__law_pull K a) (t__law_pull K a) N__law_pull) :
    FnOk P a.w K mg base CX0 1 a.f__law_pull a.d__law_pull P__law_pull (sp__law_pull K a) := by
  have nd := sc__law_pull.nd
  refine T.F__law_pull.ok sc__law_pull (fun vs H Q E h => by first | (obtain ⟨rfl, _⟩ := h; rfl; done) | (obtain ⟨_, rfl, _⟩ := h; rfl; done) | (obtain ⟨_, _, rfl, _⟩ := h; rfl; done) | (obtain ⟨_, _, _, rfl, _⟩ := h; rfl; done) | (obtain ⟨_, _, _, _, rfl, _⟩ := h; rfl; done) | (obtain ⟨_, _, _, _, _, rfl, _⟩ := h; rfl; done) | (obtain ⟨_, _, _, _, _, _, rfl, _⟩ := h; rfl; done) | (obtain ⟨_, _, _, _, _, _, _, rfl, _⟩ := h; rfl; done) | (obtain ⟨_, _, _, _, _, _, _, _, rfl, _⟩ := h; rfl; done) | (obtain ⟨_, _, _, _, _, _, _, _, _, rfl, _⟩ := h; rfl; done) | (obtain ⟨_, _, _, _, _, _, _, _, _, _, rfl, _⟩ := h; rfl; done) | (obtain ⟨_, _, _, _, _, _, _, _, _, _, _, rfl, _⟩ := h; rfl; done) | (obtain ⟨_, _, _, _, _, _, _, _, _, _, _, _, rfl, _⟩ := h; rfl; done) | (obtain ⟨_, _, _, _, _, _, _, _, _, _, _, _, _, rfl, _⟩ := h; rfl; done) | (obtain ⟨_, _, _, _, _, _, _, _, _, _, _, _, _, _, rfl, _⟩ := h; rfl; done) | (rcases h with ⟨_, rfl, _⟩ | ⟨_, rfl, _⟩ <;> rfl; done) | (rcases h with ⟨_, rfl, _⟩ | ⟨_, _, rfl, _⟩ <;> rfl; done) | (rcases h with ⟨_, rfl, _⟩ | ⟨_, _, _, rfl, _⟩ <;> rfl; done) | (rcases h with ⟨_, rfl, _⟩ | ⟨_, _, _, _, rfl, _⟩ <;> rfl; done) | (rcases h with ⟨_, rfl, _⟩ | ⟨_, _, _, _, _, rfl, _⟩ <;> rfl; done) | (rcases h with ⟨_, rfl, _⟩ | ⟨_, _, _, _, _, _, rfl, _⟩ <;> rfl; done) | (rcases h with ⟨_, _, rfl, _⟩ | ⟨_, rfl, _⟩ <;> rfl; done) | (rcases h with ⟨_, _, rfl, _⟩ | ⟨_, _, rfl, _⟩ <;> rfl; done) | (rcases h with ⟨_, _, rfl, _⟩ | ⟨_, _, _, rfl, _⟩ <;> rfl; done) | (rcases h with ⟨_, _, rfl, _⟩ | ⟨_, _, _, _, rfl, _⟩ <;> rfl; done) | (rcases h with ⟨_, _, rfl, _⟩ | ⟨_, _, _, _, _, rfl, _⟩ <;> rfl; done) | (rcases h with ⟨_, _, rfl, _⟩ | ⟨_, _, _, _, _, _, rfl, _⟩ <;> rfl; done) | (rcases h with ⟨_, _, _, rfl, _⟩ | ⟨_, rfl, _⟩ <;> rfl; done) | (rcases h with ⟨_, _, _, rfl, _⟩ | ⟨_, _, rfl, _⟩ <;> rfl; done) | (rcases h with ⟨_, _, _, rfl, _⟩ | ⟨_, _, _, rfl, _⟩ <;> rfl; done) | (rcases h with ⟨_, _, _, rfl, _⟩ | ⟨_, _, _, _, rfl, _⟩ <;> rfl; done) | (rcases h with ⟨_, _, _, rfl, _⟩ | ⟨_, _, _, _, _, rfl, _⟩ <;> rfl; done) | (rcases h with ⟨_, _, _, rfl, _⟩ | ⟨_, _, _, _, _, _, rfl, _⟩ <;> rfl; done) | (rcases h with ⟨_, _, _, _, rfl, _⟩ | ⟨_, rfl, _⟩ <;> rfl; done) | (rcases h with ⟨_, _, _, _, rfl, _⟩ | ⟨_, _, rfl, _⟩ <;> rfl; done) | (rcases h with ⟨_, _, _, _, rfl, _⟩ | ⟨_, _, _, rfl, _⟩ <;> rfl; done) | (rcases h with ⟨_, _, _, _, rfl, _⟩ | ⟨_, _, _, _, rfl, _⟩ <;> rfl; done) | (rcases h with ⟨_, _, _, _, rfl, _⟩ | ⟨_, _, _, _, _, rfl, _⟩ <;> rfl; done) | (rcases h with ⟨_, _, _, _, rfl, _⟩ | ⟨_, _, _, _, _, _, rfl, _⟩ <;> rfl; done) | (rcases h with ⟨_, _, _, _, _, rfl, _⟩ | ⟨_, rfl, _⟩ <;> rfl; done) | (rcases h with ⟨_, _, _, _, _, rfl, _⟩ | ⟨_, _, rfl, _⟩ <;> rfl; done) | (rcases h with ⟨_, _, _, _, _, rfl, _⟩ | ⟨_, _, _, rfl, _⟩ <;> rfl; done) | (rcases h with ⟨_, _, _, _, _, rfl, _⟩ | ⟨_, _, _, _, rfl, _⟩ <;> rfl; done) | (rcases h with ⟨_, _, _, _, _, rfl, _⟩ | ⟨_, _, _, _, _, rfl, _⟩ <;> rfl; done) | (rcases h with ⟨_, _, _, _, _, rfl, _⟩ | ⟨_, _, _, _, _, _, rfl, _⟩ <;> rfl; done) | (rcases h with ⟨_, _, _, _, _, _, rfl, _⟩ | ⟨_, rfl, _⟩ <;> rfl; done) | (rcases h with ⟨_, _, _, _, _, _, rfl, _⟩ | ⟨_, _, rfl, _⟩ <;> rfl; done) | (rcases h with ⟨_, _, _, _, _, _, rfl, _⟩ | ⟨_, _, _, rfl, _⟩ <;> rfl; done) | (rcases h with ⟨_, _, _, _, _, _, rfl, _⟩ | ⟨_, _, _, _, rfl, _⟩ <;> rfl; done) | (rcases h with ⟨_, _, _, _, _, _, rfl, _⟩ | ⟨_, _, _, _, _, rfl, _⟩ <;> rfl; done) | (rcases h with ⟨_, _, _, _, _, _, rfl, _⟩ | ⟨_, _, _, _, _, _, rfl, _⟩ <;> rfl; done) | (rcases h with ⟨_, rfl, _⟩ | ⟨_, _, rfl, _⟩ <;> rfl) | (rcases h with ⟨_, rfl, _⟩ | ⟨_, rfl, _⟩ <;> rfl) | (rcases h with h | h | h <;> (first | (obtain ⟨rfl, _⟩ := h; rfl; done) | (obtain ⟨_, rfl, _⟩ := h; rfl; done) | (obtain ⟨_, _, rfl, _⟩ := h; rfl; done) | (obtain ⟨_, _, _, rfl, _⟩ := h; rfl; done) | (obtain ⟨_, _, _, _, rfl, _⟩ := h; rfl; done) | (obtain ⟨_, _, _, _, _, rfl, _⟩ := h; rfl; done) | (obtain ⟨_, _, _, _, _, _, rfl, _⟩ := h; rfl; done) | (obtain ⟨_, _, _, _, _, _, _, rfl, _⟩ := h; rfl; done) | (obtain ⟨_, _, _, _, _, _, _, _, rfl, _⟩ := h; rfl; done) | (obtain ⟨_, _, _, _, _, _, _, _, _, rfl, _⟩ := h; rfl; done) | (obtain ⟨_, _, _, _, _, _, _, _, _, _, rfl, _⟩ := h; rfl; done) | (obtain ⟨_, _, _, _, _, _, _, _, _, _, _, rfl, _⟩ := h; rfl; done) | (obtain ⟨_, _, _, _, _, _, _, _, _, _, _, _, rfl, _⟩ := h; rfl; done) | (obtain ⟨_, _, _, _, _, _, _, _, _, _, _, _, _, rfl, _⟩ := h; rfl; done) | (obtain ⟨_, _, _, _, _, _, _, _, _, _, _, _, _, _, rfl, _⟩ := h; rfl; done)))) (fun cdv A outer s H vs Q E hr h => ⟨t__law_pull K a, ?_, rd vs H Q E h⟩)
  exact (pss_cons (ps_if (pt_cmpR op_lt (pe_ix ix_list (pv 0) pe_int (fun _ _ => rfl)) pe_int (nomark _)) (pss_cons (ps_asg (pe_op op_add (pe_ix ix_list (pv 0) pe_int (fun _ _ => rfl)) pe_int) (pg_sub (pv 0) pe_int set_list))
      (pss_cons (ps_set (i := 2) nd rfl (by first | exact Or.inl rfl | exact Or.inr rfl) (pe_op op_add (pe_ix ix_list (pv 0) pe_int (fun _ _ => rfl)) (pe_op op_mul (pe_ix ix_list (pv 0) pe_int (fun _ _ => rfl)) pe_int)))
      (pss_cons (ps_if (pt_cmpR op_le (pe_ix ix_list (pv 0) pe_int (fun _ _ => rfl)) (pe_callB call_len_seq (by rfl) T.n_len (by decide +kernel) (pa_cons (pe_ix ix_list (pv 0) pe_int (fun _ _ => rfl)) pa_nil)) (nomark _)) (pss_one (ps_set (i := 2) nd rfl (by first | exact Or.inl rfl | exact Or.inr rfl) (pe_ix ix_list (pe_ix ix_list (pv 0) pe_int (fun _ _ => rfl)) (pe_op op_sub (pe_ix ix_list (pv 0) pe_int (fun _ _ => rfl)) pe_int) (fun _ _ => rfl)))) pss_nil)
      (pss_cons (ps_if (PW.pt (pw_or (pt_cmpR op_gt (pe_ix ix_list (pv 0) pe_int (fun _ _ => rfl)) (pe_callB call_len_seq (by rfl) T.n_len (by decide +kernel) (pa_cons (pe_ix ix_list (pv 0) pe_int (fun _ _ => rfl)) pa_nil)) (nomark _)) (pw_or1 (pt_cmpR op_lt (pv 2) (pe_op op_pow pe_int pe_int) (nomark _))))) (pss_cons (ps_set (i := 3) nd rfl (by first | exact Or.inl rfl | exact Or.inr rfl) (pe_op op_mod (pe_op op_add (pe_op op_add (pe_op op_mul (pv 2) pe_int) (pe_op op_mul (pe_ix ix_list (pv 0) pe_int (fun _ _ => rfl)) pe_int)) (pe_ix ix_list (pv 0) pe_int (fun _ _ => rfl))) pe_int))
      (pss_cons (ps_set (i := 4) nd rfl (by first | exact Or.inl rfl | exact Or.inr rfl) (pe_op op_mod (pe_op op_add (pe_op op_mul (pv 3) (pv 3)) (pe_ix ix_list (pv 0) pe_int (fun _ _ => rfl))) pe_int))
      (pss_one (ps_ret (pe_op op_mod (pe_op op_fdivW (pe_op op_mod (pe_op op_add (pe_op op_mul (pv 4) pe_int) (pv 3)) pe_int) pe_int) (pv 1)))))) pss_nil)
      (pss_one (ps_asg (pv 2) (pg_sub (pv 0) pe_int set_list))))))) pss_nil)
      (pss_cons (ps_set (i := 5) nd rfl (by first | exact Or.inl rfl | exact Or.inr rfl) (pe_op op_mod (pe_ix ix_list (pv 0) pe_int (fun _ _ => rfl)) (pv 1)))
      (pss_cons (ps_asg (pe_op op_fdivW (pe_ix ix_list (pv 0) pe_int (fun _ _ => rfl)) (pv 1)) (pg_sub (pv 0) pe_int set_list))
      (pss_one (ps_ret (pv 5))))))
theorem ok__law_whole (T : Txt K mg a)
    (rd : RD (sp__law_whole K a) (t__law_whole K a) N__law_whole) :
    FnOk P a.w K mg base CX0 1 a.f__law_whole a.d__law_whole P__law_whole (sp__law_whole K a) := by
  have nd := sc__law_whole.nd
  refine T.F__law_whole.ok sc__law_whole (fun vs H Q E h => by first | (obtain ⟨rfl, _⟩ := h; rfl; done) | (obtain ⟨_, rfl, _⟩ := h; rfl; done) | (obtain ⟨_, _, rfl, _⟩ := h; rfl; done) | (obtain ⟨_, _, _, rfl, _⟩ := h; rfl; done) | (obtain ⟨_, _, _, _, rfl, _⟩ := h; rfl; done) | (obtain ⟨_, _, _, _, _, rfl, _⟩ := h; rfl; done) | (obtain ⟨_, _, _, _, _, _, rfl, _⟩ := h; rfl; done) | (obtain ⟨_, _, _, _, _, _, _, rfl, _⟩ := h; rfl; done) | (obtain ⟨_, _, _, _, _, _, _, _, rfl, _⟩ := h; rfl; done) | (obtain ⟨_, _, _, _, _, _, _, _, _, rfl, _⟩ := h; rfl; done) | (obtain ⟨_, _, _, _, _, _, _, _, _, _, rfl, _⟩ := h; rfl; done) | (obtain ⟨_, _, _, _, _, _, _, _, _, _, _, rfl, _⟩ := h; rfl; done) | (obtain ⟨_, _, _, _, _, _, _, _, _, _, _, _, rfl, _⟩ := h; rfl; done) | (obtain ⟨_, _, _, _, _, _, _, _, _, _, _, _, _, rfl, _⟩ := h; rfl; done) | (obtain ⟨_, _, _, _, _, _, _, _, _, _, _, _, _, _, rfl, _⟩ := h; rfl; done) | (rcases h with ⟨_, rfl, _⟩ | ⟨_, rfl, _⟩ <;> rfl; done) | (rcases h with ⟨_, rfl, _⟩ | ⟨_, _, rfl, _⟩ <;> rfl; done) | (rcases h with ⟨_, rfl, _⟩ | ⟨_, _, _, rfl, _⟩ <;> rfl; done) | (rcases h with ⟨_, rfl, _⟩ | ⟨_, _, _, _, rfl, _⟩ <;> rfl; done) | (rcases h with ⟨_, rfl, _⟩ | ⟨_, _, _, _, _, rfl, _⟩ <;> rfl; done) | (rcases h with ⟨_, rfl, _⟩ | ⟨_, _, _, _, _, _, rfl, _⟩ <;> rfl; done) | (rcases h with ⟨_, _, rfl, _⟩ | ⟨_, rfl, _⟩ <;> rfl; done) | (rcases h with ⟨_, _, rfl, _⟩ | ⟨_, _, rfl, _⟩ <;> rfl; done) | (rcases h with ⟨_, _, rfl, _⟩ | ⟨_, _, _, rfl, _⟩ <;> rfl; done) | (rcases h with ⟨_, _, rfl, _⟩ | ⟨_, _, _, _, rfl, _⟩ <;> rfl; done) | (rcases h with ⟨_, _, rfl, _⟩ | ⟨_, _, _, _, _, rfl, _⟩ <;> rfl; done) | (rcases h with ⟨_, _, rfl, _⟩ | ⟨_, _, _, _, _, _, rfl, _⟩ <;> rfl; done) | (rcases h with ⟨_, _, _, rfl, _⟩ | ⟨_, rfl, _⟩ <;> rfl; done) | (rcases h with ⟨_, _, _, rfl, _⟩ | ⟨_, _, rfl, _⟩ <;> rfl; done) | (rcases h with ⟨_, _, _, rfl, _⟩ | ⟨_, _, _, rfl, _⟩ <;> rfl; done) | (rcases h with ⟨_, _, _, rfl, _⟩ | ⟨_, _, _, _, rfl, _⟩ <;> rfl; done) | (rcases h with ⟨_, _, _, rfl, _⟩ | ⟨_, _, _, _, _, rfl, _⟩ <;> rfl; done) | (rcases h with ⟨_, _, _, rfl, _⟩ | ⟨_, _, _, _, _, _, rfl, _⟩ <;> rfl; done) | (rcases h with ⟨_, _, _, _, rfl, _⟩ | ⟨_, rfl, _⟩ <;> rfl; done) | (rcases h with ⟨_, _, _, _, rfl, _⟩ | ⟨_, _, rfl, _⟩ <;> rfl; done) | (rcases h with ⟨_, _, _, _, rfl, _⟩ | ⟨_, _, _, rfl, _⟩ <;> rfl; done) | (rcases h with ⟨_, _, _, _, rfl, _⟩ | ⟨_, _, _, _, rfl, _⟩ <;> rfl; done) | (rcases h with ⟨_, _, _, _, rfl, _⟩ | ⟨_, _, _, _, _, rfl, _⟩ <;> rfl; done) | (rcases h with ⟨_, _, _, _, rfl, _⟩ | ⟨_, _, _, _, _, _, rfl, _⟩ <;> rfl; done) | (rcases h with ⟨_, _, _, _, _, rfl, _⟩ | ⟨_, rfl, _⟩ <;> rfl; done) | (rcases h with ⟨_, _, _, _, _, rfl, _⟩ | ⟨_, _, rfl, _⟩ <;> rfl; done) | (rcases h with ⟨_, _, _, _, _, rfl, _⟩ | ⟨_, _, _, rfl, _⟩ <;> rfl; done) | (rcases h with ⟨_, _, _, _, _, rfl, _⟩ | ⟨_, _, _, _, rfl, _⟩ <;> rfl; done) | (rcases h with ⟨_, _, _, _, _, rfl, _⟩ | ⟨_, _, _, _, _, rfl, _⟩ <;> rfl; done) | (rcases h with ⟨_, _, _, _, _, rfl, _⟩ | ⟨_, _, _, _, _, _, rfl, _⟩ <;> rfl; done) | (rcases h with ⟨_, _, _, _, _, _, rfl, _⟩ | ⟨_, rfl, _⟩ <;> rfl; done) | (rcases h with ⟨_, _, _, _, _, _, rfl, _⟩ | ⟨_, _, rfl, _⟩ <;> rfl; done) | (rcases h with ⟨_, _, _, _, _, _, rfl, _⟩ | ⟨_, _, _, rfl, _⟩ <;> rfl; done) | (rcases h with ⟨_, _, _, _, _, _, rfl, _⟩ | ⟨_, _, _, _, rfl, _⟩ <;> rfl; done) | (rcases h with ⟨_, _, _, _, _, _, rfl, _⟩ | ⟨_, _, _, _, _, rfl, _⟩ <;> rfl; done) | (rcases h with ⟨_, _, _, _, _, _, rfl, _⟩ | ⟨_, _, _, _, _, _, rfl, _⟩ <;> rfl; done) | (rcases h with ⟨_, rfl, _⟩ | ⟨_, _, rfl, _⟩ <;> rfl) | (rcases h with ⟨_, rfl, _⟩ | ⟨_, rfl, _⟩ <;> rfl) | (rcases h with h | h | h <;> (first | (obtain ⟨rfl, _⟩ := h; rfl; done) | (obtain ⟨_, rfl, _⟩ := h; rfl; done) | (obtain ⟨_, _, rfl, _⟩ := h; rfl; done) | (obtain ⟨_, _, _, rfl, _⟩ := h; rfl; done) | (obtain ⟨_, _, _, _, rfl, _⟩ := h; rfl; done) | (obtain ⟨_, _, _, _, _, rfl, _⟩ := h; rfl; done) | (obtain ⟨_, _, _, _, _, _, rfl, _⟩ := h; rfl; done) | (obtain ⟨_, _, _, _, _, _, _, rfl, _⟩ := h; rfl; done) | (obtain ⟨_, _, _, _, _, _, _, _, rfl, _⟩ := h; rfl; done) | (obtain ⟨_, _, _, _, _, _, _, _, _, rfl, _⟩ := h; rfl; done) | (obtain ⟨_, _, _, _, _, _, _, _, _, _, rfl, _⟩ := h; rfl; done) | (obtain ⟨_, _, _, _, _, _, _, _, _, _, _, rfl, _⟩ := h; rfl; done) | (obtain ⟨_, _, _, _, _, _, _, _, _, _, _, _, rfl, _⟩ := h; rfl; done) | (obtain ⟨_, _, _, _, _, _, _, _, _, _, _, _, _, rfl, _⟩ := h; rfl; done) | (obtain ⟨_, _, _, _, _, _, _, _, _, _, _, _, _, _, rfl, _⟩ := h; rfl; done)))) (fun cdv A outer s H vs Q E hr h => ⟨t__law_whole K a, ?_, rd vs H Q E h⟩)
  exact (pss_one (ps_ret (pe_and (pe_callB call_isi (by rfl) T.n_isinstance (by decide +kernel) (pa_cons (pv 0) (pa_cons (pe_bltn (v := .ty "int") rfl T.n_int (by decide +kernel) rfl) pa_nil))) (pe_one (pe_not (pe_callB call_isi (by rfl) T.n_isinstance (by decide +kernel) (pa_cons (pv 0) (pa_cons (pe_bltn (v := .ty "bool") rfl T.n_bool (by decide +kernel) rfl) pa_nil))))))))
theorem ok__law_same (T : Txt K mg a)
    (G__law_whole : FnOk P a.w K mg base CX0 1 a.f__law_whole a.d__law_whole P__law_whole (sp__law_whole K a)) {spR : Sp} {kR : Nat} (hk : 1 ≤ kR + 1)
    (GR : FnOk P a.w K mg base CX0 (kR + 1) a.f__law_same a.d__law_same P__law_same spR) {spN : Sp} (hN : ∀ vs H Q E, spN vs H Q E → vs.length = P__law_same.length)
    (rd : RD spN (t__law_same K a spR) N__law_same) :
    FnOk P a.w K mg base CX0 (kR + 2) a.f__law_same a.d__law_same P__law_same spN := by
  have nd := sc__law_same.nd
  refine T.F__law_same.ok sc__law_same hN (fun cdv A outer s H vs Q E hr h => ⟨t__law_same K a spR, ?_, rd vs H Q E h⟩)
  exact (pss_cons (ps_if (pt_cmpR op_isN (pv 1) pe_non (nomark _)) (pss_one (ps_ret (pe_cmpR op_isN (pv 0) pe_non (nomark _)))) pss_nil)
      (pss_cons (ps_if (pt_val (pe_callB call_isi (by rfl) T.n_isinstance (by decide +kernel) (pa_cons (pv 1) (pa_cons (pe_bltn (v := .ty "bool") rfl T.n_bool (by decide +kernel) rfl) pa_nil)))) (pss_one (ps_ret (pe_and (pe_callB call_isi (by rfl) T.n_isinstance (by decide +kernel) (pa_cons (pv 0) (pa_cons (pe_bltn (v := .ty "bool") rfl T.n_bool (by decide +kernel) rfl) pa_nil))) (pe_one (pe_cmpR op_eq (pv 0) (pv 1) (nomark _)))))) pss_nil)
      (pss_cons (ps_if (pt_val (pe_callB call_isi (by rfl) T.n_isinstance (by decide +kernel) (pa_cons (pv 1) (pa_cons (pe_bltn (v := .ty "int") rfl T.n_int (by decide +kernel) rfl) pa_nil)))) (pss_one (ps_ret (pe_and (pe_call G__law_whole (hr.mono (Nat.le_trans (by decide) hk)) rfl T.g__law_whole T.F__law_whole.kp T.b__law_whole .nil pass0 (pa_cons (pv 0) pa_nil)) (pe_one (pe_cmpR op_eq (pv 0) (pv 1) (nomark _)))))) pss_nil)
      (pss_cons (ps_if (pt_val (pe_callB call_isi (by rfl) T.n_isinstance (by decide +kernel) (pa_cons (pv 1) (pa_cons (pe_bltn (v := .ty "str") rfl T.n_str (by decide +kernel) rfl) pa_nil)))) (pss_one (ps_ret (pe_and (pe_callB call_isi (by rfl) T.n_isinstance (by decide +kernel) (pa_cons (pv 0) (pa_cons (pe_bltn (v := .ty "str") rfl T.n_str (by decide +kernel) rfl) pa_nil))) (pe_one (pe_cmpR op_eq (pv 0) (pv 1) (nomark _)))))) pss_nil)
      (pss_cons (ps_if (PW.pt (pw_or (pt_cmpR op_ne (pe_callB call_isi (by rfl) T.n_isinstance (by decide +kernel) (pa_cons (pv 1) (pa_cons (pe_bltn (v := .ty "list") rfl T.n_list (by decide +kernel) rfl) pa_nil))) (pe_callB call_isi (by rfl) T.n_isinstance (by decide +kernel) (pa_cons (pv 0) (pa_cons (pe_bltn (v := .ty "list") rfl T.n_list (by decide +kernel) rfl) pa_nil))) (nomark _)) (pw_or1 (pt_cmpR op_ne (pe_callB call_isi (by rfl) T.n_isinstance (by decide +kernel) (pa_cons (pv 1) (pa_cons (pe_bltn (v := .ty "tuple") rfl T.n_tuple (by decide +kernel) rfl) pa_nil))) (pe_callB call_isi (by rfl) T.n_isinstance (by decide +kernel) (pa_cons (pv 0) (pa_cons (pe_bltn (v := .ty "tuple") rfl T.n_tuple (by decide +kernel) rfl) pa_nil))) (nomark _))))) (pss_one (ps_ret pe_bl)) pss_nil)
      (pss_cons (ps_if (pt_cmpR op_ne (pe_callB call_len_seq (by rfl) T.n_len (by decide +kernel) (pa_cons (pv 0) pa_nil)) (pe_callB call_len_seq (by rfl) T.n_len (by decide +kernel) (pa_cons (pv 1) pa_nil)) (nomark _)) (pss_one (ps_ret pe_bl)) pss_nil)
      (pss_one (ps_ret (pe_callB (cr_all rfl) (by rfl) T.n_all (by decide +kernel) (pa_cons (pe_lc (own := [("_law_spot", 2)]) (g := (gName 2)) (tt := tYes) (te := (tCall spR [] E0 (tCons (tOp (rIx K) (tVar 0) (tVar 2)) (tCons (tOp (rIx K) (tVar 1) (tVar 2)) tNil)))) rfl nd (pi_range1 rfl T.n_range (pa_cons (pe_callB call_len_seq (by rfl) T.n_len (by decide +kernel) (pa_cons (pv 1) pa_nil)) pa_nil)) (blkOk_by (N := N__law_same) (sc := defScope s__law_same) (by decide +kernel)) (fun _ _ _ _ _ => (pg_name (i := 2) nd rfl (by first | exact Or.inl rfl | exact Or.inr rfl))) (fun _ _ _ _ _ => pts_nil) (fun _ _ _ _ _ => (pe_call GR hr rfl T.g__law_same T.F__law_same.kp T.b__law_same .nil pass0 (pa_cons (pe_ix ix_seq (pv 0) (pv 2) (fun _ _ => rfl)) (pa_cons (pe_ix ix_seq (pv 1) (pv 2) (fun _ _ => rfl)) pa_nil))))) pa_nil))))))))))
theorem ok__law_one (T : Txt K mg a)
    (G__law_pull : FnOk P a.w K mg base CX0 1 a.f__law_pull a.d__law_pull P__law_pull (sp__law_pull K a))
    (rd : RD (sp__law_one K a) (t__law_one K a) N__law_one) :
    FnOk P a.w K mg base CX0 2 a.f__law_one a.d__law_one P__law_one (sp__law_one K a) := by
  have nd := sc__law_one.nd
  refine T.F__law_one.ok sc__law_one (fun vs H Q E h => by first | (obtain ⟨rfl, _⟩ := h; rfl; done) | (obtain ⟨_, rfl, _⟩ := h; rfl; done) | (obtain ⟨_, _, rfl, _⟩ := h; rfl; done) | (obtain ⟨_, _, _, rfl, _⟩ := h; rfl; done) | (obtain ⟨_, _, _, _, rfl, _⟩ := h; rfl; done) | (obtain ⟨_, _, _, _, _, rfl, _⟩ := h; rfl; done) | (obtain ⟨_, _, _, _, _, _, rfl, _⟩ := h; rfl; done) | (obtain ⟨_, _, _, _, _, _, _, rfl, _⟩ := h; rfl; done) | (obtain ⟨_, _, _, _, _, _, _, _, rfl, _⟩ := h; rfl; done) | (obtain ⟨_, _, _, _, _, _, _, _, _, rfl, _⟩ := h; rfl; done) | (obtain ⟨_, _, _, _, _, _, _, _, _, _, rfl, _⟩ := h; rfl; done) | (obtain ⟨_, _, _, _, _, _, _, _, _, _, _, rfl, _⟩ := h; rfl; done) | (obtain ⟨_, _, _, _, _, _, _, _, _, _, _, _, rfl, _⟩ := h; rfl; done) | (obtain ⟨_, _, _, _, _, _, _, _, _, _, _, _, _, rfl, _⟩ := h; rfl; done) | (obtain ⟨_, _, _, _, _, _, _, _, _, _, _, _, _, _, rfl, _⟩ := h; rfl; done) | (rcases h with ⟨_, rfl, _⟩ | ⟨_, rfl, _⟩ <;> rfl; done) | (rcases h with ⟨_, rfl, _⟩ | ⟨_, _, rfl, _⟩ <;> rfl; done) | (rcases h with ⟨_, rfl, _⟩ | ⟨_, _, _, rfl, _⟩ <;> rfl; done) | (rcases h with ⟨_, rfl, _⟩ | ⟨_, _, _, _, rfl, _⟩ <;> rfl; done) | (rcases h with ⟨_, rfl, _⟩ | ⟨_, _, _, _, _, rfl, _⟩ <;> rfl; done) | (rcases h with ⟨_, rfl, _⟩ | ⟨_, _, _, _, _, _, rfl, _⟩ <;> rfl; done) | (rcases h with ⟨_, _, rfl, _⟩ | ⟨_, rfl, _⟩ <;> rfl; done) | (rcases h with ⟨_, _, rfl, _⟩ | ⟨_, _, rfl, _⟩ <;> rfl; done) | (rcases h with ⟨_, _, rfl, _⟩ | ⟨_, _, _, rfl, _⟩ <;> rfl; done) | (rcases h with ⟨_, _, rfl, _⟩ | ⟨_, _, _, _, rfl, _⟩ <;> rfl; done) | (rcases h with ⟨_, _, rfl, _⟩ | ⟨_, _, _, _, _, rfl, _⟩ <;> rfl; done) | (rcases h with ⟨_, _, rfl, _⟩ | ⟨_, _, _, _, _, _, rfl, _⟩ <;> rfl; done) | (rcases h with ⟨_, _, _, rfl, _⟩ | ⟨_, rfl, _⟩ <;> rfl; done) | (rcases h with ⟨_, _, _, rfl, _⟩ | ⟨_, _, rfl, _⟩ <;> rfl; done) | (rcases h with ⟨_, _, _, rfl, _⟩ | ⟨_, _, _, rfl, _⟩ <;> rfl; done) | (rcases h with ⟨_, _, _, rfl, _⟩ | ⟨_, _, _, _, rfl, _⟩ <;> rfl; done) | (rcases h with ⟨_, _, _, rfl, _⟩ | ⟨_, _, _, _, _, rfl, _⟩ <;> rfl; done) | (rcases h with ⟨_, _, _, rfl, _⟩ | ⟨_, _, _, _, _, _, rfl, _⟩ <;> rfl; done) | (rcases h with ⟨_, _, _, _, rfl, _⟩ | ⟨_, rfl, _⟩ <;> rfl; done) | (rcases h with ⟨_, _, _, _, rfl, _⟩ | ⟨_, _, rfl, _⟩ <;> rfl; done) | (rcases h with ⟨_, _, _, _, rfl, _⟩ | ⟨_, _, _, rfl, _⟩ <;> rfl; done) | (rcases h with ⟨_, _, _, _, rfl, _⟩ | ⟨_, _, _, _, rfl, _⟩ <;> rfl; done) | (rcases h with ⟨_, _, _, _, rfl, _⟩ | ⟨_, _, _, _, _, rfl, _⟩ <;> rfl; done) | (rcases h with ⟨_, _, _, _, rfl, _⟩ | ⟨_, _, _, _, _, _, rfl, _⟩ <;> rfl; done) | (rcases h with ⟨_, _, _, _, _, rfl, _⟩ | ⟨_, rfl, _⟩ <;> rfl; done) | (rcases h with ⟨_, _, _, _, _, rfl, _⟩ | ⟨_, _, rfl, _⟩ <;> rfl; done) | (rcases h with ⟨_, _, _, _, _, rfl, _⟩ | ⟨_, _, _, rfl, _⟩ <;> rfl; done) | (rcases h with ⟨_, _, _, _, _, rfl, _⟩ | ⟨_, _, _, _, rfl, _⟩ <;> rfl; done) | (rcases h with ⟨_, _, _, _, _, rfl, _⟩ | ⟨_, _, _, _, _, rfl, _⟩ <;> rfl; done) | (rcases h with ⟨_, _, _, _, _, rfl, _⟩ | ⟨_, _, _, _, _, _, rfl, _⟩ <;> rfl; done) | (rcases h with ⟨_, _, _, _, _, _, rfl, _⟩ | ⟨_, rfl, _⟩ <;> rfl; done) | (rcases h with ⟨_, _, _, _, _, _, rfl, _⟩ | ⟨_, _, rfl, _⟩ <;> rfl; done) | (rcases h with ⟨_, _, _, _, _, _, rfl, _⟩ | ⟨_, _, _, rfl, _⟩ <;> rfl; done) | (rcases h with ⟨_, _, _, _, _, _, rfl, _⟩ | ⟨_, _, _, _, rfl, _⟩ <;> rfl; done) | (rcases h with ⟨_, _, _, _, _, _, rfl, _⟩ | ⟨_, _, _, _, _, rfl, _⟩ <;> rfl; done) | (rcases h with ⟨_, _, _, _, _, _, rfl, _⟩ | ⟨_, _, _, _, _, _, rfl, _⟩ <;> rfl; done) | (rcases h with ⟨_, rfl, _⟩ | ⟨_, _, rfl, _⟩ <;> rfl) | (rcases h with ⟨_, rfl, _⟩ | ⟨_, rfl, _⟩ <;> rfl) | (rcases h with h | h | h <;> (first | (obtain ⟨rfl, _⟩ := h; rfl; done) | (obtain ⟨_, rfl, _⟩ := h; rfl; done) | (obtain ⟨_, _, rfl, _⟩ := h; rfl; done) | (obtain ⟨_, _, _, rfl, _⟩ := h; rfl; done) | (obtain ⟨_, _, _, _, rfl, _⟩ := h; rfl; done) | (obtain ⟨_, _, _, _, _, rfl, _⟩ := h; rfl; done) | (obtain ⟨_, _, _, _, _, _, rfl, _⟩ := h; rfl; done) | (obtain ⟨_, _, _, _, _, _, _, rfl, _⟩ := h; rfl; done) | (obtain ⟨_, _, _, _, _, _, _, _, rfl, _⟩ := h; rfl; done) | (obtain ⟨_, _, _, _, _, _, _, _, _, rfl, _⟩ := h; rfl; done) | (obtain ⟨_, _, _, _, _, _, _, _, _, _, rfl, _⟩ := h; rfl; done) | (obtain ⟨_, _, _, _, _, _, _, _, _, _, _, rfl, _⟩ := h; rfl; done) | (obtain ⟨_, _, _, _, _, _, _, _, _, _, _, _, rfl, _⟩ := h; rfl; done) | (obtain ⟨_, _, _, _, _, _, _, _, _, _, _, _, _, rfl, _⟩ := h; rfl; done) | (obtain ⟨_, _, _, _, _, _, _, _, _, _, _, _, _, _, rfl, _⟩ := h; rfl; done)))) (fun cdv A outer s H vs Q E hr h => ⟨t__law_one K a, ?_, rd vs H Q E h⟩)
  exact (pss_one (ps_ret (pe_ix ix_list (pv 1) (pe_call G__law_pull (hr.mono (by decide)) rfl T.g__law_pull T.F__law_pull.kp T.b__law_pull .nil pass0 (pa_cons (pv 0) (pa_cons (pe_callB call_len_seq (by rfl) T.n_len (by decide +kernel) (pa_cons (pv 1) pa_nil)) pa_nil))) (fun _ _ => rfl))))
theorem ok__law_bytes (T : Txt K mg a)
    (G__law_pull : FnOk P a.w K mg base CX0 1 a.f__law_pull a.d__law_pull P__law_pull (sp__law_pull K a))
    (rd : RD (sp__law_bytes K a) (t__law_bytes K a) N__law_bytes) :
    FnOk P a.w K mg base CX0 2 a.f__law_bytes a.d__law_bytes P__law_bytes (sp__law_bytes K a) := by
  have nd := sc__law_bytes.nd
  refine T.F__law_bytes.ok sc__law_bytes (fun vs H Q E h => by first | (obtain ⟨rfl, _⟩ := h; rfl; done) | (obtain ⟨_, rfl, _⟩ := h; rfl; done) | (obtain ⟨_, _, rfl, _⟩ := h; rfl; done) | (obtain ⟨_, _, _, rfl, _⟩ := h; rfl; done) | (obtain ⟨_, _, _, _, rfl, _⟩ := h; rfl; done) | (obtain ⟨_, _, _, _, _, rfl, _⟩ := h; rfl; done) | (obtain ⟨_, _, _, _, _, _, rfl, _⟩ := h; rfl; done) | (obtain ⟨_, _, _, _, _, _, _, rfl, _⟩ := h; rfl; done) | (obtain ⟨_, _, _, _, _, _, _, _, rfl, _⟩ := h; rfl; done) | (obtain ⟨_, _, _, _, _, _, _, _, _, rfl, _⟩ := h; rfl; done) | (obtain ⟨_, _, _, _, _, _, _, _, _, _, rfl, _⟩ := h; rfl; done) | (obtain ⟨_, _, _, _, _, _, _, _, _, _, _, rfl, _⟩ := h; rfl; done) | (obtain ⟨_, _, _, _, _, _, _, _, _, _, _, _, rfl, _⟩ := h; rfl; done) | (obtain ⟨_, _, _, _, _, _, _, _, _, _, _, _, _, rfl, _⟩ := h; rfl; done) | (obtain ⟨_, _, _, _, _, _, _, _, _, _, _, _, _, _, rfl, _⟩ := h; rfl; done) | (rcases h with ⟨_, rfl, _⟩ | ⟨_, rfl, _⟩ <;> rfl; done) | (rcases h with ⟨_, rfl, _⟩ | ⟨_, _, rfl, _⟩ <;> rfl; done) | (rcases h with ⟨_, rfl, _⟩ | ⟨_, _, _, rfl, _⟩ <;> rfl; done) | (rcases h with ⟨_, rfl, _⟩ | ⟨_, _, _, _, rfl, _⟩ <;> rfl; done) | (rcases h with ⟨_, rfl, _⟩ | ⟨_, _, _, _, _, rfl, _⟩ <;> rfl; done) | (rcases h with ⟨_, rfl, _⟩ | ⟨_, _, _, _, _, _, rfl, _⟩ <;> rfl; done) | (rcases h with ⟨_, _, rfl, _⟩ | ⟨_, rfl, _⟩ <;> rfl; done) | (rcases h with ⟨_, _, rfl, _⟩ | ⟨_, _, rfl, _⟩ <;> rfl; done) | (rcases h with ⟨_, _, rfl, _⟩ | ⟨_, _, _, rfl, _⟩ <;> rfl; done) | (rcases h with ⟨_, _, rfl, _⟩ | ⟨_, _, _, _, rfl, _⟩ <;> rfl; done) | (rcases h with ⟨_, _, rfl, _⟩ | ⟨_, _, _, _, _, rfl, _⟩ <;> rfl; done) | (rcases h with ⟨_, _, rfl, _⟩ | ⟨_, _, _, _, _, _, rfl, _⟩ <;> rfl; done) | (rcases h with ⟨_, _, _, rfl, _⟩ | ⟨_, rfl, _⟩ <;> rfl; done) | (rcases h with ⟨_, _, _, rfl, _⟩ | ⟨_, _, rfl, _⟩ <;> rfl; done) | (rcases h with ⟨_, _, _, rfl, _⟩ | ⟨_, _, _, rfl, _⟩ <;> rfl; done) | (rcases h with ⟨_, _, _, rfl, _⟩ | ⟨_, _, _, _, rfl, _⟩ <;> rfl; done) | (rcases h with ⟨_, _, _, rfl, _⟩ | ⟨_, _, _, _, _, rfl, _⟩ <;> rfl; done) | (rcases h with ⟨_, _, _, rfl, _⟩ | ⟨_, _, _, _, _, _, rfl, _⟩ <;> rfl; done) | (rcases h with ⟨_, _, _, _, rfl, _⟩ | ⟨_, rfl, _⟩ <;> rfl; done) | (rcases h with ⟨_, _, _, _, rfl, _⟩ | ⟨_, _, rfl, _⟩ <;> rfl; done) | (rcases h with ⟨_, _, _, _, rfl, _⟩ | ⟨_, _, _, rfl, _⟩ <;> rfl; done) | (rcases h with ⟨_, _, _, _, rfl, _⟩ | ⟨_, _, _, _, rfl, _⟩ <;> rfl; done) | (rcases h with ⟨_, _, _, _, rfl, _⟩ | ⟨_, _, _, _, _, rfl, _⟩ <;> rfl; done) | (rcases h with ⟨_, _, _, _, rfl, _⟩ | ⟨_, _, _, _, _, _, rfl, _⟩ <;> rfl; done) | (rcases h with ⟨_, _, _, _, _, rfl, _⟩ | ⟨_, rfl, _⟩ <;> rfl; done) | (rcases h with ⟨_, _, _, _, _, rfl, _⟩ | ⟨_, _, rfl, _⟩ <;> rfl; done) | (rcases h with ⟨_, _, _, _, _, rfl, _⟩ | ⟨_, _, _, rfl, _⟩ <;> rfl; done) | (rcases h with ⟨_, _, _, _, _, rfl, _⟩ | ⟨_, _, _, _, rfl, _⟩ <;> rfl; done) | (rcases h with ⟨_, _, _, _, _, rfl, _⟩ | ⟨_, _, _, _, _, rfl, _⟩ <;> rfl; done) | (rcases h with ⟨_, _, _, _, _, rfl, _⟩ | ⟨_, _, _, _, _, _, rfl, _⟩ <;> rfl; done) | (rcases h with ⟨_, _, _, _, _, _, rfl, _⟩ | ⟨_, rfl, _⟩ <;> rfl; done) | (rcases h with ⟨_, _, _, _, _, _, rfl, _⟩ | ⟨_, _, rfl, _⟩ <;> rfl; done) | (rcases h with ⟨_, _, _, _, _, _, rfl, _⟩ | ⟨_, _, _, rfl, _⟩ <;> rfl; done) | (rcases h with ⟨_, _, _, _, _, _, rfl, _⟩ | ⟨_, _, _, _, rfl, _⟩ <;> rfl; done) | (rcases h with ⟨_, _, _, _, _, _, rfl, _⟩ | ⟨_, _, _, _, _, rfl, _⟩ <;> rfl; done) | (rcases h with ⟨_, _, _, _, _, _, rfl, _⟩ | ⟨_, _, _, _, _, _, rfl, _⟩ <;> rfl; done) | (rcases h with ⟨_, rfl, _⟩ | ⟨_, _, rfl, _⟩ <;> rfl) | (rcases h with ⟨_, rfl, _⟩ | ⟨_, rfl, _⟩ <;> rfl) | (rcases h with h | h | h <;> (first | (obtain ⟨rfl, _⟩ := h; rfl; done) | (obtain ⟨_, rfl, _⟩ := h; rfl; done) | (obtain ⟨_, _, rfl, _⟩ := h; rfl; done) | (obtain ⟨_, _, _, rfl, _⟩ := h; rfl; done) | (obtain ⟨_, _, _, _, rfl, _⟩ := h; rfl; done) | (obtain ⟨_, _, _, _, _, rfl, _⟩ := h; rfl; done) | (obtain ⟨_, _, _, _, _, _, rfl, _⟩ := h; rfl; done) | (obtain ⟨_, _, _, _, _, _, _, rfl, _⟩ := h; rfl; done) | (obtain ⟨_, _, _, _, _, _, _, _, rfl, _⟩ := h; rfl; done) | (obtain ⟨_, _, _, _, _, _, _, _, _, rfl, _⟩ := h; rfl; done) | (obtain ⟨_, _, _, _, _, _, _, _, _, _, rfl, _⟩ := h; rfl; done) | (obtain ⟨_, _, _, _, _, _, _, _, _, _, _, rfl, _⟩ := h; rfl; done) | (obtain ⟨_, _, _, _, _, _, _, _, _, _, _, _, rfl, _⟩ := h; rfl; done) | (obtain ⟨_, _, _, _, _, _, _, _, _, _, _, _, _, rfl, _⟩ := h; rfl; done) | (obtain ⟨_, _, _, _, _, _, _, _, _, _, _, _, _, _, rfl, _⟩ := h; rfl; done)))) (fun cdv A outer s H vs Q E hr h => ⟨t__law_bytes K a, ?_, rd vs H Q E h⟩)
  exact (pss_cons (ps_set (i := 2) nd rfl (by first | exact Or.inl rfl | exact Or.inr rfl) (pe_call G__law_pull (hr.mono (by decide)) rfl T.g__law_pull T.F__law_pull.kp T.b__law_pull .nil pass0 (pa_cons (pv 0) (pa_cons (pe_op op_add (pv 1) pe_int) pa_nil))))
      (pss_cons (ps_if (pt_cmpR op_eq (pe_call G__law_pull (hr.mono (by decide)) rfl T.g__law_pull T.F__law_pull.kp T.b__law_pull .nil pass0 (pa_cons (pv 0) (pa_cons pe_int pa_nil))) pe_int (nomark _)) (pss_one (ps_ret (pe_op op_repT2 (pe_tup (pa_cons (pe_call G__law_pull (hr.mono (by decide)) rfl T.g__law_pull T.F__law_pull.kp T.b__law_pull .nil pass0 (pa_cons (pv 0) (pa_cons pe_int pa_nil))) pa_nil)) (pv 2)))) pss_nil)
      (pss_one (ps_ret (pe_callTy call_tuple_of (by rfl) T.n_tuple (by decide +kernel) (pa_cons (pe_lc (own := [("_law_k", 3)]) (g := (gName 3)) (tt := tYes) (te := (tCall (sp__law_pull K a) [] E0 (tCons (tVar 0) (tCons (tC (.int 256)) tNil)))) rfl nd (pi_range1 rfl T.n_range (pa_cons (pv 2) pa_nil)) (blkOk_by (N := N__law_bytes) (sc := defScope s__law_bytes) (by decide +kernel)) (fun _ _ _ _ _ => (pg_name (i := 3) nd rfl (by first | exact Or.inl rfl | exact Or.inr rfl))) (fun _ _ _ _ _ => pts_nil) (fun _ _ _ _ _ => (pe_call G__law_pull (hr.mono (by decide)) rfl T.g__law_pull T.F__law_pull.kp T.b__law_pull .nil pass0 (pa_cons (pv 0) (pa_cons pe_int pa_nil))))) pa_nil))))))
theorem ok__law_turn (T : Txt K mg a)
    (G__law_bytes : FnOk P a.w K mg base CX0 2 a.f__law_bytes a.d__law_bytes P__law_bytes (sp__law_bytes K a))
    (G__law_one : FnOk P a.w K mg base CX0 2 a.f__law_one a.d__law_one P__law_one (sp__law_one K a))
    (G__law_pull : FnOk P a.w K mg base CX0 1 a.f__law_pull a.d__law_pull P__law_pull (sp__law_pull K a))
    (rd : RD (sp__law_turn K a) (t__law_turn K a) N__law_turn) :
    FnOk P a.w K mg base CX0 3 a.f__law_turn a.d__law_turn P__law_turn (sp__law_turn K a) := by
  have nd := sc__law_turn.nd
  refine T.F__law_turn.ok sc__law_turn (fun vs H Q E h => by first | (obtain ⟨rfl, _⟩ := h; rfl; done) | (obtain ⟨_, rfl, _⟩ := h; rfl; done) | (obtain ⟨_, _, rfl, _⟩ := h; rfl; done) | (obtain ⟨_, _, _, rfl, _⟩ := h; rfl; done) | (obtain ⟨_, _, _, _, rfl, _⟩ := h; rfl; done) | (obtain ⟨_, _, _, _, _, rfl, _⟩ := h; rfl; done) | (obtain ⟨_, _, _, _, _, _, rfl, _⟩ := h; rfl; done) | (obtain ⟨_, _, _, _, _, _, _, rfl, _⟩ := h; rfl; done) | (obtain ⟨_, _, _, _, _, _, _, _, rfl, _⟩ := h; rfl; done) | (obtain ⟨_, _, _, _, _, _, _, _, _, rfl, _⟩ := h; rfl; done) | (obtain ⟨_, _, _, _, _, _, _, _, _, _, rfl, _⟩ := h; rfl; done) | (obtain ⟨_, _, _, _, _, _, _, _, _, _, _, rfl, _⟩ := h; rfl; done) | (obtain ⟨_, _, _, _, _, _, _, _, _, _, _, _, rfl, _⟩ := h; rfl; done) | (obtain ⟨_, _, _, _, _, _, _, _, _, _, _, _, _, rfl, _⟩ := h; rfl; done) | (obtain ⟨_, _, _, _, _, _, _, _, _, _, _, _, _, _, rfl, _⟩ := h; rfl; done) | (rcases h with ⟨_, rfl, _⟩ | ⟨_, rfl, _⟩ <;> rfl; done) | (rcases h with ⟨_, rfl, _⟩ | ⟨_, _, rfl, _⟩ <;> rfl; done) | (rcases h with ⟨_, rfl, _⟩ | ⟨_, _, _, rfl, _⟩ <;> rfl; done) | (rcases h with ⟨_, rfl, _⟩ | ⟨_, _, _, _, rfl, _⟩ <;> rfl; done) | (rcases h with ⟨_, rfl, _⟩ | ⟨_, _, _, _, _, rfl, _⟩ <;> rfl; done) | (rcases h with ⟨_, rfl, _⟩ | ⟨_, _, _, _, _, _, rfl, _⟩ <;> rfl; done) | (rcases h with ⟨_, _, rfl, _⟩ | ⟨_, rfl, _⟩ <;> rfl; done) | (rcases h with ⟨_, _, rfl, _⟩ | ⟨_, _, rfl, _⟩ <;> rfl; done) | (rcases h with ⟨_, _, rfl, _⟩ | ⟨_, _, _, rfl, _⟩ <;> rfl; done) | (rcases h with ⟨_, _, rfl, _⟩ | ⟨_, _, _, _, rfl, _⟩ <;> rfl; done) | (rcases h with ⟨_, _, rfl, _⟩ | ⟨_, _, _, _, _, rfl, _⟩ <;> rfl; done) | (rcases h with ⟨_, _, rfl, _⟩ | ⟨_, _, _, _, _, _, rfl, _⟩ <;> rfl; done) | (rcases h with ⟨_, _, _, rfl, _⟩ | ⟨_, rfl, _⟩ <;> rfl; done) | (rcases h with ⟨_, _, _, rfl, _⟩ | ⟨_, _, rfl, _⟩ <;> rfl; done) | (rcases h with ⟨_, _, _, rfl, _⟩ | ⟨_, _, _, rfl, _⟩ <;> rfl; done) | (rcases h with ⟨_, _, _, rfl, _⟩ | ⟨_, _, _, _, rfl, _⟩ <;> rfl; done) | (rcases h with ⟨_, _, _, rfl, _⟩ | ⟨_, _, _, _, _, rfl, _⟩ <;> rfl; done) | (rcases h with ⟨_, _, _, rfl, _⟩ | ⟨_, _, _, _, _, _, rfl, _⟩ <;> rfl; done) | (rcases h with ⟨_, _, _, _, rfl, _⟩ | ⟨_, rfl, _⟩ <;> rfl; done) | (rcases h with ⟨_, _, _, _, rfl, _⟩ | ⟨_, _, rfl, _⟩ <;> rfl; done) | (rcases h with ⟨_, _, _, _, rfl, _⟩ | ⟨_, _, _, rfl, _⟩ <;> rfl; done) | (rcases h with ⟨_, _, _, _, rfl, _⟩ | ⟨_, _, _, _, rfl, _⟩ <;> rfl; done) | (rcases h with ⟨_, _, _, _, rfl, _⟩ | ⟨_, _, _, _, _, rfl, _⟩ <;> rfl; done) | (rcases h with ⟨_, _, _, _, rfl, _⟩ | ⟨_, _, _, _, _, _, rfl, _⟩ <;> rfl; done) | (rcases h with ⟨_, _, _, _, _, rfl, _⟩ | ⟨_, rfl, _⟩ <;> rfl; done) | (rcases h with ⟨_, _, _, _, _, rfl, _⟩ | ⟨_, _, rfl, _⟩ <;> rfl; done) | (rcases h with ⟨_, _, _, _, _, rfl, _⟩ | ⟨_, _, _, rfl, _⟩ <;> rfl; done) | (rcases h with ⟨_, _, _, _, _, rfl, _⟩ | ⟨_, _, _, _, rfl, _⟩ <;> rfl; done) | (rcases h with ⟨_, _, _, _, _, rfl, _⟩ | ⟨_, _, _, _, _, rfl, _⟩ <;> rfl; done) | (rcases h with ⟨_, _, _, _, _, rfl, _⟩ | ⟨_, _, _, _, _, _, rfl, _⟩ <;> rfl; done) | (rcases h with ⟨_, _, _, _, _, _, rfl, _⟩ | ⟨_, rfl, _⟩ <;> rfl; done) | (rcases h with ⟨_, _, _, _, _, _, rfl, _⟩ | ⟨_, _, rfl, _⟩ <;> rfl; done) | (rcases h with ⟨_, _, _, _, _, _, rfl, _⟩ | ⟨_, _, _, rfl, _⟩ <;> rfl; done) | (rcases h with ⟨_, _, _, _, _, _, rfl, _⟩ | ⟨_, _, _, _, rfl, _⟩ <;> rfl; done) | (rcases h with ⟨_, _, _, _, _, _, rfl, _⟩ | ⟨_, _, _, _, _, rfl, _⟩ <;> rfl; done) | (rcases h with ⟨_, _, _, _, _, _, rfl, _⟩ | ⟨_, _, _, _, _, _, rfl, _⟩ <;> rfl; done) | (rcases h with ⟨_, rfl, _⟩ | ⟨_, _, rfl, _⟩ <;> rfl) | (rcases h with ⟨_, rfl, _⟩ | ⟨_, rfl, _⟩ <;> rfl) | (rcases h with h | h | h <;> (first | (obtain ⟨rfl, _⟩ := h; rfl; done) | (obtain ⟨_, rfl, _⟩ := h; rfl; done) | (obtain ⟨_, _, rfl, _⟩ := h; rfl; done) | (obtain ⟨_, _, _, rfl, _⟩ := h; rfl; done) | (obtain ⟨_, _, _, _, rfl, _⟩ := h; rfl; done) | (obtain ⟨_, _, _, _, _, rfl, _⟩ := h; rfl; done) | (obtain ⟨_, _, _, _, _, _, rfl, _⟩ := h; rfl; done) | (obtain ⟨_, _, _, _, _, _, _, rfl, _⟩ := h; rfl; done) | (obtain ⟨_, _, _, _, _, _, _, _, rfl, _⟩ := h; rfl; done) | (obtain ⟨_, _, _, _, _, _, _, _, _, rfl, _⟩ := h; rfl; done) | (obtain ⟨_, _, _, _, _, _, _, _, _, _, rfl, _⟩ := h; rfl; done) | (obtain ⟨_, _, _, _, _, _, _, _, _, _, _, rfl, _⟩ := h; rfl; done) | (obtain ⟨_, _, _, _, _, _, _, _, _, _, _, _, rfl, _⟩ := h; rfl; done) | (obtain ⟨_, _, _, _, _, _, _, _, _, _, _, _, _, rfl, _⟩ := h; rfl; done) | (obtain ⟨_, _, _, _, _, _, _, _, _, _, _, _, _, _, rfl, _⟩ := h; rfl; done)))) (fun cdv A outer s H vs Q E hr h => ⟨t__law_turn K a, ?_, rd vs H Q E h⟩)
  exact (pss_cons (ps_par (i := 2) (j := 3) (by rfl) nd rfl rfl (by decide) rfl rfl (pa_cons (pe_call G__law_pull (hr.mono (by decide)) rfl T.g__law_pull T.F__law_pull.kp T.b__law_pull .nil pass0 (pa_cons (pv 0) (pa_cons pe_int pa_nil))) (pa_cons (pe_call G__law_pull (hr.mono (by decide)) rfl T.g__law_pull T.F__law_pull.kp T.b__law_pull .nil pass0 (pa_cons (pv 0) (pa_cons pe_int pa_nil))) pa_nil)) (by rfl))
      (pss_cons (ps_set (i := 4) nd rfl (by first | exact Or.inl rfl | exact Or.inr rfl) (pe_cmpR op_gt (pe_call G__law_pull (hr.mono (by decide)) rfl T.g__law_pull T.F__law_pull.kp T.b__law_pull .nil pass0 (pa_cons (pv 0) (pa_cons pe_int pa_nil))) pe_int (nomark _)))
      (pss_cons (ps_if (pt_cmpR op_eq (pe_call G__law_pull (hr.mono (by decide)) rfl T.g__law_pull T.F__law_pull.kp T.b__law_pull .nil pass0 (pa_cons (pv 0) (pa_cons pe_int pa_nil))) pe_int (nomark _)) (pss_cons (ps_set (i := 5) nd rfl (by first | exact Or.inl rfl | exact Or.inr rfl) (pe_lst (pa_cons (pe_tup (pa_cons (pv 1) (pa_cons pe_str (pa_cons (pe_tup (pa_cons pe_str (pa_cons (pv 2) (pa_cons (pv 3) pa_nil)))) (pa_cons (pv 4) pa_nil))))) pa_nil)))
      (pss_cons (ps_if (PW.pt (pw_and (pt_val (pv 4)) (pw_and1 (pt_cmpR op_gt (pe_call G__law_pull (hr.mono (by decide)) rfl T.g__law_pull T.F__law_pull.kp T.b__law_pull .nil pass0 (pa_cons (pv 0) (pa_cons pe_int pa_nil))) pe_int (nomark _))))) (pss_cons (ps_set (i := 6) nd rfl (by first | exact Or.inl rfl | exact Or.inr rfl) (pe_call G__law_one (hr.mono (by decide)) rfl T.g__law_one T.F__law_one.kp T.b__law_one .nil pass0 (pa_cons (pv 0) (pa_cons (pe_lst (pa_cons (pe_tup (pa_cons pe_str (pa_cons (pe_call G__law_pull (hr.mono (by decide)) rfl T.g__law_pull T.F__law_pull.kp T.b__law_pull .nil pass0 (pa_cons (pv 0) (pa_cons pe_int pa_nil))) (pa_cons (pe_call G__law_bytes (hr.mono (by decide)) rfl T.g__law_bytes T.F__law_bytes.kp T.b__law_bytes .nil pass0 (pa_cons (pv 0) (pa_cons pe_int pa_nil))) pa_nil)))) (pa_cons (pe_tup (pa_cons pe_str pa_nil)) (pa_cons (pe_tup (pa_cons pe_str pa_nil)) pa_nil)))) pa_nil))))
      (pss_cons (ps_set (i := 7) nd rfl (by first | exact Or.inl rfl | exact Or.inr rfl) (pe_cmpR op_gt (pe_call G__law_pull (hr.mono (by decide)) rfl T.g__law_pull T.F__law_pull.kp T.b__law_pull .nil pass0 (pa_cons (pv 0) (pa_cons pe_int pa_nil))) pe_int (nomark _)))
      (pss_cons (ps_expr (pe_bm PySem.F.plainAttrs_list PySem.F.slot_list_append PySem.F.type_list_append mt_append (pv 5) (pa_cons (pe_tup (pa_cons (pv 1) (pa_cons pe_str (pa_cons (pv 6) (pa_cons (pv 7) pa_nil))))) pa_nil)))
      (pss_one (ps_if (PW.pt (pw_and (pt_cmpR op_eq (pe_ix ix_tup (pv 6) pe_int (fun _ _ => rfl)) pe_str (nomark _)) (pw_and1 (pt_val (pv 7))))) (pss_one (ps_expr (pe_bm PySem.F.plainAttrs_list PySem.F.slot_list_append PySem.F.type_list_append mt_append (pv 5) (pa_cons (pe_tup (pa_cons (pv 1) (pa_cons pe_str (pa_cons (pe_tup (pa_cons pe_str pa_nil)) (pa_cons (pe_cmpR op_eq (pe_call G__law_pull (hr.mono (by decide)) rfl T.g__law_pull T.F__law_pull.kp T.b__law_pull .nil pass0 (pa_cons (pv 0) (pa_cons pe_int pa_nil))) pe_int (nomark _)) pa_nil))))) pa_nil)))) pss_nil))))) pss_nil)
      (pss_one (ps_ret (pv 5))))) pss_nil)
      (pss_cons (ps_set (i := 5) nd rfl (by first | exact Or.inl rfl | exact Or.inr rfl) (pe_lst (pa_cons (pe_tup (pa_cons (pv 1) (pa_cons pe_str (pa_cons (pe_tup (pa_cons (pe_call G__law_one (hr.mono (by decide)) rfl T.g__law_one T.F__law_one.kp T.b__law_one .nil pass0 (pa_cons (pv 0) (pa_cons (pe_lst (pa_cons pe_str (pa_cons pe_str pa_nil))) pa_nil))) (pa_cons (pv 2) (pa_cons (pv 3) pa_nil)))) (pa_cons (pv 4) pa_nil))))) pa_nil)))
      (pss_cons (ps_set (i := 7) nd rfl (by first | exact Or.inl rfl | exact Or.inr rfl) (pe_and (pv 4) (pe_one (pe_cmpR op_gt (pe_call G__law_pull (hr.mono (by decide)) rfl T.g__law_pull T.F__law_pull.kp T.b__law_pull .nil pass0 (pa_cons (pv 0) (pa_cons pe_int pa_nil))) pe_int (nomark _)))))
      (pss_cons (ps_expr (pe_bm PySem.F.plainAttrs_list PySem.F.slot_list_append PySem.F.type_list_append mt_append (pv 5) (pa_cons (pe_tup (pa_cons (pv 1) (pa_cons pe_str (pa_cons (pe_tup (pa_cons pe_str (pa_cons (pe_call G__law_pull (hr.mono (by decide)) rfl T.g__law_pull T.F__law_pull.kp T.b__law_pull .nil pass0 (pa_cons (pv 0) (pa_cons pe_int pa_nil))) (pa_cons (pe_call G__law_bytes (hr.mono (by decide)) rfl T.g__law_bytes T.F__law_bytes.kp T.b__law_bytes .nil pass0 (pa_cons (pv 0) (pa_cons pe_int pa_nil))) pa_nil)))) (pa_cons (pv 7) pa_nil))))) pa_nil)))
      (pss_cons (ps_if (PW.pt (pw_and (pt_val (pv 7)) (pw_and1 (pt_cmpR op_gt (pe_call G__law_pull (hr.mono (by decide)) rfl T.g__law_pull T.F__law_pull.kp T.b__law_pull .nil pass0 (pa_cons (pv 0) (pa_cons pe_int pa_nil))) pe_int (nomark _))))) (pss_one (ps_expr (pe_bm PySem.F.plainAttrs_list PySem.F.slot_list_append PySem.F.type_list_append mt_append (pv 5) (pa_cons (pe_tup (pa_cons (pv 1) (pa_cons pe_str (pa_cons (pe_tup (pa_cons (pe_call G__law_one (hr.mono (by decide)) rfl T.g__law_one T.F__law_one.kp T.b__law_one .nil pass0 (pa_cons (pv 0) (pa_cons (pe_lst (pa_cons pe_str (pa_cons pe_str (pa_cons pe_str pa_nil)))) pa_nil))) pa_nil)) (pa_cons (pe_cmpR op_eq (pe_call G__law_pull (hr.mono (by decide)) rfl T.g__law_pull T.F__law_pull.kp T.b__law_pull .nil pass0 (pa_cons (pv 0) (pa_cons pe_int pa_nil))) pe_int (nomark _)) pa_nil))))) pa_nil)))) pss_nil)
      (pss_one (ps_ret (pv 5))))))))))
theorem ok__law_made (T : Txt K mg a)
    (G__law_one : FnOk P a.w K mg base CX0 2 a.f__law_one a.d__law_one P__law_one (sp__law_one K a))
    (G__law_pull : FnOk P a.w K mg base CX0 1 a.f__law_pull a.d__law_pull P__law_pull (sp__law_pull K a))
    (G__law_turn : FnOk P a.w K mg base CX0 3 a.f__law_turn a.d__law_turn P__law_turn (sp__law_turn K a))
    (rd : RD (sp__law_made K a) (t__law_made K a) N__law_made) :
    FnOk P a.w K mg base CX0 4 a.f__law_made a.d__law_made P__law_made (sp__law_made K a) := by
  have nd := sc__law_made.nd
  refine T.F__law_made.ok sc__law_made (fun vs H Q E h => by first | (obtain ⟨rfl, _⟩ := h; rfl; done) | (obtain ⟨_, rfl, _⟩ := h; rfl; done) | (obtain ⟨_, _, rfl, _⟩ := h; rfl; done) | (obtain ⟨_, _, _, rfl, _⟩ := h; rfl; done) | (obtain ⟨_, _, _, _, rfl, _⟩ := h; rfl; done) | (obtain ⟨_, _, _, _, _, rfl, _⟩ := h; rfl; done) | (obtain ⟨_, _, _, _, _, _, rfl, _⟩ := h; rfl; done) | (obtain ⟨_, _, _, _, _, _, _, rfl, _⟩ := h; rfl; done) | (obtain ⟨_, _, _, _, _, _, _, _, rfl, _⟩ := h; rfl; done) | (obtain ⟨_, _, _, _, _, _, _, _, _, rfl, _⟩ := h; rfl; done) | (obtain ⟨_, _, _, _, _, _, _, _, _, _, rfl, _⟩ := h; rfl; done) | (obtain ⟨_, _, _, _, _, _, _, _, _, _, _, rfl, _⟩ := h; rfl; done) | (obtain ⟨_, _, _, _, _, _, _, _, _, _, _, _, rfl, _⟩ := h; rfl; done) | (obtain ⟨_, _, _, _, _, _, _, _, _, _, _, _, _, rfl, _⟩ := h; rfl; done) | (obtain ⟨_, _, _, _, _, _, _, _, _, _, _, _, _, _, rfl, _⟩ := h; rfl; done) | (rcases h with ⟨_, rfl, _⟩ | ⟨_, rfl, _⟩ <;> rfl; done) | (rcases h with ⟨_, rfl, _⟩ | ⟨_, _, rfl, _⟩ <;> rfl; done) | (rcases h with ⟨_, rfl, _⟩ | ⟨_, _, _, rfl, _⟩ <;> rfl; done) | (rcases h with ⟨_, rfl, _⟩ | ⟨_, _, _, _, rfl, _⟩ <;> rfl; done) | (rcases h with ⟨_, rfl, _⟩ | ⟨_, _, _, _, _, rfl, _⟩ <;> rfl; done) | (rcases h with ⟨_, rfl, _⟩ | ⟨_, _, _, _, _, _, rfl, _⟩ <;> rfl; done) | (rcases h with ⟨_, _, rfl, _⟩ | ⟨_, rfl, _⟩ <;> rfl; done) | (rcases h with ⟨_, _, rfl, _⟩ | ⟨_, _, rfl, _⟩ <;> rfl; done) | (rcases h with ⟨_, _, rfl, _⟩ | ⟨_, _, _, rfl, _⟩ <;> rfl; done) | (rcases h with ⟨_, _, rfl, _⟩ | ⟨_, _, _, _, rfl, _⟩ <;> rfl; done) | (rcases h with ⟨_, _, rfl, _⟩ | ⟨_, _, _, _, _, rfl, _⟩ <;> rfl; done) | (rcases h with ⟨_, _, rfl, _⟩ | ⟨_, _, _, _, _, _, rfl, _⟩ <;> rfl; done) | (rcases h with ⟨_, _, _, rfl, _⟩ | ⟨_, rfl, _⟩ <;> rfl; done) | (rcases h with ⟨_, _, _, rfl, _⟩ | ⟨_, _, rfl, _⟩ <;> rfl; done) | (rcases h with ⟨_, _, _, rfl, _⟩ | ⟨_, _, _, rfl, _⟩ <;> rfl; done) | (rcases h with ⟨_, _, _, rfl, _⟩ | ⟨_, _, _, _, rfl, _⟩ <;> rfl; done) | (rcases h with ⟨_, _, _, rfl, _⟩ | ⟨_, _, _, _, _, rfl, _⟩ <;> rfl; done) | (rcases h with ⟨_, _, _, rfl, _⟩ | ⟨_, _, _, _, _, _, rfl, _⟩ <;> rfl; done) | (rcases h with ⟨_, _, _, _, rfl, _⟩ | ⟨_, rfl, _⟩ <;> rfl; done) | (rcases h with ⟨_, _, _, _, rfl, _⟩ | ⟨_, _, rfl, _⟩ <;> rfl; done) | (rcases h with ⟨_, _, _, _, rfl, _⟩ | ⟨_, _, _, rfl, _⟩ <;> rfl; done) | (rcases h with ⟨_, _, _, _, rfl, _⟩ | ⟨_, _, _, _, rfl, _⟩ <;> rfl; done) | (rcases h with ⟨_, _, _, _, rfl, _⟩ | ⟨_, _, _, _, _, rfl, _⟩ <;> rfl; done) | (rcases h with ⟨_, _, _, _, rfl, _⟩ | ⟨_, _, _, _, _, _, rfl, _⟩ <;> rfl; done) | (rcases h with ⟨_, _, _, _, _, rfl, _⟩ | ⟨_, rfl, _⟩ <;> rfl; done) | (rcases h with ⟨_, _, _, _, _, rfl, _⟩ | ⟨_, _, rfl, _⟩ <;> rfl; done) | (rcases h with ⟨_, _, _, _, _, rfl, _⟩ | ⟨_, _, _, rfl, _⟩ <;> rfl; done) | (rcases h with ⟨_, _, _, _, _, rfl, _⟩ | ⟨_, _, _, _, rfl, _⟩ <;> rfl; done) | (rcases h with ⟨_, _, _, _, _, rfl, _⟩ | ⟨_, _, _, _, _, rfl, _⟩ <;> rfl; done) | (rcases h with ⟨_, _, _, _, _, rfl, _⟩ | ⟨_, _, _, _, _, _, rfl, _⟩ <;> rfl; done) | (rcases h with ⟨_, _, _, _, _, _, rfl, _⟩ | ⟨_, rfl, _⟩ <;> rfl; done) | (rcases h with ⟨_, _, _, _, _, _, rfl, _⟩ | ⟨_, _, rfl, _⟩ <;> rfl; done) | (rcases h with ⟨_, _, _, _, _, _, rfl, _⟩ | ⟨_, _, _, rfl, _⟩ <;> rfl; done) | (rcases h with ⟨_, _, _, _, _, _, rfl, _⟩ | ⟨_, _, _, _, rfl, _⟩ <;> rfl; done) | (rcases h with ⟨_, _, _, _, _, _, rfl, _⟩ | ⟨_, _, _, _, _, rfl, _⟩ <;> rfl; done) | (rcases h with ⟨_, _, _, _, _, _, rfl, _⟩ | ⟨_, _, _, _, _, _, rfl, _⟩ <;> rfl; done) | (rcases h with ⟨_, rfl, _⟩ | ⟨_, _, rfl, _⟩ <;> rfl) | (rcases h with ⟨_, rfl, _⟩ | ⟨_, rfl, _⟩ <;> rfl) | (rcases h with h | h | h <;> (first | (obtain ⟨rfl, _⟩ := h; rfl; done) | (obtain ⟨_, rfl, _⟩ := h; rfl; done) | (obtain ⟨_, _, rfl, _⟩ := h; rfl; done) | (obtain ⟨_, _, _, rfl, _⟩ := h; rfl; done) | (obtain ⟨_, _, _, _, rfl, _⟩ := h; rfl; done) | (obtain ⟨_, _, _, _, _, rfl, _⟩ := h; rfl; done) | (obtain ⟨_, _, _, _, _, _, rfl, _⟩ := h; rfl; done) | (obtain ⟨_, _, _, _, _, _, _, rfl, _⟩ := h; rfl; done) | (obtain ⟨_, _, _, _, _, _, _, _, rfl, _⟩ := h; rfl; done) | (obtain ⟨_, _, _, _, _, _, _, _, _, rfl, _⟩ := h; rfl; done) | (obtain ⟨_, _, _, _, _, _, _, _, _, _, rfl, _⟩ := h; rfl; done) | (obtain ⟨_, _, _, _, _, _, _, _, _, _, _, rfl, _⟩ := h; rfl; done) | (obtain ⟨_, _, _, _, _, _, _, _, _, _, _, _, rfl, _⟩ := h; rfl; done) | (obtain ⟨_, _, _, _, _, _, _, _, _, _, _, _, _, rfl, _⟩ := h; rfl; done) | (obtain ⟨_, _, _, _, _, _, _, _, _, _, _, _, _, _, rfl, _⟩ := h; rfl; done)))) (fun cdv A outer s H vs Q E hr h => ⟨t__law_made K a, ?_, rd vs H Q E h⟩)
  exact (pss_cons (ps_set (i := 1) nd rfl (by first | exact Or.inl rfl | exact Or.inr rfl) (pe_call G__law_one (hr.mono (by decide)) rfl T.g__law_one T.F__law_one.kp T.b__law_one .nil pass0 (pa_cons (pv 0) (pa_cons (pe_lst (pa_cons pe_int (pa_cons pe_int (pa_cons pe_int (pa_cons pe_int (pa_cons pe_int pa_nil)))))) pa_nil))))
      (pss_cons (ps_set (i := 2) nd rfl (by first | exact Or.inl rfl | exact Or.inr rfl) (pe_lst pa_nil))
      (pss_cons (ps_for PassesOwn.never rfl (pi_range1 rfl T.n_range (pa_cons (pe_call G__law_pull (hr.mono (by decide)) rfl T.g__law_pull T.F__law_pull.kp T.b__law_pull .nil pass0 (pa_cons (pv 0) (pa_cons pe_int pa_nil))) pa_nil)) (pg_name (i := 3) nd rfl (by first | exact Or.inl rfl | exact Or.inr rfl)) (pss_cons (ps_expr (pe_bm PySem.F.plainAttrs_list PySem.F.slot_list_append PySem.F.type_list_append mt_append (pv 2) (pa_cons (pe_tup (pa_cons (pv 1) (pa_cons pe_str (pa_cons (pe_tup (pa_cons pe_str (pa_cons (pe_op op_mod (pv 1) pe_int) pa_nil))) (pa_cons (pe_cmpR op_gt (pe_call G__law_pull (hr.mono (by decide)) rfl T.g__law_pull T.F__law_pull.kp T.b__law_pull .nil pass0 (pa_cons (pv 0) (pa_cons pe_int pa_nil))) pe_int (nomark _)) pa_nil))))) pa_nil)))
      (pss_cons (ps_for PassesOwn.never rfl (pi_range1 rfl T.n_range (pa_cons (pe_call G__law_pull (hr.mono (by decide)) rfl T.g__law_pull T.F__law_pull.kp T.b__law_pull .nil pass0 (pa_cons (pv 0) (pa_cons (pe_ix ix_list (pe_lst (pa_cons pe_int (pa_cons pe_int pa_nil))) (pe_callTy call_int1 (by rfl) T.n_int (by decide +kernel) (pa_cons (pe_cmpR op_eq (pe_call G__law_pull (hr.mono (by decide)) rfl T.g__law_pull T.F__law_pull.kp T.b__law_pull .nil pass0 (pa_cons (pv 0) (pa_cons pe_int pa_nil))) pe_int (nomark _)) pa_nil)) (fun _ _ => rfl)) pa_nil))) pa_nil)) (pg_name (i := 4) nd rfl (by first | exact Or.inl rfl | exact Or.inr rfl)) (pss_one (ps_set (i := 2) nd rfl (by first | exact Or.inl rfl | exact Or.inr rfl) (pe_op op_cat (pv 2) (pe_call G__law_turn (hr.mono (by decide)) rfl T.g__law_turn T.F__law_turn.kp T.b__law_turn .nil pass0 (pa_cons (pv 0) (pa_cons (pv 1) pa_nil)))))))
      (pss_one (ps_set (i := 1) nd rfl (by first | exact Or.inl rfl | exact Or.inr rfl) (pe_op op_add (pv 1) pe_int))))))
      (pss_one (ps_ret (pv 2))))))
theorem ok__law_after (T : Txt K mg a)
    (rd : RD (sp__law_after K a) (t__law_after K a) N__law_after) :
    FnOk P a.w K mg base CX0 1 a.f__law_after a.d__law_after P__law_after (sp__law_after K a) := by
  have nd := sc__law_after.nd
  refine T.F__law_after.ok sc__law_after (fun vs H Q E h => by first | (obtain ⟨rfl, _⟩ := h; rfl; done) | (obtain ⟨_, rfl, _⟩ := h; rfl; done) | (obtain ⟨_, _, rfl, _⟩ := h; rfl; done) | (obtain ⟨_, _, _, rfl, _⟩ := h; rfl; done) | (obtain ⟨_, _, _, _, rfl, _⟩ := h; rfl; done) | (obtain ⟨_, _, _, _, _, rfl, _⟩ := h; rfl; done) | (obtain ⟨_, _, _, _, _, _, rfl, _⟩ := h; rfl; done) | (obtain ⟨_, _, _, _, _, _, _, rfl, _⟩ := h; rfl; done) | (obtain ⟨_, _, _, _, _, _, _, _, rfl, _⟩ := h; rfl; done) | (obtain ⟨_, _, _, _, _, _, _, _, _, rfl, _⟩ := h; rfl; done) | (obtain ⟨_, _, _, _, _, _, _, _, _, _, rfl, _⟩ := h; rfl; done) | (obtain ⟨_, _, _, _, _, _, _, _, _, _, _, rfl, _⟩ := h; rfl; done) | (obtain ⟨_, _, _, _, _, _, _, _, _, _, _, _, rfl, _⟩ := h; rfl; done) | (obtain ⟨_, _, _, _, _, _, _, _, _, _, _, _, _, rfl, _⟩ := h; rfl; done) | (obtain ⟨_, _, _, _, _, _, _, _, _, _, _, _, _, _, rfl, _⟩ := h; rfl; done) | (rcases h with ⟨_, rfl, _⟩ | ⟨_, rfl, _⟩ <;> rfl; done) | (rcases h with ⟨_, rfl, _⟩ | ⟨_, _, rfl, _⟩ <;> rfl; done) | (rcases h with ⟨_, rfl, _⟩ | ⟨_, _, _, rfl, _⟩ <;> rfl; done) | (rcases h with ⟨_, rfl, _⟩ | ⟨_, _, _, _, rfl, _⟩ <;> rfl; done) | (rcases h with ⟨_, rfl, _⟩ | ⟨_, _, _, _, _, rfl, _⟩ <;> rfl; done) | (rcases h with ⟨_, rfl, _⟩ | ⟨_, _, _, _, _, _, rfl, _⟩ <;> rfl; done) | (rcases h with ⟨_, _, rfl, _⟩ | ⟨_, rfl, _⟩ <;> rfl; done) | (rcases h with ⟨_, _, rfl, _⟩ | ⟨_, _, rfl, _⟩ <;> rfl; done) | (rcases h with ⟨_, _, rfl, _⟩ | ⟨_, _, _, rfl, _⟩ <;> rfl; done) | (rcases h with ⟨_, _, rfl, _⟩ | ⟨_, _, _, _, rfl, _⟩ <;> rfl; done) | (rcases h with ⟨_, _, rfl, _⟩ | ⟨_, _, _, _, _, rfl, _⟩ <;> rfl; done) | (rcases h with ⟨_, _, rfl, _⟩ | ⟨_, _, _, _, _, _, rfl, _⟩ <;> rfl; done) | (rcases h with ⟨_, _, _, rfl, _⟩ | ⟨_, rfl, _⟩ <;> rfl; done) | (rcases h with ⟨_, _, _, rfl, _⟩ | ⟨_, _, rfl, _⟩ <;> rfl; done) | (rcases h with ⟨_, _, _, rfl, _⟩ | ⟨_, _, _, rfl, _⟩ <;> rfl; done) | (rcases h with ⟨_, _, _, rfl, _⟩ | ⟨_, _, _, _, rfl, _⟩ <;> rfl; done) | (rcases h with ⟨_, _, _, rfl, _⟩ | ⟨_, _, _, _, _, rfl, _⟩ <;> rfl; done) | (rcases h with ⟨_, _, _, rfl, _⟩ | ⟨_, _, _, _, _, _, rfl, _⟩ <;> rfl; done) | (rcases h with ⟨_, _, _, _, rfl, _⟩ | ⟨_, rfl, _⟩ <;> rfl; done) | (rcases h with ⟨_, _, _, _, rfl, _⟩ | ⟨_, _, rfl, _⟩ <;> rfl; done) | (rcases h with ⟨_, _, _, _, rfl, _⟩ | ⟨_, _, _, rfl, _⟩ <;> rfl; done) | (rcases h with ⟨_, _, _, _, rfl, _⟩ | ⟨_, _, _, _, rfl, _⟩ <;> rfl; done) | (rcases h with ⟨_, _, _, _, rfl, _⟩ | ⟨_, _, _, _, _, rfl, _⟩ <;> rfl; done) | (rcases h with ⟨_, _, _, _, rfl, _⟩ | ⟨_, _, _, _, _, _, rfl, _⟩ <;> rfl; done) | (rcases h with ⟨_, _, _, _, _, rfl, _⟩ | ⟨_, rfl, _⟩ <;> rfl; done) | (rcases h with ⟨_, _, _, _, _, rfl, _⟩ | ⟨_, _, rfl, _⟩ <;> rfl; done) | (rcases h with ⟨_, _, _, _, _, rfl, _⟩ | ⟨_, _, _, rfl, _⟩ <;> rfl; done) | (rcases h with ⟨_, _, _, _, _, rfl, _⟩ | ⟨_, _, _, _, rfl, _⟩ <;> rfl; done) | (rcases h with ⟨_, _, _, _, _, rfl, _⟩ | ⟨_, _, _, _, _, rfl, _⟩ <;> rfl; done) | (rcases h with ⟨_, _, _, _, _, rfl, _⟩ | ⟨_, _, _, _, _, _, rfl, _⟩ <;> rfl; done) | (rcases h with ⟨_, _, _, _, _, _, rfl, _⟩ | ⟨_, rfl, _⟩ <;> rfl; done) | (rcases h with ⟨_, _, _, _, _, _, rfl, _⟩ | ⟨_, _, rfl, _⟩ <;> rfl; done) | (rcases h with ⟨_, _, _, _, _, _, rfl, _⟩ | ⟨_, _, _, rfl, _⟩ <;> rfl; done) | (rcases h with ⟨_, _, _, _, _, _, rfl, _⟩ | ⟨_, _, _, _, rfl, _⟩ <;> rfl; done) | (rcases h with ⟨_, _, _, _, _, _, rfl, _⟩ | ⟨_, _, _, _, _, rfl, _⟩ <;> rfl; done) | (rcases h with ⟨_, _, _, _, _, _, rfl, _⟩ | ⟨_, _, _, _, _, _, rfl, _⟩ <;> rfl; done) | (rcases h with ⟨_, rfl, _⟩ | ⟨_, _, rfl, _⟩ <;> rfl) | (rcases h with ⟨_, rfl, _⟩ | ⟨_, rfl, _⟩ <;> rfl) | (rcases h with h | h | h <;> (first | (obtain ⟨rfl, _⟩ := h; rfl; done) | (obtain ⟨_, rfl, _⟩ := h; rfl; done) | (obtain ⟨_, _, rfl, _⟩ := h; rfl; done) | (obtain ⟨_, _, _, rfl, _⟩ := h; rfl; done) | (obtain ⟨_, _, _, _, rfl, _⟩ := h; rfl; done) | (obtain ⟨_, _, _, _, _, rfl, _⟩ := h; rfl; done) | (obtain ⟨_, _, _, _, _, _, rfl, _⟩ := h; rfl; done) | (obtain ⟨_, _, _, _, _, _, _, rfl, _⟩ := h; rfl; done) | (obtain ⟨_, _, _, _, _, _, _, _, rfl, _⟩ := h; rfl; done) | (obtain ⟨_, _, _, _, _, _, _, _, _, rfl, _⟩ := h; rfl; done) | (obtain ⟨_, _, _, _, _, _, _, _, _, _, rfl, _⟩ := h; rfl; done) | (obtain ⟨_, _, _, _, _, _, _, _, _, _, _, rfl, _⟩ := h; rfl; done) | (obtain ⟨_, _, _, _, _, _, _, _, _, _, _, _, rfl, _⟩ := h; rfl; done) | (obtain ⟨_, _, _, _, _, _, _, _, _, _, _, _, _, rfl, _⟩ := h; rfl; done) | (obtain ⟨_, _, _, _, _, _, _, _, _, _, _, _, _, _, rfl, _⟩ := h; rfl; done)))) (fun cdv A outer s H vs Q E hr h => ⟨t__law_after K a, ?_, rd vs H Q E h⟩)
  exact (pss_cons (ps_asg (pv 0) (pg_tup rfl (pgs_cons (pg_name (i := 1) nd rfl (by first | exact Or.inl rfl | exact Or.inr rfl)) (pgs_cons (pg_name (i := 2) nd rfl (by first | exact Or.inl rfl | exact Or.inr rfl)) (pgs_cons (pg_name (i := 3) nd rfl (by first | exact Or.inl rfl | exact Or.inr rfl)) (pgs_cons (pg_name (i := 4) nd rfl (by first | exact Or.inl rfl | exact Or.inr rfl)) pgs_nil))))))
      (pss_cons (ps_set (i := 5) nd rfl (by first | exact Or.inl rfl | exact Or.inr rfl) (pe_lst (pa_cons pe_str (pa_cons pe_str (pa_cons pe_str (pa_cons pe_str pa_nil))))))
      (pss_cons (ps_if (pt_cmpR op_in_seq (pe_ix ix_tup (pv 3) pe_int (fun _ _ => rfl)) (pe_tup (pa_cons pe_str (pa_cons pe_str pa_nil))) (by rfl)) (pss_one (ps_ret (pe_lst (pa_cons pe_str pa_nil)))) pss_nil)
      (pss_cons (ps_if (PW.pt (pw_and (pt_cmpR op_eq (pe_ix ix_tup (pv 3) pe_int (fun _ _ => rfl)) pe_str (nomark _)) (pw_and1 (pt_val (pv 4))))) (pss_one (ps_ret (pe_op op_cat (pv 5) (pe_lst (pa_cons pe_str (pa_cons pe_str (pa_cons pe_str pa_nil))))))) pss_nil)
      (pss_cons (ps_if (PW.pt (pw_and (pt_cmpR op_eq (pe_ix ix_tup (pv 3) pe_int (fun _ _ => rfl)) pe_str (nomark _)) (pw_and1 (pt_val (pv 4))))) (pss_one (ps_ret (pe_ifExp (pt_cmpR op_eq (pv 2) pe_str (nomark _)) (pe_lst (pa_cons pe_str pa_nil)) (pe_op op_cat (pv 5) (pe_lst (pa_cons pe_str (pa_cons pe_str (pa_cons pe_str pa_nil)))))))) pss_nil)
      (pss_one (ps_ret (pv 5))))))))
theorem ok__law_shape (T : Txt K mg a)
    (rd : RD (sp__law_shape K a) (t__law_shape K a) N__law_shape) :
    FnOk P a.w K mg base CX0 1 a.f__law_shape a.d__law_shape P__law_shape (sp__law_shape K a) := by
  have nd := sc__law_shape.nd
  refine T.F__law_shape.ok sc__law_shape (fun vs H Q E h => by first | (obtain ⟨rfl, _⟩ := h; rfl; done) | (obtain ⟨_, rfl, _⟩ := h; rfl; done) | (obtain ⟨_, _, rfl, _⟩ := h; rfl; done) | (obtain ⟨_, _, _, rfl, _⟩ := h; rfl; done) | (obtain ⟨_, _, _, _, rfl, _⟩ := h; rfl; done) | (obtain ⟨_, _, _, _, _, rfl, _⟩ := h; rfl; done) | (obtain ⟨_, _, _, _, _, _, rfl, _⟩ := h; rfl; done) | (obtain ⟨_, _, _, _, _, _, _, rfl, _⟩ := h; rfl; done) | (obtain ⟨_, _, _, _, _, _, _, _, rfl, _⟩ := h; rfl; done) | (obtain ⟨_, _, _, _, _, _, _, _, _, rfl, _⟩ := h; rfl; done) | (obtain ⟨_, _, _, _, _, _, _, _, _, _, rfl, _⟩ := h; rfl; done) | (obtain ⟨_, _, _, _, _, _, _, _, _, _, _, rfl, _⟩ := h; rfl; done) | (obtain ⟨_, _, _, _, _, _, _, _, _, _, _, _, rfl, _⟩ := h; rfl; done) | (obtain ⟨_, _, _, _, _, _, _, _, _, _, _, _, _, rfl, _⟩ := h; rfl; done) | (obtain ⟨_, _, _, _, _, _, _, _, _, _, _, _, _, _, rfl, _⟩ := h; rfl; done) | (rcases h with ⟨_, rfl, _⟩ | ⟨_, rfl, _⟩ <;> rfl; done) | (rcases h with ⟨_, rfl, _⟩ | ⟨_, _, rfl, _⟩ <;> rfl; done) | (rcases h with ⟨_, rfl, _⟩ | ⟨_, _, _, rfl, _⟩ <;> rfl; done) | (rcases h with ⟨_, rfl, _⟩ | ⟨_, _, _, _, rfl, _⟩ <;> rfl; done) | (rcases h with ⟨_, rfl, _⟩ | ⟨_, _, _, _, _, rfl, _⟩ <;> rfl; done) | (rcases h with ⟨_, rfl, _⟩ | ⟨_, _, _, _, _, _, rfl, _⟩ <;> rfl; done) | (rcases h with ⟨_, _, rfl, _⟩ | ⟨_, rfl, _⟩ <;> rfl; done) | (rcases h with ⟨_, _, rfl, _⟩ | ⟨_, _, rfl, _⟩ <;> rfl; done) | (rcases h with ⟨_, _, rfl, _⟩ | ⟨_, _, _, rfl, _⟩ <;> rfl; done) | (rcases h with ⟨_, _, rfl, _⟩ | ⟨_, _, _, _, rfl, _⟩ <;> rfl; done) | (rcases h with ⟨_, _, rfl, _⟩ | ⟨_, _, _, _, _, rfl, _⟩ <;> rfl; done) | (rcases h with ⟨_, _, rfl, _⟩ | ⟨_, _, _, _, _, _, rfl, _⟩ <;> rfl; done) | (rcases h with ⟨_, _, _, rfl, _⟩ | ⟨_, rfl, _⟩ <;> rfl; done) | (rcases h with ⟨_, _, _, rfl, _⟩ | ⟨_, _, rfl, _⟩ <;> rfl; done) | (rcases h with ⟨_, _, _, rfl, _⟩ | ⟨_, _, _, rfl, _⟩ <;> rfl; done) | (rcases h with ⟨_, _, _, rfl, _⟩ | ⟨_, _, _, _, rfl, _⟩ <;> rfl; done) | (rcases h with ⟨_, _, _, rfl, _⟩ | ⟨_, _, _, _, _, rfl, _⟩ <;> rfl; done) | (rcases h with ⟨_, _, _, rfl, _⟩ | ⟨_, _, _, _, _, _, rfl, _⟩ <;> rfl; done) | (rcases h with ⟨_, _, _, _, rfl, _⟩ | ⟨_, rfl, _⟩ <;> rfl; done) | (rcases h with ⟨_, _, _, _, rfl, _⟩ | ⟨_, _, rfl, _⟩ <;> rfl; done) | (rcases h with ⟨_, _, _, _, rfl, _⟩ | ⟨_, _, _, rfl, _⟩ <;> rfl; done) | (rcases h with ⟨_, _, _, _, rfl, _⟩ | ⟨_, _, _, _, rfl, _⟩ <;> rfl; done) | (rcases h with ⟨_, _, _, _, rfl, _⟩ | ⟨_, _, _, _, _, rfl, _⟩ <;> rfl; done) | (rcases h with ⟨_, _, _, _, rfl, _⟩ | ⟨_, _, _, _, _, _, rfl, _⟩ <;> rfl; done) | (rcases h with ⟨_, _, _, _, _, rfl, _⟩ | ⟨_, rfl, _⟩ <;> rfl; done) | (rcases h with ⟨_, _, _, _, _, rfl, _⟩ | ⟨_, _, rfl, _⟩ <;> rfl; done) | (rcases h with ⟨_, _, _, _, _, rfl, _⟩ | ⟨_, _, _, rfl, _⟩ <;> rfl; done) | (rcases h with ⟨_, _, _, _, _, rfl, _⟩ | ⟨_, _, _, _, rfl, _⟩ <;> rfl; done) | (rcases h with ⟨_, _, _, _, _, rfl, _⟩ | ⟨_, _, _, _, _, rfl, _⟩ <;> rfl; done) | (rcases h with ⟨_, _, _, _, _, rfl, _⟩ | ⟨_, _, _, _, _, _, rfl, _⟩ <;> rfl; done) | (rcases h with ⟨_, _, _, _, _, _, rfl, _⟩ | ⟨_, rfl, _⟩ <;> rfl; done) | (rcases h with ⟨_, _, _, _, _, _, rfl, _⟩ | ⟨_, _, rfl, _⟩ <;> rfl; done) | (rcases h with ⟨_, _, _, _, _, _, rfl, _⟩ | ⟨_, _, _, rfl, _⟩ <;> rfl; done) | (rcases h with ⟨_, _, _, _, _, _, rfl, _⟩ | ⟨_, _, _, _, rfl, _⟩ <;> rfl; done) | (rcases h with ⟨_, _, _, _, _, _, rfl, _⟩ | ⟨_, _, _, _, _, rfl, _⟩ <;> rfl; done) | (rcases h with ⟨_, _, _, _, _, _, rfl, _⟩ | ⟨_, _, _, _, _, _, rfl, _⟩ <;> rfl; done) | (rcases h with ⟨_, rfl, _⟩ | ⟨_, _, rfl, _⟩ <;> rfl) | (rcases h with ⟨_, rfl, _⟩ | ⟨_, rfl, _⟩ <;> rfl) | (rcases h with h | h | h <;> (first | (obtain ⟨rfl, _⟩ := h; rfl; done) | (obtain ⟨_, rfl, _⟩ := h; rfl; done) | (obtain ⟨_, _, rfl, _⟩ := h; rfl; done) | (obtain ⟨_, _, _, rfl, _⟩ := h; rfl; done) | (obtain ⟨_, _, _, _, rfl, _⟩ := h; rfl; done) | (obtain ⟨_, _, _, _, _, rfl, _⟩ := h; rfl; done) | (obtain ⟨_, _, _, _, _, _, rfl, _⟩ := h; rfl; done) | (obtain ⟨_, _, _, _, _, _, _, rfl, _⟩ := h; rfl; done) | (obtain ⟨_, _, _, _, _, _, _, _, rfl, _⟩ := h; rfl; done) | (obtain ⟨_, _, _, _, _, _, _, _, _, rfl, _⟩ := h; rfl; done) | (obtain ⟨_, _, _, _, _, _, _, _, _, _, rfl, _⟩ := h; rfl; done) | (obtain ⟨_, _, _, _, _, _, _, _, _, _, _, rfl, _⟩ := h; rfl; done) | (obtain ⟨_, _, _, _, _, _, _, _, _, _, _, _, rfl, _⟩ := h; rfl; done) | (obtain ⟨_, _, _, _, _, _, _, _, _, _, _, _, _, rfl, _⟩ := h; rfl; done) | (obtain ⟨_, _, _, _, _, _, _, _, _, _, _, _, _, _, rfl, _⟩ := h; rfl; done)))) (fun cdv A outer s H vs Q E hr h => ⟨t__law_shape K a, ?_, rd vs H Q E h⟩)
  exact (pss_cons (ps_asg (pv 0) (pg_tup rfl (pgs_cons (pg_name (i := 1) nd rfl (by first | exact Or.inl rfl | exact Or.inr rfl)) (pgs_cons (pg_name (i := 2) nd rfl (by first | exact Or.inl rfl | exact Or.inr rfl)) (pgs_cons (pg_name (i := 3) nd rfl (by first | exact Or.inl rfl | exact Or.inr rfl)) (pgs_cons (pg_name (i := 4) nd rfl (by first | exact Or.inl rfl | exact Or.inr rfl)) pgs_nil))))))
      (pss_cons (ps_set (i := 5) nd rfl (by first | exact Or.inl rfl | exact Or.inr rfl) (pe_disp (pps_cons pe_str pe_int (pps_cons pe_str pe_int (pps_cons pe_str pe_int (pps_cons pe_str pe_int (pps_cons pe_str pe_int (pps_cons pe_str pe_int (pps_cons pe_str pe_int (pps_cons pe_str pe_int pps_nil)))))))) (by rfl) (by rfl) (fun z => by cases z) (by decide)))
      (pss_cons (ps_if (PW.pt (pw_or (pt_cmpR op_lt (pv 1) pe_int (nomark _)) (pw_or (pt_cmp (pc_dnotin (hu_of hr) (pe_ix ix_tup (pv 3) pe_int (fun _ _ => rfl)) (pv 5))) (pw_or1 (pt_cmpR op_ne (pe_callB call_len_seq (by rfl) T.n_len (by decide +kernel) (pa_cons (pv 3) pa_nil)) (pe_dget (hu_of hr) (pv 5) (pe_ix ix_tup (pv 3) pe_int (fun _ _ => rfl)) (fun _ _ => rfl)) (nomark _)))))) (pss_one (ps_ret pe_bl)) pss_nil)
      (pss_cons (ps_set (i := 6) nd rfl (by first | exact Or.inl rfl | exact Or.inr rfl) (pe_disp (pps_cons pe_str (pe_lst (pa_cons pe_str (pa_cons pe_str pa_nil))) (pps_cons pe_str (pe_lst (pa_cons pe_str (pa_cons pe_str pa_nil))) (pps_cons pe_str (pe_lst (pa_cons pe_str pa_nil)) (pps_cons pe_str (pe_lst (pa_cons pe_str pa_nil)) pps_nil)))) (by rfl) (by rfl) (fun z => by cases z) (by decide)))
      (pss_cons (ps_if (pt_cmpR op_notIn_seq (pv 2) (pe_dget2 (hu_of hr) (pv 6) (pe_ix ix_tup (pv 3) pe_int (fun _ _ => rfl)) (pe_lst (pa_cons pe_str pa_nil)) ⟨by rfl, by rfl, by rfl, by rfl⟩) (by rfl)) (pss_one (ps_ret pe_bl)) pss_nil)
      (pss_cons (ps_if (pt_cmpR op_eq (pe_ix ix_tup (pv 3) pe_int (fun _ _ => rfl)) pe_str (nomark _)) (pss_one (ps_ret (pe_cmpR op_eq (pe_ix ix_tup (pv 3) pe_int (fun _ _ => rfl)) (pe_op op_mod (pv 1) pe_int) (nomark _)))) pss_nil)
      (pss_cons (ps_if (pt_cmpR op_eq (pe_ix ix_tup (pv 3) pe_int (fun _ _ => rfl)) pe_str (nomark _)) (pss_one (ps_ret (pe_and (pe_cmpR op_in_seq (pe_ix ix_tup (pv 3) pe_int (fun _ _ => rfl)) (pe_tup (pa_cons pe_int (pa_cons pe_int pa_nil))) (by rfl)) (pe_and (pe_cmpR op_le (pe_callB call_len_seq (by rfl) T.n_len (by decide +kernel) (pa_cons (pe_ix ix_tup (pv 3) pe_int (fun _ _ => rfl)) pa_nil)) pe_int (nomark _)) (pe_one (pe_callB (cr_all rfl) (by rfl) T.n_all (by decide +kernel) (pa_cons (pe_lc (own := [("_law_byte", 7)]) (g := (gName 7)) (tt := tYes) (te := (tChain rLeI rLtI (tC (.int 0)) (tVar 7) (tC (.int 256)))) rfl nd (pi_tup (pe_ix ix_tup (pv 3) pe_int (fun _ _ => rfl))) (blkOk_by (N := N__law_shape) (sc := defScope s__law_shape) (by decide +kernel)) (fun _ _ _ _ _ => (pg_name (i := 7) nd rfl (by first | exact Or.inl rfl | exact Or.inr rfl))) (fun _ _ _ _ _ => pts_nil) (fun _ _ _ _ _ => (pe_chain op_le op_lt pe_int (pv 7) pe_int))) pa_nil))))))) pss_nil)
      (pss_one (ps_ret (pe_or (pe_cmpR op_eq (pe_callB call_len_seq (by rfl) T.n_len (by decide +kernel) (pa_cons (pv 3) pa_nil)) pe_int (nomark _)) (pe_one (pe_and (pe_chain op_le op_le pe_int (pe_ix ix_tup (pv 3) pe_int (fun _ _ => rfl)) pe_int) (pe_one (pe_chain op_le op_le pe_int (pe_ix ix_tup (pv 3) pe_int (fun _ _ => rfl)) pe_int))))))))))))))
theorem ok__law_wrong (T : Txt K mg a)
    (G__law_after : FnOk P a.w K mg base CX0 1 a.f__law_after a.d__law_after P__law_after (sp__law_after K a))
    (G__law_shape : FnOk P a.w K mg base CX0 1 a.f__law_shape a.d__law_shape P__law_shape (sp__law_shape K a))
    (rd : RD (sp__law_wrong K a) (t__law_wrong K a) N__law_wrong) :
    FnOk P a.w K mg base CX0 2 a.f__law_wrong a.d__law_wrong P__law_wrong (sp__law_wrong K a) := by
  have nd := sc__law_wrong.nd
  refine T.F__law_wrong.ok sc__law_wrong (fun vs H Q E h => by first | (obtain ⟨rfl, _⟩ := h; rfl; done) | (obtain ⟨_, rfl, _⟩ := h; rfl; done) | (obtain ⟨_, _, rfl, _⟩ := h; rfl; done) | (obtain ⟨_, _, _, rfl, _⟩ := h; rfl; done) | (obtain ⟨_, _, _, _, rfl, _⟩ := h; rfl; done) | (obtain ⟨_, _, _, _, _, rfl, _⟩ := h; rfl; done) | (obtain ⟨_, _, _, _, _, _, rfl, _⟩ := h; rfl; done) | (obtain ⟨_, _, _, _, _, _, _, rfl, _⟩ := h; rfl; done) | (obtain ⟨_, _, _, _, _, _, _, _, rfl, _⟩ := h; rfl; done) | (obtain ⟨_, _, _, _, _, _, _, _, _, rfl, _⟩ := h; rfl; done) | (obtain ⟨_, _, _, _, _, _, _, _, _, _, rfl, _⟩ := h; rfl; done) | (obtain ⟨_, _, _, _, _, _, _, _, _, _, _, rfl, _⟩ := h; rfl; done) | (obtain ⟨_, _, _, _, _, _, _, _, _, _, _, _, rfl, _⟩ := h; rfl; done) | (obtain ⟨_, _, _, _, _, _, _, _, _, _, _, _, _, rfl, _⟩ := h; rfl; done) | (obtain ⟨_, _, _, _, _, _, _, _, _, _, _, _, _, _, rfl, _⟩ := h; rfl; done) | (rcases h with ⟨_, rfl, _⟩ | ⟨_, rfl, _⟩ <;> rfl; done) | (rcases h with ⟨_, rfl, _⟩ | ⟨_, _, rfl, _⟩ <;> rfl; done) | (rcases h with ⟨_, rfl, _⟩ | ⟨_, _, _, rfl, _⟩ <;> rfl; done) | (rcases h with ⟨_, rfl, _⟩ | ⟨_, _, _, _, rfl, _⟩ <;> rfl; done) | (rcases h with ⟨_, rfl, _⟩ | ⟨_, _, _, _, _, rfl, _⟩ <;> rfl; done) | (rcases h with ⟨_, rfl, _⟩ | ⟨_, _, _, _, _, _, rfl, _⟩ <;> rfl; done) | (rcases h with ⟨_, _, rfl, _⟩ | ⟨_, rfl, _⟩ <;> rfl; done) | (rcases h with ⟨_, _, rfl, _⟩ | ⟨_, _, rfl, _⟩ <;> rfl; done) | (rcases h with ⟨_, _, rfl, _⟩ | ⟨_, _, _, rfl, _⟩ <;> rfl; done) | (rcases h with ⟨_, _, rfl, _⟩ | ⟨_, _, _, _, rfl, _⟩ <;> rfl; done) | (rcases h with ⟨_, _, rfl, _⟩ | ⟨_, _, _, _, _, rfl, _⟩ <;> rfl; done) | (rcases h with ⟨_, _, rfl, _⟩ | ⟨_, _, _, _, _, _, rfl, _⟩ <;> rfl; done) | (rcases h with ⟨_, _, _, rfl, _⟩ | ⟨_, rfl, _⟩ <;> rfl; done) | (rcases h with ⟨_, _, _, rfl, _⟩ | ⟨_, _, rfl, _⟩ <;> rfl; done) | (rcases h with ⟨_, _, _, rfl, _⟩ | ⟨_, _, _, rfl, _⟩ <;> rfl; done) | (rcases h with ⟨_, _, _, rfl, _⟩ | ⟨_, _, _, _, rfl, _⟩ <;> rfl; done) | (rcases h with ⟨_, _, _, rfl, _⟩ | ⟨_, _, _, _, _, rfl, _⟩ <;> rfl; done) | (rcases h with ⟨_, _, _, rfl, _⟩ | ⟨_, _, _, _, _, _, rfl, _⟩ <;> rfl; done) | (rcases h with ⟨_, _, _, _, rfl, _⟩ | ⟨_, rfl, _⟩ <;> rfl; done) | (rcases h with ⟨_, _, _, _, rfl, _⟩ | ⟨_, _, rfl, _⟩ <;> rfl; done) | (rcases h with ⟨_, _, _, _, rfl, _⟩ | ⟨_, _, _, rfl, _⟩ <;> rfl; done) | (rcases h with ⟨_, _, _, _, rfl, _⟩ | ⟨_, _, _, _, rfl, _⟩ <;> rfl; done) | (rcases h with ⟨_, _, _, _, rfl, _⟩ | ⟨_, _, _, _, _, rfl, _⟩ <;> rfl; done) | (rcases h with ⟨_, _, _, _, rfl, _⟩ | ⟨_, _, _, _, _, _, rfl, _⟩ <;> rfl; done) | (rcases h with ⟨_, _, _, _, _, rfl, _⟩ | ⟨_, rfl, _⟩ <;> rfl; done) | (rcases h with ⟨_, _, _, _, _, rfl, _⟩ | ⟨_, _, rfl, _⟩ <;> rfl; done) | (rcases h with ⟨_, _, _, _, _, rfl, _⟩ | ⟨_, _, _, rfl, _⟩ <;> rfl; done) | (rcases h with ⟨_, _, _, _, _, rfl, _⟩ | ⟨_, _, _, _, rfl, _⟩ <;> rfl; done) | (rcases h with ⟨_, _, _, _, _, rfl, _⟩ | ⟨_, _, _, _, _, rfl, _⟩ <;> rfl; done) | (rcases h with ⟨_, _, _, _, _, rfl, _⟩ | ⟨_, _, _, _, _, _, rfl, _⟩ <;> rfl; done) | (rcases h with ⟨_, _, _, _, _, _, rfl, _⟩ | ⟨_, rfl, _⟩ <;> rfl; done) | (rcases h with ⟨_, _, _, _, _, _, rfl, _⟩ | ⟨_, _, rfl, _⟩ <;> rfl; done) | (rcases h with ⟨_, _, _, _, _, _, rfl, _⟩ | ⟨_, _, _, rfl, _⟩ <;> rfl; done) | (rcases h with ⟨_, _, _, _, _, _, rfl, _⟩ | ⟨_, _, _, _, rfl, _⟩ <;> rfl; done) | (rcases h with ⟨_, _, _, _, _, _, rfl, _⟩ | ⟨_, _, _, _, _, rfl, _⟩ <;> rfl; done) | (rcases h with ⟨_, _, _, _, _, _, rfl, _⟩ | ⟨_, _, _, _, _, _, rfl, _⟩ <;> rfl; done) | (rcases h with ⟨_, rfl, _⟩ | ⟨_, _, rfl, _⟩ <;> rfl) | (rcases h with ⟨_, rfl, _⟩ | ⟨_, rfl, _⟩ <;> rfl) | (rcases h with h | h | h <;> (first | (obtain ⟨rfl, _⟩ := h; rfl; done) | (obtain ⟨_, rfl, _⟩ := h; rfl; done) | (obtain ⟨_, _, rfl, _⟩ := h; rfl; done) | (obtain ⟨_, _, _, rfl, _⟩ := h; rfl; done) | (obtain ⟨_, _, _, _, rfl, _⟩ := h; rfl; done) | (obtain ⟨_, _, _, _, _, rfl, _⟩ := h; rfl; done) | (obtain ⟨_, _, _, _, _, _, rfl, _⟩ := h; rfl; done) | (obtain ⟨_, _, _, _, _, _, _, rfl, _⟩ := h; rfl; done) | (obtain ⟨_, _, _, _, _, _, _, _, rfl, _⟩ := h; rfl; done) | (obtain ⟨_, _, _, _, _, _, _, _, _, rfl, _⟩ := h; rfl; done) | (obtain ⟨_, _, _, _, _, _, _, _, _, _, rfl, _⟩ := h; rfl; done) | (obtain ⟨_, _, _, _, _, _, _, _, _, _, _, rfl, _⟩ := h; rfl; done) | (obtain ⟨_, _, _, _, _, _, _, _, _, _, _, _, rfl, _⟩ := h; rfl; done) | (obtain ⟨_, _, _, _, _, _, _, _, _, _, _, _, _, rfl, _⟩ := h; rfl; done) | (obtain ⟨_, _, _, _, _, _, _, _, _, _, _, _, _, _, rfl, _⟩ := h; rfl; done)))) (fun cdv A outer s H vs Q E hr h => ⟨t__law_wrong K a, ?_, rd vs H Q E h⟩)
  exact (pss_cons (ps_set (i := 1) nd rfl (by first | exact Or.inl rfl | exact Or.inr rfl) pe_int)
      (pss_cons (ps_for PassesOwn.never rfl (pi_enum rfl T.n_enumerate (pa_cons (pv 0) pa_nil)) (pg_tup rfl (pgs_cons (pg_name (i := 2) nd rfl (by first | exact Or.inl rfl | exact Or.inr rfl)) (pgs_cons (pg_name (i := 3) nd rfl (by first | exact Or.inl rfl | exact Or.inr rfl)) pgs_nil))) (pss_cons (ps_if (pt_not (pt_val (pe_call G__law_shape (hr.mono (by decide)) rfl T.g__law_shape T.F__law_shape.kp T.b__law_shape .nil pass0 (pa_cons (pv 3) pa_nil)))) (pss_one (ps_ret (pv 2))) pss_nil)
      (pss_cons (ps_set (i := 4) nd rfl (by first | exact Or.inl rfl | exact Or.inr rfl) (pe_ix ix_tup (pe_ix ix_tup (pv 3) pe_int (fun _ _ => rfl)) pe_int (fun _ _ => rfl)))
      (pss_cons (ps_if (PW.pt (pw_and (pt_cmpR op_eq (pv 2) pe_int (nomark _)) (pw_and1 (pt_cmpR op_ne (pv 4) pe_str (nomark _))))) (pss_one (ps_ret (pv 2))) pss_nil)
      (pss_cons (ps_if (PW.pt (pw_and (pt_cmpR op_gt (pv 2) pe_int (nomark _)) (pw_and1 (pt_cmpR op_notIn_seq (pe_op op_add_str (pe_op op_add_str (pe_ix ix_tup (pv 3) pe_int (fun _ _ => rfl)) pe_str) (pv 4)) (pe_call G__law_after (hr.mono (by decide)) rfl T.g__law_after T.F__law_after.kp T.b__law_after .nil pass0 (pa_cons (pe_ix ix_list (pv 0) (pe_op op_sub (pv 2) pe_int) (fun _ _ => rfl)) pa_nil)) (by rfl))))) (pss_one (ps_ret (pv 2))) pss_nil)
      (pss_cons (ps_if (PW.pt (pw_and (pt_cmpR op_gt (pv 2) pe_int (nomark _)) (pw_and1 (pt_cmpR op_ne (pe_ix ix_tup (pv 3) pe_int (fun _ _ => rfl)) (pe_op op_add (pe_ix ix_tup (pe_ix ix_list (pv 0) (pe_op op_sub (pv 2) pe_int) (fun _ _ => rfl)) pe_int (fun _ _ => rfl)) (pe_callTy call_int1 (by rfl) T.n_int (by decide +kernel) (pa_cons (pe_cmpR op_eq (pv 4) pe_str (nomark _)) pa_nil))) (nomark _))))) (pss_one (ps_ret (pv 2))) pss_nil)
      (pss_cons (ps_set (i := 5) nd rfl (by first | exact Or.inl rfl | exact Or.inr rfl) (pe_dget2 (hu_of hr) (pe_disp (pps_cons pe_str pe_int (pps_cons pe_str pe_int (pps_cons pe_str pe_int (pps_cons pe_str pe_int pps_nil)))) (by rfl) (by rfl) (fun z => by cases z) (by decide)) (pv 4) (pe_ifExp (pt_cmpR op_eq (pv 4) pe_str (nomark _)) (pe_callB call_len_seq (by rfl) T.n_len (by decide +kernel) (pa_cons (pe_ix ix_tup (pe_ix ix_tup (pv 3) pe_int (fun _ _ => rfl)) pe_int (fun _ _ => rfl)) pa_nil)) pe_int) ⟨by rfl, by rfl, by rfl, by rfl⟩))
      (pss_cons (ps_set (i := 1) nd rfl (by first | exact Or.inl rfl | exact Or.inr rfl) (pe_ifExp (pt_cmpR op_eq (pv 4) pe_str (nomark _)) (pv 5) (pe_op op_add (pv 1) (pv 5))))
      (pss_one (ps_if (pt_cmpR op_gt (pv 1) pe_int (nomark _)) (pss_one (ps_ret (pv 2))) pss_nil))))))))))
      (pss_one (ps_ret (pe_op op_sub pe_int pe_int)))))
theorem ok__law_bent (T : Txt K mg a)
    (G__law_one : FnOk P a.w K mg base CX0 2 a.f__law_one a.d__law_one P__law_one (sp__law_one K a))
    (G__law_pull : FnOk P a.w K mg base CX0 1 a.f__law_pull a.d__law_pull P__law_pull (sp__law_pull K a))
    (rd : RD (sp__law_bent K a) (t__law_bent K a) N__law_bent) :
    FnOk P a.w K mg base CX0 3 a.f__law_bent a.d__law_bent P__law_bent (sp__law_bent K a) := by
  have nd := sc__law_bent.nd
  refine T.F__law_bent.ok sc__law_bent (fun vs H Q E h => by first | (obtain ⟨rfl, _⟩ := h; rfl; done) | (obtain ⟨_, rfl, _⟩ := h; rfl; done) | (obtain ⟨_, _, rfl, _⟩ := h; rfl; done) | (obtain ⟨_, _, _, rfl, _⟩ := h; rfl; done) | (obtain ⟨_, _, _, _, rfl, _⟩ := h; rfl; done) | (obtain ⟨_, _, _, _, _, rfl, _⟩ := h; rfl; done) | (obtain ⟨_, _, _, _, _, _, rfl, _⟩ := h; rfl; done) | (obtain ⟨_, _, _, _, _, _, _, rfl, _⟩ := h; rfl; done) | (obtain ⟨_, _, _, _, _, _, _, _, rfl, _⟩ := h; rfl; done) | (obtain ⟨_, _, _, _, _, _, _, _, _, rfl, _⟩ := h; rfl; done) | (obtain ⟨_, _, _, _, _, _, _, _, _, _, rfl, _⟩ := h; rfl; done) | (obtain ⟨_, _, _, _, _, _, _, _, _, _, _, rfl, _⟩ := h; rfl; done) | (obtain ⟨_, _, _, _, _, _, _, _, _, _, _, _, rfl, _⟩ := h; rfl; done) | (obtain ⟨_, _, _, _, _, _, _, _, _, _, _, _, _, rfl, _⟩ := h; rfl; done) | (obtain ⟨_, _, _, _, _, _, _, _, _, _, _, _, _, _, rfl, _⟩ := h; rfl; done) | (rcases h with ⟨_, rfl, _⟩ | ⟨_, rfl, _⟩ <;> rfl; done) | (rcases h with ⟨_, rfl, _⟩ | ⟨_, _, rfl, _⟩ <;> rfl; done) | (rcases h with ⟨_, rfl, _⟩ | ⟨_, _, _, rfl, _⟩ <;> rfl; done) | (rcases h with ⟨_, rfl, _⟩ | ⟨_, _, _, _, rfl, _⟩ <;> rfl; done) | (rcases h with ⟨_, rfl, _⟩ | ⟨_, _, _, _, _, rfl, _⟩ <;> rfl; done) | (rcases h with ⟨_, rfl, _⟩ | ⟨_, _, _, _, _, _, rfl, _⟩ <;> rfl; done) | (rcases h with ⟨_, _, rfl, _⟩ | ⟨_, rfl, _⟩ <;> rfl; done) | (rcases h with ⟨_, _, rfl, _⟩ | ⟨_, _, rfl, _⟩ <;> rfl; done) | (rcases h with ⟨_, _, rfl, _⟩ | ⟨_, _, _, rfl, _⟩ <;> rfl; done) | (rcases h with ⟨_, _, rfl, _⟩ | ⟨_, _, _, _, rfl, _⟩ <;> rfl; done) | (rcases h with ⟨_, _, rfl, _⟩ | ⟨_, _, _, _, _, rfl, _⟩ <;> rfl; done) | (rcases h with ⟨_, _, rfl, _⟩ | ⟨_, _, _, _, _, _, rfl, _⟩ <;> rfl; done) | (rcases h with ⟨_, _, _, rfl, _⟩ | ⟨_, rfl, _⟩ <;> rfl; done) | (rcases h with ⟨_, _, _, rfl, _⟩ | ⟨_, _, rfl, _⟩ <;> rfl; done) | (rcases h with ⟨_, _, _, rfl, _⟩ | ⟨_, _, _, rfl, _⟩ <;> rfl; done) | (rcases h with ⟨_, _, _, rfl, _⟩ | ⟨_, _, _, _, rfl, _⟩ <;> rfl; done) | (rcases h with ⟨_, _, _, rfl, _⟩ | ⟨_, _, _, _, _, rfl, _⟩ <;> rfl; done) | (rcases h with ⟨_, _, _, rfl, _⟩ | ⟨_, _, _, _, _, _, rfl, _⟩ <;> rfl; done) | (rcases h with ⟨_, _, _, _, rfl, _⟩ | ⟨_, rfl, _⟩ <;> rfl; done) | (rcases h with ⟨_, _, _, _, rfl, _⟩ | ⟨_, _, rfl, _⟩ <;> rfl; done) | (rcases h with ⟨_, _, _, _, rfl, _⟩ | ⟨_, _, _, rfl, _⟩ <;> rfl; done) | (rcases h with ⟨_, _, _, _, rfl, _⟩ | ⟨_, _, _, _, rfl, _⟩ <;> rfl; done) | (rcases h with ⟨_, _, _, _, rfl, _⟩ | ⟨_, _, _, _, _, rfl, _⟩ <;> rfl; done) | (rcases h with ⟨_, _, _, _, rfl, _⟩ | ⟨_, _, _, _, _, _, rfl, _⟩ <;> rfl; done) | (rcases h with ⟨_, _, _, _, _, rfl, _⟩ | ⟨_, rfl, _⟩ <;> rfl; done) | (rcases h with ⟨_, _, _, _, _, rfl, _⟩ | ⟨_, _, rfl, _⟩ <;> rfl; done) | (rcases h with ⟨_, _, _, _, _, rfl, _⟩ | ⟨_, _, _, rfl, _⟩ <;> rfl; done) | (rcases h with ⟨_, _, _, _, _, rfl, _⟩ | ⟨_, _, _, _, rfl, _⟩ <;> rfl; done) | (rcases h with ⟨_, _, _, _, _, rfl, _⟩ | ⟨_, _, _, _, _, rfl, _⟩ <;> rfl; done) | (rcases h with ⟨_, _, _, _, _, rfl, _⟩ | ⟨_, _, _, _, _, _, rfl, _⟩ <;> rfl; done) | (rcases h with ⟨_, _, _, _, _, _, rfl, _⟩ | ⟨_, rfl, _⟩ <;> rfl; done) | (rcases h with ⟨_, _, _, _, _, _, rfl, _⟩ | ⟨_, _, rfl, _⟩ <;> rfl; done) | (rcases h with ⟨_, _, _, _, _, _, rfl, _⟩ | ⟨_, _, _, rfl, _⟩ <;> rfl; done) | (rcases h with ⟨_, _, _, _, _, _, rfl, _⟩ | ⟨_, _, _, _, rfl, _⟩ <;> rfl; done) | (rcases h with ⟨_, _, _, _, _, _, rfl, _⟩ | ⟨_, _, _, _, _, rfl, _⟩ <;> rfl; done) | (rcases h with ⟨_, _, _, _, _, _, rfl, _⟩ | ⟨_, _, _, _, _, _, rfl, _⟩ <;> rfl; done) | (rcases h with ⟨_, rfl, _⟩ | ⟨_, _, rfl, _⟩ <;> rfl) | (rcases h with ⟨_, rfl, _⟩ | ⟨_, rfl, _⟩ <;> rfl) | (rcases h with h | h | h <;> (first | (obtain ⟨rfl, _⟩ := h; rfl; done) | (obtain ⟨_, rfl, _⟩ := h; rfl; done) | (obtain ⟨_, _, rfl, _⟩ := h; rfl; done) | (obtain ⟨_, _, _, rfl, _⟩ := h; rfl; done) | (obtain ⟨_, _, _, _, rfl, _⟩ := h; rfl; done) | (obtain ⟨_, _, _, _, _, rfl, _⟩ := h; rfl; done) | (obtain ⟨_, _, _, _, _, _, rfl, _⟩ := h; rfl; done) | (obtain ⟨_, _, _, _, _, _, _, rfl, _⟩ := h; rfl; done) | (obtain ⟨_, _, _, _, _, _, _, _, rfl, _⟩ := h; rfl; done) | (obtain ⟨_, _, _, _, _, _, _, _, _, rfl, _⟩ := h; rfl; done) | (obtain ⟨_, _, _, _, _, _, _, _, _, _, rfl, _⟩ := h; rfl; done) | (obtain ⟨_, _, _, _, _, _, _, _, _, _, _, rfl, _⟩ := h; rfl; done) | (obtain ⟨_, _, _, _, _, _, _, _, _, _, _, _, rfl, _⟩ := h; rfl; done) | (obtain ⟨_, _, _, _, _, _, _, _, _, _, _, _, _, rfl, _⟩ := h; rfl; done) | (obtain ⟨_, _, _, _, _, _, _, _, _, _, _, _, _, _, rfl, _⟩ := h; rfl; done)))) (fun cdv A outer s H vs Q E hr h => ⟨t__law_bent K a, ?_, rd vs H Q E h⟩)
  exact (pss_cons (ps_if (pt_cmpR (op_eqD hr.units) (pv 1) (pe_lst pa_nil) (nomark _)) (pss_one (ps_ret (pv 1))) pss_nil)
      (pss_cons (ps_set (i := 2) nd rfl (by first | exact Or.inl rfl | exact Or.inr rfl) (pe_call G__law_pull (hr.mono (by decide)) rfl T.g__law_pull T.F__law_pull.kp T.b__law_pull .nil pass0 (pa_cons (pv 0) (pa_cons (pe_callB call_len_seq (by rfl) T.n_len (by decide +kernel) (pa_cons (pv 1) pa_nil)) pa_nil))))
      (pss_cons (ps_set (i := 3) nd rfl (by first | exact Or.inl rfl | exact Or.inr rfl) (pe_call G__law_pull (hr.mono (by decide)) rfl T.g__law_pull T.F__law_pull.kp T.b__law_pull .nil pass0 (pa_cons (pv 0) (pa_cons (pe_callB call_len_seq (by rfl) T.n_len (by decide +kernel) (pa_cons (pv 1) pa_nil)) pa_nil))))
      (pss_cons (ps_asg (pe_ix ix_list (pv 1) (pv 2) (fun _ _ => rfl)) (pg_tup rfl (pgs_cons (pg_name (i := 4) nd rfl (by first | exact Or.inl rfl | exact Or.inr rfl)) (pgs_cons (pg_name (i := 5) nd rfl (by first | exact Or.inl rfl | exact Or.inr rfl)) (pgs_cons (pg_name (i := 6) nd rfl (by first | exact Or.inl rfl | exact Or.inr rfl)) (pgs_cons (pg_name (i := 7) nd rfl (by first | exact Or.inl rfl | exact Or.inr rfl)) pgs_nil))))))
      (pss_cons (ps_set (i := 8) nd rfl (by first | exact Or.inl rfl | exact Or.inr rfl) (pe_call G__law_pull (hr.mono (by decide)) rfl T.g__law_pull T.F__law_pull.kp T.b__law_pull .nil pass0 (pa_cons (pv 0) (pa_cons pe_int pa_nil))))
      (pss_cons (ps_if (pt_cmpR op_eq (pv 8) pe_int (nomark _)) (pss_one (ps_ret (pe_op op_cat (pe_slice sl_list (pv 1) po_none (po_some (pv 2))) (pe_slice sl_list (pv 1) (po_some (pe_op op_add (pv 2) pe_int)) po_none)))) pss_nil)
      (pss_cons (ps_if (pt_cmpR op_eq (pv 8) pe_int (nomark _)) (pss_one (ps_ret (pe_op op_cat (pe_op op_cat (pe_slice sl_list (pv 1) po_none (po_some (pv 2))) (pe_lst (pa_cons (pe_ix ix_list (pv 1) (pv 2) (fun _ _ => rfl)) pa_nil))) (pe_slice sl_list (pv 1) (po_some (pv 2)) po_none)))) pss_nil)
      (pss_cons (ps_set (i := 9) nd rfl (by first | exact Or.inl rfl | exact Or.inr rfl) (pe_callTy call_list_of (by rfl) T.n_list (by decide +kernel) (pa_cons (pv 1) pa_nil)))
      (pss_cons (ps_if (pt_cmpR op_eq (pv 8) pe_int (nomark _)) (pss_one (ps_asg (pe_tup (pa_cons (pe_ix ix_list (pv 9) (pv 3) (fun _ _ => rfl)) (pa_cons (pe_ix ix_list (pv 9) (pv 2) (fun _ _ => rfl)) pa_nil))) (pg_tup rfl (pgs_cons (pg_sub (pv 9) (pv 2) set_list) (pgs_cons (pg_sub (pv 9) (pv 3) set_list) pgs_nil))))) pss_nil)
      (pss_cons (ps_if (pt_cmpR op_eq (pv 8) pe_int (nomark _)) (pss_one (ps_asg (pe_tup (pa_cons (pe_op op_add (pv 4) (pe_ix ix_list (pe_lst (pa_cons pe_int (pa_cons (pe_op op_sub pe_int pe_int) (pa_cons pe_int pa_nil)))) (pe_call G__law_pull (hr.mono (by decide)) rfl T.g__law_pull T.F__law_pull.kp T.b__law_pull .nil pass0 (pa_cons (pv 0) (pa_cons pe_int pa_nil))) (fun _ _ => rfl))) (pa_cons (pv 5) (pa_cons (pv 6) (pa_cons (pv 7) pa_nil))))) (pg_sub (pv 9) (pv 2) set_list))) pss_nil)
      (pss_cons (ps_if (pt_cmpR op_eq (pv 8) pe_int (nomark _)) (pss_one (ps_asg (pe_tup (pa_cons (pv 4) (pa_cons (pe_call G__law_one (hr.mono (by decide)) rfl T.g__law_one T.F__law_one.kp T.b__law_one .nil pass0 (pa_cons (pv 0) (pa_cons (pe_lst (pa_cons pe_str (pa_cons pe_str (pa_cons pe_str (pa_cons pe_str pa_nil))))) pa_nil))) (pa_cons (pv 6) (pa_cons (pv 7) pa_nil))))) (pg_sub (pv 9) (pv 2) set_list))) pss_nil)
      (pss_cons (ps_if (pt_cmpR op_eq (pv 8) pe_int (nomark _)) (pss_one (ps_asg (pe_tup (pa_cons (pv 4) (pa_cons (pv 5) (pa_cons (pv 6) (pa_cons (pe_not (pv 7)) pa_nil))))) (pg_sub (pv 9) (pv 2) set_list))) pss_nil)
      (pss_cons (ps_if (pt_cmpR op_eq (pv 8) pe_int (nomark _)) (pss_one (ps_asg (pe_tup (pa_cons (pv 4) (pa_cons (pv 5) (pa_cons (pe_op op_catA (pe_tup (pa_cons (pe_call G__law_one (hr.mono (by decide)) rfl T.g__law_one T.F__law_one.kp T.b__law_one .nil pass0 (pa_cons (pv 0) (pa_cons (pe_lst (pa_cons pe_str (pa_cons pe_str (pa_cons pe_str (pa_cons pe_str pa_nil))))) pa_nil))) pa_nil)) (pe_slice sl_tupA (pv 6) (po_some pe_int) po_none)) (pa_cons (pv 7) pa_nil))))) (pg_sub (pv 9) (pv 2) set_list))) pss_nil)
      (pss_cons (ps_if (PW.pt (pw_and (pt_cmpR op_eq (pv 8) pe_int (nomark _)) (pw_and1 (pt_cmpR op_gt (pe_callB call_len_seq (by rfl) T.n_len (by decide +kernel) (pa_cons (pv 6) pa_nil)) pe_int (nomark _))))) (pss_one (ps_asg (pe_tup (pa_cons (pv 4) (pa_cons (pv 5) (pa_cons (pe_op op_catA (pe_op op_catA (pe_slice sl_tupA (pv 6) po_none (po_some pe_int)) (pe_tup (pa_cons (pe_op op_add (pe_ix ix_tup (pv 6) pe_int (fun _ _ => rfl)) pe_int) pa_nil))) (pe_slice sl_tupA (pv 6) (po_some pe_int) po_none)) (pa_cons (pv 7) pa_nil))))) (pg_sub (pv 9) (pv 2) set_list))) pss_nil)
      (pss_one (ps_ret (pv 9)))))))))))))))))
theorem ok_law (T : Txt K mg a)
    (G__law_bag : FnOk P a.w K mg base CX0 1 a.f__law_bag a.d__law_bag P__law_bag (sp__law_bag K a))
    (G__law_bent : FnOk P a.w K mg base CX0 3 a.f__law_bent a.d__law_bent P__law_bent (sp__law_bent K a))
    (G__law_made : FnOk P a.w K mg base CX0 4 a.f__law_made a.d__law_made P__law_made (sp__law_made K a))
    (G__law_pull : FnOk P a.w K mg base CX0 1 a.f__law_pull a.d__law_pull P__law_pull (sp__law_pull K a))
    (G__law_same : FnOk P a.w K mg base CX0 6 a.f__law_same a.d__law_same P__law_same (sp__law_same K a))
    (G__law_wrong : FnOk P a.w K mg base CX0 2 a.f__law_wrong a.d__law_wrong P__law_wrong (sp__law_wrong K a))
    (G_first_wrong : FnOk P a.w K mg base CX0 6 a.f_first_wrong a.d_first_wrong P_first_wrong (sp_first_wrong K a))
    (rd : RD (sp_law K a) (t_law K a) N_law) :
    FnOk P a.w K mg base CX0 7 a.f_law a.d_law P_law (sp_law K a) := by
  have nd := sc_law.nd
  refine T.F_law.ok sc_law (fun vs H Q E h => by first | (obtain ⟨rfl, _⟩ := h; rfl; done) | (obtain ⟨_, rfl, _⟩ := h; rfl; done) | (obtain ⟨_, _, rfl, _⟩ := h; rfl; done) | (obtain ⟨_, _, _, rfl, _⟩ := h; rfl; done) | (obtain ⟨_, _, _, _, rfl, _⟩ := h; rfl; done) | (obtain ⟨_, _, _, _, _, rfl, _⟩ := h; rfl; done) | (obtain ⟨_, _, _, _, _, _, rfl, _⟩ := h; rfl; done) | (obtain ⟨_, _, _, _, _, _, _, rfl, _⟩ := h; rfl; done) | (obtain ⟨_, _, _, _, _, _, _, _, rfl, _⟩ := h; rfl; done) | (obtain ⟨_, _, _, _, _, _, _, _, _, rfl, _⟩ := h; rfl; done) | (obtain ⟨_, _, _, _, _, _, _, _, _, _, rfl, _⟩ := h; rfl; done) | (obtain ⟨_, _, _, _, _, _, _, _, _, _, _, rfl, _⟩ := h; rfl; done) | (obtain ⟨_, _, _, _, _, _, _, _, _, _, _, _, rfl, _⟩ := h; rfl; done) | (obtain ⟨_, _, _, _, _, _, _, _, _, _, _, _, _, rfl, _⟩ := h; rfl; done) | (obtain ⟨_, _, _, _, _, _, _, _, _, _, _, _, _, _, rfl, _⟩ := h; rfl; done) | (rcases h with ⟨_, rfl, _⟩ | ⟨_, rfl, _⟩ <;> rfl; done) | (rcases h with ⟨_, rfl, _⟩ | ⟨_, _, rfl, _⟩ <;> rfl; done) | (rcases h with ⟨_, rfl, _⟩ | ⟨_, _, _, rfl, _⟩ <;> rfl; done) | (rcases h with ⟨_, rfl, _⟩ | ⟨_, _, _, _, rfl, _⟩ <;> rfl; done) | (rcases h with ⟨_, rfl, _⟩ | ⟨_, _, _, _, _, rfl, _⟩ <;> rfl; done) | (rcases h with ⟨_, rfl, _⟩ | ⟨_, _, _, _, _, _, rfl, _⟩ <;> rfl; done) | (rcases h with ⟨_, _, rfl, _⟩ | ⟨_, rfl, _⟩ <;> rfl; done) | (rcases h with ⟨_, _, rfl, _⟩ | ⟨_, _, rfl, _⟩ <;> rfl; done) | (rcases h with ⟨_, _, rfl, _⟩ | ⟨_, _, _, rfl, _⟩ <;> rfl; done) | (rcases h with ⟨_, _, rfl, _⟩ | ⟨_, _, _, _, rfl, _⟩ <;> rfl; done) | (rcases h with ⟨_, _, rfl, _⟩ | ⟨_, _, _, _, _, rfl, _⟩ <;> rfl; done) | (rcases h with ⟨_, _, rfl, _⟩ | ⟨_, _, _, _, _, _, rfl, _⟩ <;> rfl; done) | (rcases h with ⟨_, _, _, rfl, _⟩ | ⟨_, rfl, _⟩ <;> rfl; done) | (rcases h with ⟨_, _, _, rfl, _⟩ | ⟨_, _, rfl, _⟩ <;> rfl; done) | (rcases h with ⟨_, _, _, rfl, _⟩ | ⟨_, _, _, rfl, _⟩ <;> rfl; done) | (rcases h with ⟨_, _, _, rfl, _⟩ | ⟨_, _, _, _, rfl, _⟩ <;> rfl; done) | (rcases h with ⟨_, _, _, rfl, _⟩ | ⟨_, _, _, _, _, rfl, _⟩ <;> rfl; done) | (rcases h with ⟨_, _, _, rfl, _⟩ | ⟨_, _, _, _, _, _, rfl, _⟩ <;> rfl; done) | (rcases h with ⟨_, _, _, _, rfl, _⟩ | ⟨_, rfl, _⟩ <;> rfl; done) | (rcases h with ⟨_, _, _, _, rfl, _⟩ | ⟨_, _, rfl, _⟩ <;> rfl; done) | (rcases h with ⟨_, _, _, _, rfl, _⟩ | ⟨_, _, _, rfl, _⟩ <;> rfl; done) | (rcases h with ⟨_, _, _, _, rfl, _⟩ | ⟨_, _, _, _, rfl, _⟩ <;> rfl; done) | (rcases h with ⟨_, _, _, _, rfl, _⟩ | ⟨_, _, _, _, _, rfl, _⟩ <;> rfl; done) | (rcases h with ⟨_, _, _, _, rfl, _⟩ | ⟨_, _, _, _, _, _, rfl, _⟩ <;> rfl; done) | (rcases h with ⟨_, _, _, _, _, rfl, _⟩ | ⟨_, rfl, _⟩ <;> rfl; done) | (rcases h with ⟨_, _, _, _, _, rfl, _⟩ | ⟨_, _, rfl, _⟩ <;> rfl; done) | (rcases h with ⟨_, _, _, _, _, rfl, _⟩ | ⟨_, _, _, rfl, _⟩ <;> rfl; done) | (rcases h with ⟨_, _, _, _, _, rfl, _⟩ | ⟨_, _, _, _, rfl, _⟩ <;> rfl; done) | (rcases h with ⟨_, _, _, _, _, rfl, _⟩ | ⟨_, _, _, _, _, rfl, _⟩ <;> rfl; done) | (rcases h with ⟨_, _, _, _, _, rfl, _⟩ | ⟨_, _, _, _, _, _, rfl, _⟩ <;> rfl; done) | (rcases h with ⟨_, _, _, _, _, _, rfl, _⟩ | ⟨_, rfl, _⟩ <;> rfl; done) | (rcases h with ⟨_, _, _, _, _, _, rfl, _⟩ | ⟨_, _, rfl, _⟩ <;> rfl; done) | (rcases h with ⟨_, _, _, _, _, _, rfl, _⟩ | ⟨_, _, _, rfl, _⟩ <;> rfl; done) | (rcases h with ⟨_, _, _, _, _, _, rfl, _⟩ | ⟨_, _, _, _, rfl, _⟩ <;> rfl; done) | (rcases h with ⟨_, _, _, _, _, _, rfl, _⟩ | ⟨_, _, _, _, _, rfl, _⟩ <;> rfl; done) | (rcases h with ⟨_, _, _, _, _, _, rfl, _⟩ | ⟨_, _, _, _, _, _, rfl, _⟩ <;> rfl; done) | (rcases h with ⟨_, rfl, _⟩ | ⟨_, _, rfl, _⟩ <;> rfl) | (rcases h with ⟨_, rfl, _⟩ | ⟨_, rfl, _⟩ <;> rfl) | (rcases h with h | h | h <;> (first | (obtain ⟨rfl, _⟩ := h; rfl; done) | (obtain ⟨_, rfl, _⟩ := h; rfl; done) | (obtain ⟨_, _, rfl, _⟩ := h; rfl; done) | (obtain ⟨_, _, _, rfl, _⟩ := h; rfl; done) | (obtain ⟨_, _, _, _, rfl, _⟩ := h; rfl; done) | (obtain ⟨_, _, _, _, _, rfl, _⟩ := h; rfl; done) | (obtain ⟨_, _, _, _, _, _, rfl, _⟩ := h; rfl; done) | (obtain ⟨_, _, _, _, _, _, _, rfl, _⟩ := h; rfl; done) | (obtain ⟨_, _, _, _, _, _, _, _, rfl, _⟩ := h; rfl; done) | (obtain ⟨_, _, _, _, _, _, _, _, _, rfl, _⟩ := h; rfl; done) | (obtain ⟨_, _, _, _, _, _, _, _, _, _, rfl, _⟩ := h; rfl; done) | (obtain ⟨_, _, _, _, _, _, _, _, _, _, _, rfl, _⟩ := h; rfl; done) | (obtain ⟨_, _, _, _, _, _, _, _, _, _, _, _, rfl, _⟩ := h; rfl; done) | (obtain ⟨_, _, _, _, _, _, _, _, _, _, _, _, _, rfl, _⟩ := h; rfl; done) | (obtain ⟨_, _, _, _, _, _, _, _, _, _, _, _, _, _, rfl, _⟩ := h; rfl; done)))) (fun cdv A outer s H vs Q E hr h => ⟨t_law K a, ?_, rd vs H Q E h⟩)
  exact (pss_cons (ps_set (i := 1) nd rfl (by first | exact Or.inl rfl | exact Or.inr rfl) (pe_call G__law_bag (hr.mono (by decide)) rfl T.g__law_bag T.F__law_bag.kp T.b__law_bag .nil pass0 (pa_cons (pv 0) pa_nil)))
      (pss_cons (ps_for PassesOwn.never rfl (pi_range1 rfl T.n_range (pa_cons pe_int pa_nil)) (pg_name (i := 2) nd rfl (by first | exact Or.inl rfl | exact Or.inr rfl)) (pss_cons (ps_set (i := 3) nd rfl (by first | exact Or.inl rfl | exact Or.inr rfl) (pe_call G__law_made (hr.mono (by decide)) rfl T.g__law_made T.F__law_made.kp T.b__law_made .nil pass0 (pa_cons (pv 1) pa_nil)))
      (pss_cons (ps_for PassesOwn.never rfl (pi_range1 rfl T.n_range (pa_cons (pe_call G__law_pull (hr.mono (by decide)) rfl T.g__law_pull T.F__law_pull.kp T.b__law_pull .nil pass0 (pa_cons (pv 1) (pa_cons pe_int pa_nil))) pa_nil)) (pg_name (i := 4) nd rfl (by first | exact Or.inl rfl | exact Or.inr rfl)) (pss_one (ps_set (i := 3) nd rfl (by first | exact Or.inl rfl | exact Or.inr rfl) (pe_call G__law_bent (hr.mono (by decide)) rfl T.g__law_bent T.F__law_bent.kp T.b__law_bent .nil pass0 (pa_cons (pv 1) (pa_cons (pv 3) pa_nil))))))
      (pss_cons (ps_set (i := 5) nd rfl (by first | exact Or.inl rfl | exact Or.inr rfl) (pe_callTy call_list_of (by rfl) T.n_list (by decide +kernel) (pa_cons (pv 3) pa_nil)))
      (pss_one (ps_if (PW.pt (pw_or (pt_not (pt_val (pe_call G__law_same (hr.mono (by decide)) rfl T.g__law_same T.F__law_same.kp T.b__law_same .nil pass0 (pa_cons (pe_call G_first_wrong (hr.mono (by decide)) rfl T.g_first_wrong T.F_first_wrong.kp T.b_first_wrong .nil pass0 (pa_cons (pv 5) pa_nil)) (pa_cons (pe_call G__law_wrong (hr.mono (by decide)) rfl T.g__law_wrong T.F__law_wrong.kp T.b__law_wrong .nil pass0 (pa_cons (pv 3) pa_nil)) pa_nil))))) (pw_or1 (pt_cmpR (op_neD hr.units) (pv 5) (pv 3) (nomark _))))) (pss_one (ps_ret pe_bl)) pss_nil))))))
      (pss_one (ps_ret pe_bl))))
theorem same_ok (T : Txt K mg a) : ∀ n, FnOk P a.w K mg base CX0 (n + 2) a.f__law_same a.d__law_same P__law_same (sp_same n K)
  | 0 => ok__law_same (kR := 0) T (ok__law_whole T rd__law_whole) (by decide) (spR := fun _ _ _ _ => False) (T.F__law_same.ok sc__law_same (fun _ _ _ _ h => h.elim) (fun _ _ _ _ _ _ _ _ _ h => h.elim)) (fun vs H Q E h => by obtain ⟨_, _, _, rfl, _⟩ := h; rfl) (rd__law_same 0 _ fun k h => nomatch h)
  | n + 1 => ok__law_same (kR := n + 1) T (ok__law_whole T rd__law_whole) (by omega) (same_ok T n) (fun vs H Q E h => by obtain ⟨_, _, _, rfl, _⟩ := h; rfl) (rd__law_same (n + 1) _ fun k h => by cases h; rfl)
theorem law_ok (T : Txt K mg a) : FnOk P a.w K mg base CX0 7 a.f_law a.d_law P_law (sp_law K a) := by
  have o_is_number := ok_is_number (P := P) (base := base) T  rd_is_number
  have o_are_bytes := ok_are_bytes (P := P) (base := base) T o_is_number rd_are_bytes
  have o_is_token := ok_is_token (P := P) (base := base) T o_is_number (rd_is_token T)
  have o_is_frame := ok_is_frame (P := P) (base := base) T o_is_number rd_is_frame
  have o_is_piece := ok_is_piece (P := P) (base := base) T o_are_bytes rd_is_piece
  have o_is_data := ok_is_data (P := P) (base := base) T o_is_number o_is_piece rd_is_data
  have o_is_answer := ok_is_answer (P := P) (base := base) T  (rd_is_answer T)
  have o_is_packet := ok_is_packet (P := P) (base := base) T o_is_answer o_is_data o_is_frame o_is_token rd_is_packet
  have o_said_behind := ok_said_behind (P := P) (base := base) T  (rd_said_behind T)
  have o_is_numbered := ok_is_numbered (P := P) (base := base) T  rd_is_numbered
  have o_room_behind := ok_room_behind (P := P) (base := base) T  (rd_room_behind T)
  have o_first_wrong := ok_first_wrong (P := P) (base := base) T o_is_numbered o_is_packet o_room_behind o_said_behind (rd_first_wrong T)
  have o__law_bag := ok__law_bag (P := P) (base := base) T  rd__law_bag
  have o__law_pull := ok__law_pull (P := P) (base := base) T  rd__law_pull
  have o__law_whole := ok__law_whole (P := P) (base := base) T  rd__law_whole
  have o__law_one := ok__law_one (P := P) (base := base) T o__law_pull rd__law_one
  have o__law_bytes := ok__law_bytes (P := P) (base := base) T o__law_pull rd__law_bytes
  have o__law_turn := ok__law_turn (P := P) (base := base) T o__law_bytes o__law_one o__law_pull rd__law_turn
  have o__law_made := ok__law_made (P := P) (base := base) T o__law_one o__law_pull o__law_turn rd__law_made
  have o__law_after := ok__law_after (P := P) (base := base) T  rd__law_after
  have o__law_shape := ok__law_shape (P := P) (base := base) T  rd__law_shape
  have o__law_wrong := ok__law_wrong (P := P) (base := base) T o__law_after o__law_shape rd__law_wrong
  have o__law_bent := ok__law_bent (P := P) (base := base) T o__law_one o__law_pull rd__law_bent
  exact ok_law (P := P) (base := base) T o__law_bag o__law_bent o__law_made o__law_pull (same_ok T 4) o__law_wrong o_first_wrong rd_law
end
theorem all_mk {l : PySem.W.OpenLaw} {w : World} {K : PySem.W.Frag} {h : Heap} {mg : Str → Option Value} {fa : Addr} (X : K.In h) (G : h.Ns mainGlobals mg) (hfa : mg "law" = some (.ref fa))
    {f0 : Addr} {od0 an0 : Option Addr} {sl0 : Array (Option Value)} {oc0 kV0 dc0 pm0 cd0 ct0 : Value}
    (a0 : PySem.W.nsIn K mainGlobals "is_number" = some (some (.ref f0)))
    (l0 : K.lookup f0 = some ⟨oc0, od0, .func (PySem.W.fnOf "is_number" "is_number" (defArgs s_is_number) (defBody s_is_number) (defScope s_is_number) .none kV0 dc0 pm0 an0 cd0 ct0), sl0⟩)
    (c0 : PySem.W.codeIn K cd0 "is_number" = true)
    (k0 : PySem.W.keepIn K (.ref f0) = true)
    {f1 : Addr} {od1 an1 : Option Addr} {sl1 : Array (Option Value)} {oc1 kV1 dc1 pm1 cd1 ct1 : Value}
    (a1 : PySem.W.nsIn K mainGlobals "are_bytes" = some (some (.ref f1)))
    (l1 : K.lookup f1 = some ⟨oc1, od1, .func (PySem.W.fnOf "are_bytes" "are_bytes" (defArgs s_are_bytes) (defBody s_are_bytes) (defScope s_are_bytes) .none kV1 dc1 pm1 an1 cd1 ct1), sl1⟩)
    (c1 : PySem.W.codeIn K cd1 "are_bytes" = true)
    (k1 : PySem.W.keepIn K (.ref f1) = true)
    {f2 : Addr} {od2 an2 : Option Addr} {sl2 : Array (Option Value)} {oc2 kV2 dc2 pm2 cd2 ct2 : Value}
    (a2 : PySem.W.nsIn K mainGlobals "is_token" = some (some (.ref f2)))
    (l2 : K.lookup f2 = some ⟨oc2, od2, .func (PySem.W.fnOf "is_token" "is_token" (defArgs s_is_token) (defBody s_is_token) (defScope s_is_token) .none kV2 dc2 pm2 an2 cd2 ct2), sl2⟩)
    (c2 : PySem.W.codeIn K cd2 "is_token" = true)
    (k2 : PySem.W.keepIn K (.ref f2) = true)
    {f3 : Addr} {od3 an3 : Option Addr} {sl3 : Array (Option Value)} {oc3 kV3 dc3 pm3 cd3 ct3 : Value}
    (a3 : PySem.W.nsIn K mainGlobals "is_frame" = some (some (.ref f3)))
    (l3 : K.lookup f3 = some ⟨oc3, od3, .func (PySem.W.fnOf "is_frame" "is_frame" (defArgs s_is_frame) (defBody s_is_frame) (defScope s_is_frame) .none kV3 dc3 pm3 an3 cd3 ct3), sl3⟩)
    (c3 : PySem.W.codeIn K cd3 "is_frame" = true)
    (k3 : PySem.W.keepIn K (.ref f3) = true)
    {f4 : Addr} {od4 an4 : Option Addr} {sl4 : Array (Option Value)} {oc4 kV4 dc4 pm4 cd4 ct4 : Value}
    (a4 : PySem.W.nsIn K mainGlobals "is_piece" = some (some (.ref f4)))
    (l4 : K.lookup f4 = some ⟨oc4, od4, .func (PySem.W.fnOf "is_piece" "is_piece" (defArgs s_is_piece) (defBody s_is_piece) (defScope s_is_piece) .none kV4 dc4 pm4 an4 cd4 ct4), sl4⟩)
    (c4 : PySem.W.codeIn K cd4 "is_piece" = true)
    (k4 : PySem.W.keepIn K (.ref f4) = true)
    {f5 : Addr} {od5 an5 : Option Addr} {sl5 : Array (Option Value)} {oc5 kV5 dc5 pm5 cd5 ct5 : Value}
    (a5 : PySem.W.nsIn K mainGlobals "is_data" = some (some (.ref f5)))
    (l5 : K.lookup f5 = some ⟨oc5, od5, .func (PySem.W.fnOf "is_data" "is_data" (defArgs s_is_data) (defBody s_is_data) (defScope s_is_data) .none kV5 dc5 pm5 an5 cd5 ct5), sl5⟩)
    (c5 : PySem.W.codeIn K cd5 "is_data" = true)
    (k5 : PySem.W.keepIn K (.ref f5) = true)
    {f6 : Addr} {od6 an6 : Option Addr} {sl6 : Array (Option Value)} {oc6 kV6 dc6 pm6 cd6 ct6 : Value}
    (a6 : PySem.W.nsIn K mainGlobals "is_answer" = some (some (.ref f6)))
    (l6 : K.lookup f6 = some ⟨oc6, od6, .func (PySem.W.fnOf "is_answer" "is_answer" (defArgs s_is_answer) (defBody s_is_answer) (defScope s_is_answer) .none kV6 dc6 pm6 an6 cd6 ct6), sl6⟩)
    (c6 : PySem.W.codeIn K cd6 "is_answer" = true)
    (k6 : PySem.W.keepIn K (.ref f6) = true)
    {f7 : Addr} {od7 an7 : Option Addr} {sl7 : Array (Option Value)} {oc7 kV7 dc7 pm7 cd7 ct7 : Value}
    (a7 : PySem.W.nsIn K mainGlobals "is_packet" = some (some (.ref f7)))
    (l7 : K.lookup f7 = some ⟨oc7, od7, .func (PySem.W.fnOf "is_packet" "is_packet" (defArgs s_is_packet) (defBody s_is_packet) (defScope s_is_packet) .none kV7 dc7 pm7 an7 cd7 ct7), sl7⟩)
    (c7 : PySem.W.codeIn K cd7 "is_packet" = true)
    (k7 : PySem.W.keepIn K (.ref f7) = true)
    {f8 : Addr} {od8 an8 : Option Addr} {sl8 : Array (Option Value)} {oc8 kV8 dc8 pm8 cd8 ct8 : Value}
    (a8 : PySem.W.nsIn K mainGlobals "said_behind" = some (some (.ref f8)))
    (l8 : K.lookup f8 = some ⟨oc8, od8, .func (PySem.W.fnOf "said_behind" "said_behind" (defArgs s_said_behind) (defBody s_said_behind) (defScope s_said_behind) .none kV8 dc8 pm8 an8 cd8 ct8), sl8⟩)
    (c8 : PySem.W.codeIn K cd8 "said_behind" = true)
    (k8 : PySem.W.keepIn K (.ref f8) = true)
    {f9 : Addr} {od9 an9 : Option Addr} {sl9 : Array (Option Value)} {oc9 kV9 dc9 pm9 cd9 ct9 : Value}
    (a9 : PySem.W.nsIn K mainGlobals "is_numbered" = some (some (.ref f9)))
    (l9 : K.lookup f9 = some ⟨oc9, od9, .func (PySem.W.fnOf "is_numbered" "is_numbered" (defArgs s_is_numbered) (defBody s_is_numbered) (defScope s_is_numbered) .none kV9 dc9 pm9 an9 cd9 ct9), sl9⟩)
    (c9 : PySem.W.codeIn K cd9 "is_numbered" = true)
    (k9 : PySem.W.keepIn K (.ref f9) = true)
    {f10 : Addr} {od10 an10 : Option Addr} {sl10 : Array (Option Value)} {oc10 kV10 dc10 pm10 cd10 ct10 : Value}
    (a10 : PySem.W.nsIn K mainGlobals "room_behind" = some (some (.ref f10)))
    (l10 : K.lookup f10 = some ⟨oc10, od10, .func (PySem.W.fnOf "room_behind" "room_behind" (defArgs s_room_behind) (defBody s_room_behind) (defScope s_room_behind) .none kV10 dc10 pm10 an10 cd10 ct10), sl10⟩)
    (c10 : PySem.W.codeIn K cd10 "room_behind" = true)
    (k10 : PySem.W.keepIn K (.ref f10) = true)
    {f11 : Addr} {od11 an11 : Option Addr} {sl11 : Array (Option Value)} {oc11 kV11 dc11 pm11 cd11 ct11 : Value}
    (a11 : PySem.W.nsIn K mainGlobals "first_wrong" = some (some (.ref f11)))
    (l11 : K.lookup f11 = some ⟨oc11, od11, .func (PySem.W.fnOf "first_wrong" "first_wrong" (defArgs s_first_wrong) (defBody s_first_wrong) (defScope s_first_wrong) .none kV11 dc11 pm11 an11 cd11 ct11), sl11⟩)
    (c11 : PySem.W.codeIn K cd11 "first_wrong" = true)
    (k11 : PySem.W.keepIn K (.ref f11) = true)
    {f12 : Addr} {od12 an12 : Option Addr} {sl12 : Array (Option Value)} {oc12 kV12 dc12 pm12 cd12 ct12 : Value}
    (a12 : PySem.W.nsIn K mainGlobals "_law_bag" = some (some (.ref f12)))
    (l12 : K.lookup f12 = some ⟨oc12, od12, .func (PySem.W.fnOf "_law_bag" "_law_bag" (defArgs s__law_bag) (defBody s__law_bag) (defScope s__law_bag) .none kV12 dc12 pm12 an12 cd12 ct12), sl12⟩)
    (c12 : PySem.W.codeIn K cd12 "_law_bag" = true)
    (k12 : PySem.W.keepIn K (.ref f12) = true)
    {f13 : Addr} {od13 an13 : Option Addr} {sl13 : Array (Option Value)} {oc13 kV13 dc13 pm13 cd13 ct13 : Value}
    (a13 : PySem.W.nsIn K mainGlobals "_law_pull" = some (some (.ref f13)))
    (l13 : K.lookup f13 = some ⟨oc13, od13, .func (PySem.W.fnOf "_law_pull" "_law_pull" (defArgs s__law_pull) (defBody s__law_pull) (defScope s__law_pull) .none kV13 dc13 pm13 an13 cd13 ct13), sl13⟩)
    (c13 : PySem.W.codeIn K cd13 "_law_pull" = true)
    (k13 : PySem.W.keepIn K (.ref f13) = true)
    {f14 : Addr} {od14 an14 : Option Addr} {sl14 : Array (Option Value)} {oc14 kV14 dc14 pm14 cd14 ct14 : Value}
    (a14 : PySem.W.nsIn K mainGlobals "_law_whole" = some (some (.ref f14)))
    (l14 : K.lookup f14 = some ⟨oc14, od14, .func (PySem.W.fnOf "_law_whole" "_law_whole" (defArgs s__law_whole) (defBody s__law_whole) (defScope s__law_whole) .none kV14 dc14 pm14 an14 cd14 ct14), sl14⟩)
    (c14 : PySem.W.codeIn K cd14 "_law_whole" = true)
    (k14 : PySem.W.keepIn K (.ref f14) = true)
    {f15 : Addr} {od15 an15 : Option Addr} {sl15 : Array (Option Value)} {oc15 kV15 dc15 pm15 cd15 ct15 : Value}
    (a15 : PySem.W.nsIn K mainGlobals "_law_same" = some (some (.ref f15)))
    (l15 : K.lookup f15 = some ⟨oc15, od15, .func (PySem.W.fnOf "_law_same" "_law_same" (defArgs s__law_same) (defBody s__law_same) (defScope s__law_same) .none kV15 dc15 pm15 an15 cd15 ct15), sl15⟩)
    (c15 : PySem.W.codeIn K cd15 "_law_same" = true)
    (k15 : PySem.W.keepIn K (.ref f15) = true)
    {f16 : Addr} {od16 an16 : Option Addr} {sl16 : Array (Option Value)} {oc16 kV16 dc16 pm16 cd16 ct16 : Value}
    (a16 : PySem.W.nsIn K mainGlobals "_law_one" = some (some (.ref f16)))
    (l16 : K.lookup f16 = some ⟨oc16, od16, .func (PySem.W.fnOf "_law_one" "_law_one" (defArgs s__law_one) (defBody s__law_one) (defScope s__law_one) .none kV16 dc16 pm16 an16 cd16 ct16), sl16⟩)
    (c16 : PySem.W.codeIn K cd16 "_law_one" = true)
    (k16 : PySem.W.keepIn K (.ref f16) = true)
    {f17 : Addr} {od17 an17 : Option Addr} {sl17 : Array (Option Value)} {oc17 kV17 dc17 pm17 cd17 ct17 : Value}
    (a17 : PySem.W.nsIn K mainGlobals "_law_bytes" = some (some (.ref f17)))
    (l17 : K.lookup f17 = some ⟨oc17, od17, .func (PySem.W.fnOf "_law_bytes" "_law_bytes" (defArgs s__law_bytes) (defBody s__law_bytes) (defScope s__law_bytes) .none kV17 dc17 pm17 an17 cd17 ct17), sl17⟩)
    (c17 : PySem.W.codeIn K cd17 "_law_bytes" = true)
    (k17 : PySem.W.keepIn K (.ref f17) = true)
    {f18 : Addr} {od18 an18 : Option Addr} {sl18 : Array (Option Value)} {oc18 kV18 dc18 pm18 cd18 ct18 : Value}
    (a18 : PySem.W.nsIn K mainGlobals "_law_turn" = some (some (.ref f18)))
    (l18 : K.lookup f18 = some ⟨oc18, od18, .func (PySem.W.fnOf "_law_turn" "_law_turn" (defArgs s__law_turn) (defBody s__law_turn) (defScope s__law_turn) .none kV18 dc18 pm18 an18 cd18 ct18), sl18⟩)
    (c18 : PySem.W.codeIn K cd18 "_law_turn" = true)
    (k18 : PySem.W.keepIn K (.ref f18) = true)
    {f19 : Addr} {od19 an19 : Option Addr} {sl19 : Array (Option Value)} {oc19 kV19 dc19 pm19 cd19 ct19 : Value}
    (a19 : PySem.W.nsIn K mainGlobals "_law_made" = some (some (.ref f19)))
    (l19 : K.lookup f19 = some ⟨oc19, od19, .func (PySem.W.fnOf "_law_made" "_law_made" (defArgs s__law_made) (defBody s__law_made) (defScope s__law_made) .none kV19 dc19 pm19 an19 cd19 ct19), sl19⟩)
    (c19 : PySem.W.codeIn K cd19 "_law_made" = true)
    (k19 : PySem.W.keepIn K (.ref f19) = true)
    {f20 : Addr} {od20 an20 : Option Addr} {sl20 : Array (Option Value)} {oc20 kV20 dc20 pm20 cd20 ct20 : Value}
    (a20 : PySem.W.nsIn K mainGlobals "_law_after" = some (some (.ref f20)))
    (l20 : K.lookup f20 = some ⟨oc20, od20, .func (PySem.W.fnOf "_law_after" "_law_after" (defArgs s__law_after) (defBody s__law_after) (defScope s__law_after) .none kV20 dc20 pm20 an20 cd20 ct20), sl20⟩)
    (c20 : PySem.W.codeIn K cd20 "_law_after" = true)
    (k20 : PySem.W.keepIn K (.ref f20) = true)
    {f21 : Addr} {od21 an21 : Option Addr} {sl21 : Array (Option Value)} {oc21 kV21 dc21 pm21 cd21 ct21 : Value}
    (a21 : PySem.W.nsIn K mainGlobals "_law_shape" = some (some (.ref f21)))
    (l21 : K.lookup f21 = some ⟨oc21, od21, .func (PySem.W.fnOf "_law_shape" "_law_shape" (defArgs s__law_shape) (defBody s__law_shape) (defScope s__law_shape) .none kV21 dc21 pm21 an21 cd21 ct21), sl21⟩)
    (c21 : PySem.W.codeIn K cd21 "_law_shape" = true)
    (k21 : PySem.W.keepIn K (.ref f21) = true)
    {f22 : Addr} {od22 an22 : Option Addr} {sl22 : Array (Option Value)} {oc22 kV22 dc22 pm22 cd22 ct22 : Value}
    (a22 : PySem.W.nsIn K mainGlobals "_law_wrong" = some (some (.ref f22)))
    (l22 : K.lookup f22 = some ⟨oc22, od22, .func (PySem.W.fnOf "_law_wrong" "_law_wrong" (defArgs s__law_wrong) (defBody s__law_wrong) (defScope s__law_wrong) .none kV22 dc22 pm22 an22 cd22 ct22), sl22⟩)
    (c22 : PySem.W.codeIn K cd22 "_law_wrong" = true)
    (k22 : PySem.W.keepIn K (.ref f22) = true)
    {f23 : Addr} {od23 an23 : Option Addr} {sl23 : Array (Option Value)} {oc23 kV23 dc23 pm23 cd23 ct23 : Value}
    (a23 : PySem.W.nsIn K mainGlobals "_law_bent" = some (some (.ref f23)))
    (l23 : K.lookup f23 = some ⟨oc23, od23, .func (PySem.W.fnOf "_law_bent" "_law_bent" (defArgs s__law_bent) (defBody s__law_bent) (defScope s__law_bent) .none kV23 dc23 pm23 an23 cd23 ct23), sl23⟩)
    (c23 : PySem.W.codeIn K cd23 "_law_bent" = true)
    (k23 : PySem.W.keepIn K (.ref f23) = true)
    {f24 : Addr} {od24 an24 : Option Addr} {sl24 : Array (Option Value)} {oc24 kV24 dc24 pm24 cd24 ct24 : Value}
    (a24 : PySem.W.nsIn K mainGlobals "law" = some (some (.ref f24)))
    (l24 : K.lookup f24 = some ⟨oc24, od24, .func (PySem.W.fnOf "law" "law" (defArgs s_law) (defBody s_law) (defScope s_law) .none kV24 dc24 pm24 an24 cd24 ct24), sl24⟩)
    (c24 : PySem.W.codeIn K cd24 "law" = true)
    (k24 : PySem.W.keepIn K (.ref f24) = true)
    {K_TOKENS_packets : Addr}
    (aK_TOKENS_packets : PySem.W.nsIn K mainGlobals "TOKENS_packets" = some (some (.ref K_TOKENS_packets)))
    {o_TOKENS_packets : Obj}
    (lK_TOKENS_packets : K.lookup K_TOKENS_packets = some o_TOKENS_packets)
    (vK_TOKENS_packets : TupObj o_TOKENS_packets [.str ("out" : Str), .str ("in" : Str), .str ("setup" : Str)])
    {K_ANSWERS : Addr}
    (aK_ANSWERS : PySem.W.nsIn K mainGlobals "ANSWERS" = some (some (.ref K_ANSWERS)))
    {o_ANSWERS : Obj}
    (lK_ANSWERS : K.lookup K_ANSWERS = some o_ANSWERS)
    (vK_ANSWERS : TupObj o_ANSWERS [.str ("ack" : Str), .str ("nak" : Str), .str ("stall" : Str)])
    {tk_MOST_DATA : Tok}
    (aK_MOST_DATA : PySem.W.nsIn K mainGlobals "MOST_DATA" = some (some (.int 64 tk_MOST_DATA)))
    {tk_FRAME_ROOM : Tok}
    (aK_FRAME_ROOM : PySem.W.nsIn K mainGlobals "FRAME_ROOM" = some (some (.int 1500 tk_FRAME_ROOM)))
    {tk_BEGINNING_ROOM : Tok}
    (aK_BEGINNING_ROOM : PySem.W.nsIn K mainGlobals "BEGINNING_ROOM" = some (some (.int 6 tk_BEGINNING_ROOM)))
    {tk_TURN_ROOM : Tok}
    (aK_TURN_ROOM : PySem.W.nsIn K mainGlobals "TURN_ROOM" = some (some (.int 13 tk_TURN_ROOM)))
    {tk_FRAME_NUMBERS : Tok}
    (aK_FRAME_NUMBERS : PySem.W.nsIn K mainGlobals "FRAME_NUMBERS" = some (some (.int 2048 tk_FRAME_NUMBERS)))
    {K_TOKENS_journal : Addr}
    (aK_TOKENS_journal : PySem.W.nsIn K mainGlobals "TOKENS_journal" = some (some (.ref K_TOKENS_journal)))
    {o_TOKENS_journal : Obj}
    (lK_TOKENS_journal : K.lookup K_TOKENS_journal = some o_TOKENS_journal)
    (vK_TOKENS_journal : TupObj o_TOKENS_journal [.str ("out" : Str), .str ("in" : Str), .str ("setup" : Str)])
    {K_FREE : Addr}
    (aK_FREE : PySem.W.nsIn K mainGlobals "FREE" = some (some (.ref K_FREE)))
    {o_FREE : Obj}
    (lK_FREE : K.lookup K_FREE = some o_FREE)
    {A_FREE_0 : Addr} {o_FREE_0 : Obj}
    {A_FREE_1 : Addr} {o_FREE_1 : Obj}
    {A_FREE_2 : Addr} {o_FREE_2 : Obj}
    {A_FREE_3 : Addr} {o_FREE_3 : Obj}
    (vK_FREE : TupObj o_FREE [.ref A_FREE_0, .ref A_FREE_1, .ref A_FREE_2, .ref A_FREE_3])
    (lT_FREE_0 : K.lookup A_FREE_0 = some o_FREE_0)
    (vT_FREE_0 : TupObj o_FREE_0 [.str ("host" : Str), .str ("frame" : Str)])
    (lT_FREE_1 : K.lookup A_FREE_1 = some o_FREE_1)
    (vT_FREE_1 : TupObj o_FREE_1 [.str ("host" : Str), .str ("out" : Str)])
    (lT_FREE_2 : K.lookup A_FREE_2 = some o_FREE_2)
    (vT_FREE_2 : TupObj o_FREE_2 [.str ("host" : Str), .str ("in" : Str)])
    (lT_FREE_3 : K.lookup A_FREE_3 = some o_FREE_3)
    (vT_FREE_3 : TupObj o_FREE_3 [.str ("host" : Str), .str ("setup" : Str)])
    {K_BEGINNING : Addr}
    (aK_BEGINNING : PySem.W.nsIn K mainGlobals "BEGINNING" = some (some (.ref K_BEGINNING)))
    {o_BEGINNING : Obj}
    (lK_BEGINNING : K.lookup K_BEGINNING = some o_BEGINNING)
    {A_BEGINNING_0 : Addr} {o_BEGINNING_0 : Obj}
    (vK_BEGINNING : TupObj o_BEGINNING [.ref A_BEGINNING_0])
    (lT_BEGINNING_0 : K.lookup A_BEGINNING_0 = some o_BEGINNING_0)
    (vT_BEGINNING_0 : TupObj o_BEGINNING_0 [.str ("host" : Str), .str ("frame" : Str)])
    {K_BEHIND_OUT : Addr}
    (aK_BEHIND_OUT : PySem.W.nsIn K mainGlobals "BEHIND_OUT" = some (some (.ref K_BEHIND_OUT)))
    {o_BEHIND_OUT : Obj}
    (lK_BEHIND_OUT : K.lookup K_BEHIND_OUT = some o_BEHIND_OUT)
    {A_BEHIND_OUT_0 : Addr} {o_BEHIND_OUT_0 : Obj}
    (vK_BEHIND_OUT : TupObj o_BEHIND_OUT [.ref A_BEHIND_OUT_0])
    (lT_BEHIND_OUT_0 : K.lookup A_BEHIND_OUT_0 = some o_BEHIND_OUT_0)
    (vT_BEHIND_OUT_0 : TupObj o_BEHIND_OUT_0 [.str ("host" : Str), .str ("data" : Str)])
    {K_ANSWERS_TO_PIECE : Addr}
    (aK_ANSWERS_TO_PIECE : PySem.W.nsIn K mainGlobals "ANSWERS_TO_PIECE" = some (some (.ref K_ANSWERS_TO_PIECE)))
    {o_ANSWERS_TO_PIECE : Obj}
    (lK_ANSWERS_TO_PIECE : K.lookup K_ANSWERS_TO_PIECE = some o_ANSWERS_TO_PIECE)
    {A_ANSWERS_TO_PIECE_0 : Addr} {o_ANSWERS_TO_PIECE_0 : Obj}
    {A_ANSWERS_TO_PIECE_1 : Addr} {o_ANSWERS_TO_PIECE_1 : Obj}
    {A_ANSWERS_TO_PIECE_2 : Addr} {o_ANSWERS_TO_PIECE_2 : Obj}
    (vK_ANSWERS_TO_PIECE : TupObj o_ANSWERS_TO_PIECE [.ref A_ANSWERS_TO_PIECE_0, .ref A_ANSWERS_TO_PIECE_1, .ref A_ANSWERS_TO_PIECE_2])
    (lT_ANSWERS_TO_PIECE_0 : K.lookup A_ANSWERS_TO_PIECE_0 = some o_ANSWERS_TO_PIECE_0)
    (vT_ANSWERS_TO_PIECE_0 : TupObj o_ANSWERS_TO_PIECE_0 [.str ("thing" : Str), .str ("ack" : Str)])
    (lT_ANSWERS_TO_PIECE_1 : K.lookup A_ANSWERS_TO_PIECE_1 = some o_ANSWERS_TO_PIECE_1)
    (vT_ANSWERS_TO_PIECE_1 : TupObj o_ANSWERS_TO_PIECE_1 [.str ("thing" : Str), .str ("nak" : Str)])
    (lT_ANSWERS_TO_PIECE_2 : K.lookup A_ANSWERS_TO_PIECE_2 = some o_ANSWERS_TO_PIECE_2)
    (vT_ANSWERS_TO_PIECE_2 : TupObj o_ANSWERS_TO_PIECE_2 [.str ("thing" : Str), .str ("stall" : Str)])
    {K_ANSWERS_TO_IN : Addr}
    (aK_ANSWERS_TO_IN : PySem.W.nsIn K mainGlobals "ANSWERS_TO_IN" = some (some (.ref K_ANSWERS_TO_IN)))
    {o_ANSWERS_TO_IN : Obj}
    (lK_ANSWERS_TO_IN : K.lookup K_ANSWERS_TO_IN = some o_ANSWERS_TO_IN)
    {A_ANSWERS_TO_IN_0 : Addr} {o_ANSWERS_TO_IN_0 : Obj}
    {A_ANSWERS_TO_IN_1 : Addr} {o_ANSWERS_TO_IN_1 : Obj}
    {A_ANSWERS_TO_IN_2 : Addr} {o_ANSWERS_TO_IN_2 : Obj}
    (vK_ANSWERS_TO_IN : TupObj o_ANSWERS_TO_IN [.ref A_ANSWERS_TO_IN_0, .ref A_ANSWERS_TO_IN_1, .ref A_ANSWERS_TO_IN_2])
    (lT_ANSWERS_TO_IN_0 : K.lookup A_ANSWERS_TO_IN_0 = some o_ANSWERS_TO_IN_0)
    (vT_ANSWERS_TO_IN_0 : TupObj o_ANSWERS_TO_IN_0 [.str ("thing" : Str), .str ("data" : Str)])
    (lT_ANSWERS_TO_IN_1 : K.lookup A_ANSWERS_TO_IN_1 = some o_ANSWERS_TO_IN_1)
    (vT_ANSWERS_TO_IN_1 : TupObj o_ANSWERS_TO_IN_1 [.str ("thing" : Str), .str ("nak" : Str)])
    (lT_ANSWERS_TO_IN_2 : K.lookup A_ANSWERS_TO_IN_2 = some o_ANSWERS_TO_IN_2)
    (vT_ANSWERS_TO_IN_2 : TupObj o_ANSWERS_TO_IN_2 [.str ("thing" : Str), .str ("stall" : Str)])
    {K_BEHIND_GIVEN : Addr}
    (aK_BEHIND_GIVEN : PySem.W.nsIn K mainGlobals "BEHIND_GIVEN" = some (some (.ref K_BEHIND_GIVEN)))
    {o_BEHIND_GIVEN : Obj}
    (lK_BEHIND_GIVEN : K.lookup K_BEHIND_GIVEN = some o_BEHIND_GIVEN)
    {A_BEHIND_GIVEN_0 : Addr} {o_BEHIND_GIVEN_0 : Obj}
    (vK_BEHIND_GIVEN : TupObj o_BEHIND_GIVEN [.ref A_BEHIND_GIVEN_0])
    (lT_BEHIND_GIVEN_0 : K.lookup A_BEHIND_GIVEN_0 = some o_BEHIND_GIVEN_0)
    (vT_BEHIND_GIVEN_0 : TupObj o_BEHIND_GIVEN_0 [.str ("host" : Str), .str ("ack" : Str)])
    (z_all : PySem.W.nsIn K mainGlobals "all" = some none)
    (z_bool : PySem.W.nsIn K mainGlobals "bool" = some none)
    (z_enumerate : PySem.W.nsIn K mainGlobals "enumerate" = some none)
    (z_int : PySem.W.nsIn K mainGlobals "int" = some none)
    (z_isinstance : PySem.W.nsIn K mainGlobals "isinstance" = some none)
    (z_len : PySem.W.nsIn K mainGlobals "len" = some none)
    (z_list : PySem.W.nsIn K mainGlobals "list" = some none)
    (z_range : PySem.W.nsIn K mainGlobals "range" = some none)
    (z_str : PySem.W.nsIn K mainGlobals "str" = some none)
    (z_tuple : PySem.W.nsIn K mainGlobals "tuple" = some none)
    : ∃ fd : FuncData, (∀ (s : Shared) (v : Value), BindsTo s fd ⟨[v], []⟩ [("_law_script", v)]) ∧ ∀ base : Heap, K.In base → base.Ns mainGlobals mg → FnOk l.prog w K mg base CX0 7 fa fd ["_law_script"] (spLaw K) := by
  have e := hfa.symm.trans (PySem.W.mg_of X G a24)
  cases e
  have F0 := fun_mk (st := s_is_number) l0 c0 k0
  have b0 := F0.binds (ps := ["value", "low", "high"]) fun _ _ _ _ _ _ us hl => match us, hl with | [_, _, _], _ => rfl
  have F1 := fun_mk (st := s_are_bytes) l1 c1 k1
  have b1 := F1.binds (ps := ["data"]) fun _ _ _ _ _ _ us hl => match us, hl with | [_], _ => rfl
  have F2 := fun_mk (st := s_is_token) l2 c2 k2
  have b2 := F2.binds (ps := ["packet"]) fun _ _ _ _ _ _ us hl => match us, hl with | [_], _ => rfl
  have F3 := fun_mk (st := s_is_frame) l3 c3 k3
  have b3 := F3.binds (ps := ["packet"]) fun _ _ _ _ _ _ us hl => match us, hl with | [_], _ => rfl
  have F4 := fun_mk (st := s_is_piece) l4 c4 k4
  have b4 := F4.binds (ps := ["value"]) fun _ _ _ _ _ _ us hl => match us, hl with | [_], _ => rfl
  have F5 := fun_mk (st := s_is_data) l5 c5 k5
  have b5 := F5.binds (ps := ["packet"]) fun _ _ _ _ _ _ us hl => match us, hl with | [_], _ => rfl
  have F6 := fun_mk (st := s_is_answer) l6 c6 k6
  have b6 := F6.binds (ps := ["packet"]) fun _ _ _ _ _ _ us hl => match us, hl with | [_], _ => rfl
  have F7 := fun_mk (st := s_is_packet) l7 c7 k7
  have b7 := F7.binds (ps := ["packet"]) fun _ _ _ _ _ _ us hl => match us, hl with | [_], _ => rfl
  have F8 := fun_mk (st := s_said_behind) l8 c8 k8
  have b8 := F8.binds (ps := ["row"]) fun _ _ _ _ _ _ us hl => match us, hl with | [_], _ => rfl
  have F9 := fun_mk (st := s_is_numbered) l9 c9 k9
  have b9 := F9.binds (ps := ["row", "ahead"]) fun _ _ _ _ _ _ us hl => match us, hl with | [_, _], _ => rfl
  have F10 := fun_mk (st := s_room_behind) l10 c10 k10
  have b10 := F10.binds (ps := ["room", "packet"]) fun _ _ _ _ _ _ us hl => match us, hl with | [_, _], _ => rfl
  have F11 := fun_mk (st := s_first_wrong) l11 c11 k11
  have b11 := F11.binds (ps := ["rows"]) fun _ _ _ _ _ _ us hl => match us, hl with | [_], _ => rfl
  have F12 := fun_mk (st := s__law_bag) l12 c12 k12
  have b12 := F12.binds (ps := ["_law_script"]) fun _ _ _ _ _ _ us hl => match us, hl with | [_], _ => rfl
  have F13 := fun_mk (st := s__law_pull) l13 c13 k13
  have b13 := F13.binds (ps := ["_law_bag_here", "_law_upto"]) fun _ _ _ _ _ _ us hl => match us, hl with | [_, _], _ => rfl
  have F14 := fun_mk (st := s__law_whole) l14 c14 k14
  have b14 := F14.binds (ps := ["_law_found"]) fun _ _ _ _ _ _ us hl => match us, hl with | [_], _ => rfl
  have F15 := fun_mk (st := s__law_same) l15 c15 k15
  have b15 := F15.binds (ps := ["_law_found", "_law_due"]) fun _ _ _ _ _ _ us hl => match us, hl with | [_, _], _ => rfl
  have F16 := fun_mk (st := s__law_one) l16 c16 k16
  have b16 := F16.binds (ps := ["_law_bag_here", "_law_row"]) fun _ _ _ _ _ _ us hl => match us, hl with | [_, _], _ => rfl
  have F17 := fun_mk (st := s__law_bytes) l17 c17 k17
  have b17 := F17.binds (ps := ["_law_bag_here", "_law_most"]) fun _ _ _ _ _ _ us hl => match us, hl with | [_, _], _ => rfl
  have F18 := fun_mk (st := s__law_turn) l18 c18 k18
  have b18 := F18.binds (ps := ["_law_bag_here", "_law_frame"]) fun _ _ _ _ _ _ us hl => match us, hl with | [_, _], _ => rfl
  have F19 := fun_mk (st := s__law_made) l19 c19 k19
  have b19 := F19.binds (ps := ["_law_bag_here"]) fun _ _ _ _ _ _ us hl => match us, hl with | [_], _ => rfl
  have F20 := fun_mk (st := s__law_after) l20 c20 k20
  have b20 := F20.binds (ps := ["_law_row"]) fun _ _ _ _ _ _ us hl => match us, hl with | [_], _ => rfl
  have F21 := fun_mk (st := s__law_shape) l21 c21 k21
  have b21 := F21.binds (ps := ["_law_row"]) fun _ _ _ _ _ _ us hl => match us, hl with | [_], _ => rfl
  have F22 := fun_mk (st := s__law_wrong) l22 c22 k22
  have b22 := F22.binds (ps := ["_law_rows"]) fun _ _ _ _ _ _ us hl => match us, hl with | [_], _ => rfl
  have F23 := fun_mk (st := s__law_bent) l23 c23 k23
  have b23 := F23.binds (ps := ["_law_bag_here", "_law_rows"]) fun _ _ _ _ _ _ us hl => match us, hl with | [_, _], _ => rfl
  have F24 := fun_mk (st := s_law) l24 c24 k24
  have b24 := F24.binds (ps := ["_law_script"]) fun _ _ _ _ _ _ us hl => match us, hl with | [_], _ => rfl
  let a : Ad := { w := w, f_is_number := f0, d_is_number := (PySem.W.fnOf "is_number" "is_number" (defArgs s_is_number) (defBody s_is_number) (defScope s_is_number) .none kV0 dc0 pm0 an0 cd0 ct0), f_are_bytes := f1, d_are_bytes := (PySem.W.fnOf "are_bytes" "are_bytes" (defArgs s_are_bytes) (defBody s_are_bytes) (defScope s_are_bytes) .none kV1 dc1 pm1 an1 cd1 ct1), f_is_token := f2, d_is_token := (PySem.W.fnOf "is_token" "is_token" (defArgs s_is_token) (defBody s_is_token) (defScope s_is_token) .none kV2 dc2 pm2 an2 cd2 ct2), f_is_frame := f3, d_is_frame := (PySem.W.fnOf "is_frame" "is_frame" (defArgs s_is_frame) (defBody s_is_frame) (defScope s_is_frame) .none kV3 dc3 pm3 an3 cd3 ct3), f_is_piece := f4, d_is_piece := (PySem.W.fnOf "is_piece" "is_piece" (defArgs s_is_piece) (defBody s_is_piece) (defScope s_is_piece) .none kV4 dc4 pm4 an4 cd4 ct4), f_is_data := f5, d_is_data := (PySem.W.fnOf "is_data" "is_data" (defArgs s_is_data) (defBody s_is_data) (defScope s_is_data) .none kV5 dc5 pm5 an5 cd5 ct5), f_is_answer := f6, d_is_answer := (PySem.W.fnOf "is_answer" "is_answer" (defArgs s_is_answer) (defBody s_is_answer) (defScope s_is_answer) .none kV6 dc6 pm6 an6 cd6 ct6), f_is_packet := f7, d_is_packet := (PySem.W.fnOf "is_packet" "is_packet" (defArgs s_is_packet) (defBody s_is_packet) (defScope s_is_packet) .none kV7 dc7 pm7 an7 cd7 ct7), f_said_behind := f8, d_said_behind := (PySem.W.fnOf "said_behind" "said_behind" (defArgs s_said_behind) (defBody s_said_behind) (defScope s_said_behind) .none kV8 dc8 pm8 an8 cd8 ct8), f_is_numbered := f9, d_is_numbered := (PySem.W.fnOf "is_numbered" "is_numbered" (defArgs s_is_numbered) (defBody s_is_numbered) (defScope s_is_numbered) .none kV9 dc9 pm9 an9 cd9 ct9), f_room_behind := f10, d_room_behind := (PySem.W.fnOf "room_behind" "room_behind" (defArgs s_room_behind) (defBody s_room_behind) (defScope s_room_behind) .none kV10 dc10 pm10 an10 cd10 ct10), f_first_wrong := f11, d_first_wrong := (PySem.W.fnOf "first_wrong" "first_wrong" (defArgs s_first_wrong) (defBody s_first_wrong) (defScope s_first_wrong) .none kV11 dc11 pm11 an11 cd11 ct11), f__law_bag := f12, d__law_bag := (PySem.W.fnOf "_law_bag" "_law_bag" (defArgs s__law_bag) (defBody s__law_bag) (defScope s__law_bag) .none kV12 dc12 pm12 an12 cd12 ct12), f__law_pull := f13, d__law_pull := (PySem.W.fnOf "_law_pull" "_law_pull" (defArgs s__law_pull) (defBody s__law_pull) (defScope s__law_pull) .none kV13 dc13 pm13 an13 cd13 ct13), f__law_whole := f14, d__law_whole := (PySem.W.fnOf "_law_whole" "_law_whole" (defArgs s__law_whole) (defBody s__law_whole) (defScope s__law_whole) .none kV14 dc14 pm14 an14 cd14 ct14), f__law_same := f15, d__law_same := (PySem.W.fnOf "_law_same" "_law_same" (defArgs s__law_same) (defBody s__law_same) (defScope s__law_same) .none kV15 dc15 pm15 an15 cd15 ct15), f__law_one := f16, d__law_one := (PySem.W.fnOf "_law_one" "_law_one" (defArgs s__law_one) (defBody s__law_one) (defScope s__law_one) .none kV16 dc16 pm16 an16 cd16 ct16), f__law_bytes := f17, d__law_bytes := (PySem.W.fnOf "_law_bytes" "_law_bytes" (defArgs s__law_bytes) (defBody s__law_bytes) (defScope s__law_bytes) .none kV17 dc17 pm17 an17 cd17 ct17), f__law_turn := f18, d__law_turn := (PySem.W.fnOf "_law_turn" "_law_turn" (defArgs s__law_turn) (defBody s__law_turn) (defScope s__law_turn) .none kV18 dc18 pm18 an18 cd18 ct18), f__law_made := f19, d__law_made := (PySem.W.fnOf "_law_made" "_law_made" (defArgs s__law_made) (defBody s__law_made) (defScope s__law_made) .none kV19 dc19 pm19 an19 cd19 ct19), f__law_after := f20, d__law_after := (PySem.W.fnOf "_law_after" "_law_after" (defArgs s__law_after) (defBody s__law_after) (defScope s__law_after) .none kV20 dc20 pm20 an20 cd20 ct20), f__law_shape := f21, d__law_shape := (PySem.W.fnOf "_law_shape" "_law_shape" (defArgs s__law_shape) (defBody s__law_shape) (defScope s__law_shape) .none kV21 dc21 pm21 an21 cd21 ct21), f__law_wrong := f22, d__law_wrong := (PySem.W.fnOf "_law_wrong" "_law_wrong" (defArgs s__law_wrong) (defBody s__law_wrong) (defScope s__law_wrong) .none kV22 dc22 pm22 an22 cd22 ct22), f__law_bent := f23, d__law_bent := (PySem.W.fnOf "_law_bent" "_law_bent" (defArgs s__law_bent) (defBody s__law_bent) (defScope s__law_bent) .none kV23 dc23 pm23 an23 cd23 ct23), f_law := fa, d_law := (PySem.W.fnOf "law" "law" (defArgs s_law) (defBody s_law) (defScope s_law) .none kV24 dc24 pm24 an24 cd24 ct24), k_TOKENS_packets := K_TOKENS_packets, k_ANSWERS := K_ANSWERS, k_MOST_DATA := tk_MOST_DATA, k_FRAME_ROOM := tk_FRAME_ROOM, k_BEGINNING_ROOM := tk_BEGINNING_ROOM, k_TURN_ROOM := tk_TURN_ROOM, k_FRAME_NUMBERS := tk_FRAME_NUMBERS, k_TOKENS_journal := K_TOKENS_journal, k_FREE := K_FREE, k_BEGINNING := K_BEGINNING, k_BEHIND_OUT := K_BEHIND_OUT, k_ANSWERS_TO_PIECE := K_ANSWERS_TO_PIECE, k_ANSWERS_TO_IN := K_ANSWERS_TO_IN, k_BEHIND_GIVEN := K_BEHIND_GIVEN, k_FREE_0 := A_FREE_0, k_FREE_1 := A_FREE_1, k_FREE_2 := A_FREE_2, k_FREE_3 := A_FREE_3, k_BEGINNING_0 := A_BEGINNING_0, k_BEHIND_OUT_0 := A_BEHIND_OUT_0, k_ANSWERS_TO_PIECE_0 := A_ANSWERS_TO_PIECE_0, k_ANSWERS_TO_PIECE_1 := A_ANSWERS_TO_PIECE_1, k_ANSWERS_TO_PIECE_2 := A_ANSWERS_TO_PIECE_2, k_ANSWERS_TO_IN_0 := A_ANSWERS_TO_IN_0, k_ANSWERS_TO_IN_1 := A_ANSWERS_TO_IN_1, k_ANSWERS_TO_IN_2 := A_ANSWERS_TO_IN_2, k_BEHIND_GIVEN_0 := A_BEHIND_GIVEN_0 }
  have T : Txt K mg a := { F_is_number := F0, g_is_number := PySem.W.mg_of X G a0, b_is_number := b0, F_are_bytes := F1, g_are_bytes := PySem.W.mg_of X G a1, b_are_bytes := b1, F_is_token := F2, g_is_token := PySem.W.mg_of X G a2, b_is_token := b2, F_is_frame := F3, g_is_frame := PySem.W.mg_of X G a3, b_is_frame := b3, F_is_piece := F4, g_is_piece := PySem.W.mg_of X G a4, b_is_piece := b4, F_is_data := F5, g_is_data := PySem.W.mg_of X G a5, b_is_data := b5, F_is_answer := F6, g_is_answer := PySem.W.mg_of X G a6, b_is_answer := b6, F_is_packet := F7, g_is_packet := PySem.W.mg_of X G a7, b_is_packet := b7, F_said_behind := F8, g_said_behind := PySem.W.mg_of X G a8, b_said_behind := b8, F_is_numbered := F9, g_is_numbered := PySem.W.mg_of X G a9, b_is_numbered := b9, F_room_behind := F10, g_room_behind := PySem.W.mg_of X G a10, b_room_behind := b10, F_first_wrong := F11, g_first_wrong := PySem.W.mg_of X G a11, b_first_wrong := b11, F__law_bag := F12, g__law_bag := PySem.W.mg_of X G a12, b__law_bag := b12, F__law_pull := F13, g__law_pull := PySem.W.mg_of X G a13, b__law_pull := b13, F__law_whole := F14, g__law_whole := PySem.W.mg_of X G a14, b__law_whole := b14, F__law_same := F15, g__law_same := PySem.W.mg_of X G a15, b__law_same := b15, F__law_one := F16, g__law_one := PySem.W.mg_of X G a16, b__law_one := b16, F__law_bytes := F17, g__law_bytes := PySem.W.mg_of X G a17, b__law_bytes := b17, F__law_turn := F18, g__law_turn := PySem.W.mg_of X G a18, b__law_turn := b18, F__law_made := F19, g__law_made := PySem.W.mg_of X G a19, b__law_made := b19, F__law_after := F20, g__law_after := PySem.W.mg_of X G a20, b__law_after := b20, F__law_shape := F21, g__law_shape := PySem.W.mg_of X G a21, b__law_shape := b21, F__law_wrong := F22, g__law_wrong := PySem.W.mg_of X G a22, b__law_wrong := b22, F__law_bent := F23, g__law_bent := PySem.W.mg_of X G a23, b__law_bent := b23, F_law := F24, g_law := PySem.W.mg_of X G a24, b_law := b24, g_TOKENS_packets := PySem.W.mg_of X G aK_TOKENS_packets, t_TOKENS_packets := ⟨_, lK_TOKENS_packets, vK_TOKENS_packets⟩, g_ANSWERS := PySem.W.mg_of X G aK_ANSWERS, t_ANSWERS := ⟨_, lK_ANSWERS, vK_ANSWERS⟩, g_MOST_DATA := PySem.W.mg_of X G aK_MOST_DATA, g_FRAME_ROOM := PySem.W.mg_of X G aK_FRAME_ROOM, g_BEGINNING_ROOM := PySem.W.mg_of X G aK_BEGINNING_ROOM, g_TURN_ROOM := PySem.W.mg_of X G aK_TURN_ROOM, g_FRAME_NUMBERS := PySem.W.mg_of X G aK_FRAME_NUMBERS, g_TOKENS_journal := PySem.W.mg_of X G aK_TOKENS_journal, t_TOKENS_journal := ⟨_, lK_TOKENS_journal, vK_TOKENS_journal⟩, g_FREE := PySem.W.mg_of X G aK_FREE, t_FREE := ⟨_, lK_FREE, vK_FREE⟩, kt_FREE_0 := ⟨_, lT_FREE_0, vT_FREE_0⟩, kt_FREE_1 := ⟨_, lT_FREE_1, vT_FREE_1⟩, kt_FREE_2 := ⟨_, lT_FREE_2, vT_FREE_2⟩, kt_FREE_3 := ⟨_, lT_FREE_3, vT_FREE_3⟩, g_BEGINNING := PySem.W.mg_of X G aK_BEGINNING, t_BEGINNING := ⟨_, lK_BEGINNING, vK_BEGINNING⟩, kt_BEGINNING_0 := ⟨_, lT_BEGINNING_0, vT_BEGINNING_0⟩, g_BEHIND_OUT := PySem.W.mg_of X G aK_BEHIND_OUT, t_BEHIND_OUT := ⟨_, lK_BEHIND_OUT, vK_BEHIND_OUT⟩, kt_BEHIND_OUT_0 := ⟨_, lT_BEHIND_OUT_0, vT_BEHIND_OUT_0⟩, g_ANSWERS_TO_PIECE := PySem.W.mg_of X G aK_ANSWERS_TO_PIECE, t_ANSWERS_TO_PIECE := ⟨_, lK_ANSWERS_TO_PIECE, vK_ANSWERS_TO_PIECE⟩, kt_ANSWERS_TO_PIECE_0 := ⟨_, lT_ANSWERS_TO_PIECE_0, vT_ANSWERS_TO_PIECE_0⟩, kt_ANSWERS_TO_PIECE_1 := ⟨_, lT_ANSWERS_TO_PIECE_1, vT_ANSWERS_TO_PIECE_1⟩, kt_ANSWERS_TO_PIECE_2 := ⟨_, lT_ANSWERS_TO_PIECE_2, vT_ANSWERS_TO_PIECE_2⟩, g_ANSWERS_TO_IN := PySem.W.mg_of X G aK_ANSWERS_TO_IN, t_ANSWERS_TO_IN := ⟨_, lK_ANSWERS_TO_IN, vK_ANSWERS_TO_IN⟩, kt_ANSWERS_TO_IN_0 := ⟨_, lT_ANSWERS_TO_IN_0, vT_ANSWERS_TO_IN_0⟩, kt_ANSWERS_TO_IN_1 := ⟨_, lT_ANSWERS_TO_IN_1, vT_ANSWERS_TO_IN_1⟩, kt_ANSWERS_TO_IN_2 := ⟨_, lT_ANSWERS_TO_IN_2, vT_ANSWERS_TO_IN_2⟩, g_BEHIND_GIVEN := PySem.W.mg_of X G aK_BEHIND_GIVEN, t_BEHIND_GIVEN := ⟨_, lK_BEHIND_GIVEN, vK_BEHIND_GIVEN⟩, kt_BEHIND_GIVEN_0 := ⟨_, lT_BEHIND_GIVEN_0, vT_BEHIND_GIVEN_0⟩, n_all := PySem.W.mg_none_of X G z_all, n_bool := PySem.W.mg_none_of X G z_bool, n_enumerate := PySem.W.mg_none_of X G z_enumerate, n_int := PySem.W.mg_none_of X G z_int, n_isinstance := PySem.W.mg_none_of X G z_isinstance, n_len := PySem.W.mg_none_of X G z_len, n_list := PySem.W.mg_none_of X G z_list, n_range := PySem.W.mg_none_of X G z_range, n_str := PySem.W.mg_none_of X G z_str, n_tuple := PySem.W.mg_none_of X G z_tuple }
  exact ⟨_, fun s v => .of_eq rfl, fun base _ _ => law_ok T⟩
end My
open PySem PySem.W PyProof.Rows
set_option maxRecDepth 100000 in
set_option maxHeartbeats 0 in
theorem PySem.Challenge.cw_plugtree_k22_journals_looked_at_holds : PySem.Challenge.rw_plugtree_k22_journals_looked_at.Holds := by
  w_on; o_law; k_head; (case hw => w_witness2)
  k_fill
  refine L2.walk_of (l := PySem.Challenge.rw_plugtree_k22_journals_looked_at) (n := 63) (k := 7) (x := "_law_script") (CX := fun _ => L2.CX0) (sp := fun w => My.spLaw _) rfl (by decide) rfl ⟨rfl, by decide, by decide⟩ (fun w h Y => PySem.W.kIn_of Y) ?F (fun _ _ a ns hl _ hS => ⟨a, ns, rfl, hS, hl, fun _ => rfl⟩) (fun _ _ _ _ _ h => h)
  case F =>
    intro w mg fa h KX G hmg
    refine' My.all_mk KX G hmg ?a0 ?l0 ?c0 ?k0 ?a1 ?l1 ?c1 ?k1 ?a2 ?l2 ?c2 ?k2 ?a3 ?l3 ?c3 ?k3 ?a4 ?l4 ?c4 ?k4 ?a5 ?l5 ?c5 ?k5 ?a6 ?l6 ?c6 ?k6 ?a7 ?l7 ?c7 ?k7 ?a8 ?l8 ?c8 ?k8 ?a9 ?l9 ?c9 ?k9 ?a10 ?l10 ?c10 ?k10 ?a11 ?l11 ?c11 ?k11 ?a12 ?l12 ?c12 ?k12 ?a13 ?l13 ?c13 ?k13 ?a14 ?l14 ?c14 ?k14 ?a15 ?l15 ?c15 ?k15 ?a16 ?l16 ?c16 ?k16 ?a17 ?l17 ?c17 ?k17 ?a18 ?l18 ?c18 ?k18 ?a19 ?l19 ?c19 ?k19 ?a20 ?l20 ?c20 ?k20 ?a21 ?l21 ?c21 ?k21 ?a22 ?l22 ?c22 ?k22 ?a23 ?l23 ?c23 ?k23 ?a24 ?l24 ?c24 ?k24 ?aK_TOKENS_packets ?lK_TOKENS_packets ?vK_TOKENS_packets ?aK_ANSWERS ?lK_ANSWERS ?vK_ANSWERS ?aK_MOST_DATA ?aK_FRAME_ROOM ?aK_BEGINNING_ROOM ?aK_TURN_ROOM ?aK_FRAME_NUMBERS ?aK_TOKENS_journal ?lK_TOKENS_journal ?vK_TOKENS_journal ?aK_FREE ?lK_FREE ?vK_FREE ?lT_FREE_0 ?vT_FREE_0 ?lT_FREE_1 ?vT_FREE_1 ?lT_FREE_2 ?vT_FREE_2 ?lT_FREE_3 ?vT_FREE_3 ?aK_BEGINNING ?lK_BEGINNING ?vK_BEGINNING ?lT_BEGINNING_0 ?vT_BEGINNING_0 ?aK_BEHIND_OUT ?lK_BEHIND_OUT ?vK_BEHIND_OUT ?lT_BEHIND_OUT_0 ?vT_BEHIND_OUT_0 ?aK_ANSWERS_TO_PIECE ?lK_ANSWERS_TO_PIECE ?vK_ANSWERS_TO_PIECE ?lT_ANSWERS_TO_PIECE_0 ?vT_ANSWERS_TO_PIECE_0 ?lT_ANSWERS_TO_PIECE_1 ?vT_ANSWERS_TO_PIECE_1 ?lT_ANSWERS_TO_PIECE_2 ?vT_ANSWERS_TO_PIECE_2 ?aK_ANSWERS_TO_IN ?lK_ANSWERS_TO_IN ?vK_ANSWERS_TO_IN ?lT_ANSWERS_TO_IN_0 ?vT_ANSWERS_TO_IN_0 ?lT_ANSWERS_TO_IN_1 ?vT_ANSWERS_TO_IN_1 ?lT_ANSWERS_TO_IN_2 ?vT_ANSWERS_TO_IN_2 ?aK_BEHIND_GIVEN ?lK_BEHIND_GIVEN ?vK_BEHIND_GIVEN ?lT_BEHIND_GIVEN_0 ?vT_BEHIND_GIVEN_0 ?z_all ?z_bool ?z_enumerate ?z_int ?z_isinstance ?z_len ?z_list ?z_range ?z_str ?z_tuple
    (case a0 => k_is)
    (case l0 => k_is)
    (case c0 => k_is)
    (case k0 => k_is)
    (case a1 => k_is)
    (case l1 => k_is)
    (case c1 => k_is)
    (case k1 => k_is)
    (case a2 => k_is)
    (case l2 => k_is)
    (case c2 => k_is)
    (case k2 => k_is)
    (case a3 => k_is)
    (case l3 => k_is)
    (case c3 => k_is)
    (case k3 => k_is)
    (case a4 => k_is)
    (case l4 => k_is)
    (case c4 => k_is)
    (case k4 => k_is)
    (case a5 => k_is)
    (case l5 => k_is)
    (case c5 => k_is)
    (case k5 => k_is)
    (case a6 => k_is)
    (case l6 => k_is)
    (case c6 => k_is)
    (case k6 => k_is)
    (case a7 => k_is)
    (case l7 => k_is)
    (case c7 => k_is)
    (case k7 => k_is)
    (case a8 => k_is)
    (case l8 => k_is)
    (case c8 => k_is)
    (case k8 => k_is)
    (case a9 => k_is)
    (case l9 => k_is)
    (case c9 => k_is)
    (case k9 => k_is)
    (case a10 => k_is)
    (case l10 => k_is)
    (case c10 => k_is)
    (case k10 => k_is)
    (case a11 => k_is)
    (case l11 => k_is)
    (case c11 => k_is)
    (case k11 => k_is)
    (case a12 => k_is)
    (case l12 => k_is)
    (case c12 => k_is)
    (case k12 => k_is)
    (case a13 => k_is)
    (case l13 => k_is)
    (case c13 => k_is)
    (case k13 => k_is)
    (case a14 => k_is)
    (case l14 => k_is)
    (case c14 => k_is)
    (case k14 => k_is)
    (case a15 => k_is)
    (case l15 => k_is)
    (case c15 => k_is)
    (case k15 => k_is)
    (case a16 => k_is)
    (case l16 => k_is)
    (case c16 => k_is)
    (case k16 => k_is)
    (case a17 => k_is)
    (case l17 => k_is)
    (case c17 => k_is)
    (case k17 => k_is)
    (case a18 => k_is)
    (case l18 => k_is)
    (case c18 => k_is)
    (case k18 => k_is)
    (case a19 => k_is)
    (case l19 => k_is)
    (case c19 => k_is)
    (case k19 => k_is)
    (case a20 => k_is)
    (case l20 => k_is)
    (case c20 => k_is)
    (case k20 => k_is)
    (case a21 => k_is)
    (case l21 => k_is)
    (case c21 => k_is)
    (case k21 => k_is)
    (case a22 => k_is)
    (case l22 => k_is)
    (case c22 => k_is)
    (case k22 => k_is)
    (case a23 => k_is)
    (case l23 => k_is)
    (case c23 => k_is)
    (case k23 => k_is)
    (case a24 => k_is)
    (case l24 => k_is)
    (case c24 => k_is)
    (case k24 => k_is)
    (case aK_TOKENS_packets => k_is)
    (case lK_TOKENS_packets => k_is)
    (case vK_TOKENS_packets => exact ⟨rfl, _, _, rfl, by decide, .cons ⟨_, rfl⟩ (.cons ⟨_, rfl⟩ (.cons ⟨_, rfl⟩ (.nil)))⟩)
    (case aK_ANSWERS => k_is)
    (case lK_ANSWERS => k_is)
    (case vK_ANSWERS => exact ⟨rfl, _, _, rfl, by decide, .cons ⟨_, rfl⟩ (.cons ⟨_, rfl⟩ (.cons ⟨_, rfl⟩ (.nil)))⟩)
    (case aK_MOST_DATA => k_is)
    (case aK_FRAME_ROOM => k_is)
    (case aK_BEGINNING_ROOM => k_is)
    (case aK_TURN_ROOM => k_is)
    (case aK_FRAME_NUMBERS => k_is)
    (case aK_TOKENS_journal => k_is)
    (case lK_TOKENS_journal => k_is)
    (case vK_TOKENS_journal => exact ⟨rfl, _, _, rfl, by decide, .cons ⟨_, rfl⟩ (.cons ⟨_, rfl⟩ (.cons ⟨_, rfl⟩ (.nil)))⟩)
    (case aK_FREE => k_is)
    (case lK_FREE => k_is)
    (case vK_FREE => exact ⟨rfl, _, _, rfl, by decide, .cons rfl (.cons rfl (.cons rfl (.cons rfl (.nil))))⟩)
    (case lT_FREE_0 => k_is)
    (case vT_FREE_0 => exact ⟨rfl, _, _, rfl, by decide, .cons ⟨_, rfl⟩ (.cons ⟨_, rfl⟩ (.nil))⟩)
    (case lT_FREE_1 => k_is)
    (case vT_FREE_1 => exact ⟨rfl, _, _, rfl, by decide, .cons ⟨_, rfl⟩ (.cons ⟨_, rfl⟩ (.nil))⟩)
    (case lT_FREE_2 => k_is)
    (case vT_FREE_2 => exact ⟨rfl, _, _, rfl, by decide, .cons ⟨_, rfl⟩ (.cons ⟨_, rfl⟩ (.nil))⟩)
    (case lT_FREE_3 => k_is)
    (case vT_FREE_3 => exact ⟨rfl, _, _, rfl, by decide, .cons ⟨_, rfl⟩ (.cons ⟨_, rfl⟩ (.nil))⟩)
    (case aK_BEGINNING => k_is)
    (case lK_BEGINNING => k_is)
    (case vK_BEGINNING => exact ⟨rfl, _, _, rfl, by decide, .cons rfl (.nil)⟩)
    (case lT_BEGINNING_0 => k_is)
    (case vT_BEGINNING_0 => exact ⟨rfl, _, _, rfl, by decide, .cons ⟨_, rfl⟩ (.cons ⟨_, rfl⟩ (.nil))⟩)
    (case aK_BEHIND_OUT => k_is)
    (case lK_BEHIND_OUT => k_is)
    (case vK_BEHIND_OUT => exact ⟨rfl, _, _, rfl, by decide, .cons rfl (.nil)⟩)
    (case lT_BEHIND_OUT_0 => k_is)
    (case vT_BEHIND_OUT_0 => exact ⟨rfl, _, _, rfl, by decide, .cons ⟨_, rfl⟩ (.cons ⟨_, rfl⟩ (.nil))⟩)
    (case aK_ANSWERS_TO_PIECE => k_is)
    (case lK_ANSWERS_TO_PIECE => k_is)
    (case vK_ANSWERS_TO_PIECE => exact ⟨rfl, _, _, rfl, by decide, .cons rfl (.cons rfl (.cons rfl (.nil)))⟩)
    (case lT_ANSWERS_TO_PIECE_0 => k_is)
    (case vT_ANSWERS_TO_PIECE_0 => exact ⟨rfl, _, _, rfl, by decide, .cons ⟨_, rfl⟩ (.cons ⟨_, rfl⟩ (.nil))⟩)
    (case lT_ANSWERS_TO_PIECE_1 => k_is)
    (case vT_ANSWERS_TO_PIECE_1 => exact ⟨rfl, _, _, rfl, by decide, .cons ⟨_, rfl⟩ (.cons ⟨_, rfl⟩ (.nil))⟩)
    (case lT_ANSWERS_TO_PIECE_2 => k_is)
    (case vT_ANSWERS_TO_PIECE_2 => exact ⟨rfl, _, _, rfl, by decide, .cons ⟨_, rfl⟩ (.cons ⟨_, rfl⟩ (.nil))⟩)
    (case aK_ANSWERS_TO_IN => k_is)
    (case lK_ANSWERS_TO_IN => k_is)
    (case vK_ANSWERS_TO_IN => exact ⟨rfl, _, _, rfl, by decide, .cons rfl (.cons rfl (.cons rfl (.nil)))⟩)
    (case lT_ANSWERS_TO_IN_0 => k_is)
    (case vT_ANSWERS_TO_IN_0 => exact ⟨rfl, _, _, rfl, by decide, .cons ⟨_, rfl⟩ (.cons ⟨_, rfl⟩ (.nil))⟩)
    (case lT_ANSWERS_TO_IN_1 => k_is)
    (case vT_ANSWERS_TO_IN_1 => exact ⟨rfl, _, _, rfl, by decide, .cons ⟨_, rfl⟩ (.cons ⟨_, rfl⟩ (.nil))⟩)
    (case lT_ANSWERS_TO_IN_2 => k_is)
    (case vT_ANSWERS_TO_IN_2 => exact ⟨rfl, _, _, rfl, by decide, .cons ⟨_, rfl⟩ (.cons ⟨_, rfl⟩ (.nil))⟩)
    (case aK_BEHIND_GIVEN => k_is)
    (case lK_BEHIND_GIVEN => k_is)
    (case vK_BEHIND_GIVEN => exact ⟨rfl, _, _, rfl, by decide, .cons rfl (.nil)⟩)
    (case lT_BEHIND_GIVEN_0 => k_is)
    (case vT_BEHIND_GIVEN_0 => exact ⟨rfl, _, _, rfl, by decide, .cons ⟨_, rfl⟩ (.cons ⟨_, rfl⟩ (.nil))⟩)
    (case z_all => k_is)
    (case z_bool => k_is)
    (case z_enumerate => k_is)
    (case z_int => k_is)
    (case z_isinstance => k_is)
    (case z_len => k_is)
    (case z_list => k_is)
    (case z_range => k_is)
    (case z_str => k_is)
    (case z_tuple => k_is)
