import PyProof.Rows.All
import Wide.All
import OpenK.AllK
import Wide.FinOn
import HandS.ForMost
import HandS.ForExc
import HandS.IsInst
import HandS.ExcIs
import HandS.Style
import HandS.TupAny
import HandS.TupMul
import HandS.Wide
import HandS.WideBits
import KE.BitLaws
import PySem.Challenge.RW_plugtree_k01_bits_of_numbers
set_option Elab.async false
set_option maxRecDepth 100000
set_option maxHeartbeats 4000000
set_option linter.all false

namespace My
open PySem PySem.Spec PyProof.Rows L2

/-! ### readings by short names -/
abbrev rAddI : R2 := rI0 fun i j => .int (i + j)
abbrev rSubI : R2 := rI0 fun i j => .int (i - j)
abbrev rMulI : R2 := rI CMul fun i j => .int (i * j)
abbrev rModI : R2 := rI (fun _ j => 0 < j) fun i j => .int (i % j)
abbrev rDivW : R2 := rI CDivW fun i j => .int (i / j)
abbrev rPowI : R2 := rI CPow fun i j => .int (i ^ j.toNat)
abbrev rShlI : R2 := rI CPow fun i j => .int (i * 2 ^ j.toNat)
abbrev rShrI : R2 := rI (fun _ j => 0 ≤ j) fun i j => .int (i / 2 ^ j.toNat)
abbrev rAndI : R2 := rI0 fun i j => .int (Builtin.bitAnd i j)
abbrev rOrI : R2 := rI0 fun i j => .int (Builtin.bitOr i j)
abbrev rXorI : R2 := rI0 fun i j => .int (Builtin.bitXor i j)
abbrev rLtI : R2 := rI0 fun i j => .bl (decide (i < j))
abbrev rLeI : R2 := rI0 fun i j => .bl (decide (i ≤ j))
abbrev rGtI : R2 := rI0 fun i j => .bl (decide (j < i))
abbrev rGeI : R2 := rI0 fun i j => .bl (decide (j ≤ i))
abbrev rNegI : V → Hp → VK → Prop := rU fun i => .int (-i)
abbrev rIsN : R2 := fun x y H Q => y = .non ∧ Q (.bl (decide (x = .non))) H
abbrev rNotN : R2 := fun x y H Q => y = .non ∧ Q (.bl (!decide (x = .non))) H
abbrev rAddStr : R2 := fun x y H Q => ∃ i j, x = .str i ∧ y = .str j ∧ i.length + j.length ≤ sizeLine ∧ Q (.str (i ++ j)) H
abbrev rLenQ (K : PySem.W.Frag) : List V → Hp → VK → Prop := fun xs H Q => ∃ p ys, xs = [.ref p] ∧ (SqL K H p ys ∨ SqT K H p ys) ∧ Q (.int ys.length) H
abbrev rListOf (K : PySem.W.Frag) : List V → Hp → VK → Prop := fun xs H Q => ∃ p ys, xs = [.ref p] ∧ (SqL K H p ys ∨ SqT K H p ys) ∧ ∀ l, H l = none → Q (.ref l) (upd H l (.lst ys))
abbrev rTupleOf (K : PySem.W.Frag) : List V → Hp → VK → Prop := fun xs H Q => ∃ p ys, xs = [.ref p] ∧ ((SqL K H p ys ∧ ∀ l, H l = none → Q (.ref l) (upd H l (.tup ys))) ∨ (SqT K H p ys ∧ Q (.ref p) H))
def tRaiseC (C : Addr) (E : XK) : TS := fun _ _ H => E (.ref C) none H

/-! ### what stays -/
abbrev Ex (H H' : Hp) : Prop := Same H H'
theorem Ex.new {H : Hp} {p : Addr} {o : HO} (h : H p = none) : Ex H (upd H p o) := fun a u e => by
  rw [upd_ne (ne_of_none e h)]
  exact e
theorem Ex.mut {H H' : Hp} {p : Addr} {o : HO} (e : Ex H H') (h : H p = none) : Ex H (upd H' p o) := fun a u ha => by
  rw [upd_ne (ne_of_none ha h)]
  exact e a u ha
theorem Ex.sqL {K : PySem.W.Frag} {H H' : Hp} {a : Addr} {xs : List V} (e : Ex H H') (h : SqL K H a xs) : SqL K H' a xs := by
  rcases h with (h | ⟨o, h⟩) | h
  · exact .inl (.inl (e _ _ h))
  · exact .inl (.inr ⟨o, e _ _ h⟩)
  · exact .inr h
theorem Ex.sqT {K : PySem.W.Frag} {H H' : Hp} {a : Addr} {xs : List V} (e : Ex H H') (h : SqT K H a xs) : SqT K H' a xs := by
  rcases h with (h | ⟨o, h⟩) | h
  · exact .inl (.inl (e _ _ h))
  · exact .inl (.inr ⟨o, e _ _ h⟩)
  · exact .inr h
mutual
theorem Ex.dp {K : PySem.W.Frag} {H H' : Hp} (e : Ex H H') : ∀ (d : PyData) (v : V), Dp K H v d → Dp K H' v d
  | .none, _, h => by cases h; exact .non
  | .bool b, _, h => by cases h; exact .bl b
  | .int i, _, h => by cases h; exact .int i
  | .str x, _, h => by cases h; exact .str x
  | .list ds, _, h => by
    cases h with
    | lst hs ha => exact .lst (e.sqL hs) (Ex.dpAll e ds _ ha)
  | .tuple ds, _, h => by
    cases h with
    | tup hs ha => exact .tup (e.sqT hs) (Ex.dpAll e ds _ ha)
  | .dict _, _, h => by cases h
theorem Ex.dpAll {K : PySem.W.Frag} {H H' : Hp} (e : Ex H H') : ∀ (ds : List PyData) (vs : List V), DpAll K H vs ds → DpAll K H' vs ds
  | [], _, h => by cases h; exact .nil
  | d :: ds, _, h => by
    cases h with
    | cons h1 h2 => exact .cons (Ex.dp e d _ h1) (Ex.dpAll e ds _ h2)
end
theorem DpAll.len {K : PySem.W.Frag} {H : Hp} : ∀ {ds : List PyData} {vs : List V}, DpAll K H vs ds → vs.length = ds.length
  | [], _, h => by cases h; rfl
  | d :: ds, _, h => by
    cases h with
    | cons h1 h2 => rw [List.length_cons, List.length_cons, DpAll.len h2]
theorem DpAll.get {K : PySem.W.Frag} {H : Hp} : ∀ {ds : List PyData} {vs : List V} {i : Nat} {d : PyData}, DpAll K H vs ds → ds[i]? = some d → ∃ v, vs[i]? = some v ∧ Dp K H v d
  | [], _, i, d, h, e => by simp at e
  | x :: ds, _, 0, d, h, e => by
    cases h with
    | cons h1 h2 =>
      simp at e
      subst e
      exact ⟨_, rfl, h1⟩
  | x :: ds, _, i + 1, d, h, e => by
    cases h with
    | cons h1 h2 =>
      obtain ⟨v, e1, e2⟩ := DpAll.get (i := i) (d := d) h2 (by simpa using e)
      exact ⟨v, by simpa using e1, e2⟩
theorem DpAll.ints {K : PySem.W.Frag} {H : Hp} : ∀ ns : List Int, DpAll K H (ns.map V.int) (ns.map PyData.int)
  | [] => .nil
  | n :: ns => .cons (.int n) (DpAll.ints ns)
theorem Dp.ints {K : PySem.W.Frag} {H : Hp} {p : Addr} {ns : List Int} (h : SqL K H p (ns.map V.int)) : Dp K H (.ref p) (.list (ns.map PyData.int)) := .lst h (DpAll.ints ns)
theorem Dp.intsT {K : PySem.W.Frag} {H : Hp} {p : Addr} {ns : List Int} (h : SqT K H p (ns.map V.int)) : Dp K H (.ref p) (.tuple (ns.map PyData.int)) := .tup h (DpAll.ints ns)

/-! ### isinstance of data -/
def tyName : PyData → String
  | .none => "NoneType" | .bool _ => "bool" | .int _ => "int" | .str _ => "str" | .list _ => "list" | .tuple _ => "tuple" | .dict _ => "dict"
theorem Dp.ty {K : PySem.W.Frag} {H : Hp} {d : PyData} {v : V} (h : Dp K H v d) : TyX K H v (.type (tyName d)) := by
  cases h with
  | non => exact .base .non
  | bl b => exact .base (.bl b)
  | int i => exact .base (.int i)
  | str x => exact .base (.str x)
  | lst hs _ =>
    rcases hs with (e | ⟨o, e⟩) | ⟨o, its, n, e, c, _⟩
    · exact .base (.lst e)
    · exact .base (.frz e)
    · exact .kList e c
  | tup hs _ =>
    rcases hs with (e | ⟨o, e⟩) | ⟨o, its, n, e, c, _⟩
    · exact .base (.tup e)
    · exact .fTuple e
    · exact .kTuple e c
def isTypN (n T : String) : Bool := n == T || (n == "bool" && T == "int")
def isTyp (d : PyData) (T : String) : Bool := isTypN (tyName d) T
theorem kitNames : ∀ n ∈ ["NoneType", "int", "bool", "str", "list", "tuple"], ∀ T ∈ ["int", "bool", "str", "list", "tuple"], kitB n T = some (isTypN n T) := by decide +kernel
/-- isinstance(x, T), T one of the five -/
theorem isi {K : PySem.W.Frag} {H : Hp} {d : PyData} {v : V} {T : String} {Q : VK} (h : Dp K H v d) (hT : T ∈ ["int", "bool", "str", "list", "tuple"]) (q : Q (.bl (isTyp d T)) H) :
    rIsi K [v, .ty T] H Q := by
  refine ⟨v, .ty T, _, _, isTyp d T, rfl, .ty T, Dp.ty h, kit_ty (kitNames _ ?_ _ hT), q⟩
  cases h <;> simp [tyName]

/-! ### going on -/
theorem iteB {c : Bool} {A B : Prop} (h1 : c = true → A) (h2 : c = false → B) : if c = true then A else B := by
  cases c with
  | true => rw [if_pos rfl]; exact h1 rfl
  | false => rw [if_neg Bool.false_ne_true]; exact h2 rfl
theorem iteP {p : Prop} [Decidable p] {A B : Prop} (h1 : p → A) (h2 : ¬ p → B) : if decide p = true then A else B :=
  iteB (fun h => h1 (of_decide_eq_true h)) (fun h => h2 (of_decide_eq_false h))
theorem iteNP {p : Prop} [Decidable p] {A B : Prop} (h1 : ¬ p → A) (h2 : p → B) : if (!decide p) = true then A else B := by
  by_cases h : p
  · rw [decide_eq_true h]
    exact iteF (h2 h)
  · rw [decide_eq_false h]
    exact iteT (h1 h)
theorem cmulR {i j : Int} (h : -(2 ^ 64) < j ∧ j < 2 ^ 64) : CMul i j := .inr h
theorem cmulL {i j : Int} (h : -(2 ^ 64) < i ∧ i < 2 ^ 64) : CMul i j := .inl h
theorem cdivS {i j : Int} (h : 0 < j) (h2 : j < 2 ^ 1000) : CDivW i j := wide_div (b := 1000) h (by omega) (by decide) (by decide)
/-! ### loops -/
theorem forL {K : PySem.W.Frag} {tl : TE} {g : TG} {tb : TS} {D : Ends} {σ : L2.St} {H : Hp} {a : Addr} {xs : List V} (i : Nat) (Pv : Nat → L2.St → Hp → Prop) (ht : ∀ R : VK, R (.ref a) H → tl σ H R) (hS : SqL K H a xs) (h0 : Pv 0 σ H)
    (hl : ∀ j σ H, Pv j σ H → SqL K H a xs) (hs : ∀ j x σ H, xs[j]? = some x → Pv j σ H → tb { D with nx := Pv (j + 1), ct := Pv (j + 1), bk := D.nx } (σ.set i (some x)) H) (hd : ∀ σ H, Pv xs.length σ H → D.nx σ H)
    (hg : g = gName i := by rfl) : tFor (iList K tl) g tb D σ H := by
  subst hg
  exact ht _ ⟨a, rfl, ⟨xs, hS⟩, for_list (xs := xs) Pv h0 (fun j σ H _ p => hl j σ H p) (fun j x σ H e p => hs j x σ H e p) hd⟩
theorem forT {K : PySem.W.Frag} {tl : TE} {g : TG} {tb : TS} {D : Ends} {σ : L2.St} {H : Hp} {a : Addr} {xs : List V} (i : Nat) (Pv : Nat → L2.St → Hp → Prop) (ht : ∀ R : VK, R (.ref a) H → tl σ H R) (hS : SqT K H a xs) (h0 : Pv 0 σ H)
    (hl : ∀ j σ H, Pv j σ H → SqT K H a xs) (hs : ∀ j x σ H, xs[j]? = some x → Pv j σ H → tb { D with nx := Pv (j + 1), ct := Pv (j + 1), bk := D.nx } (σ.set i (some x)) H) (hd : ∀ σ H, Pv xs.length σ H → D.nx σ H)
    (hg : g = gName i := by rfl) : tFor (iTup K tl) g tb D σ H := by
  subst hg
  exact ht _ ⟨a, rfl, ⟨xs, hS⟩, for_tup (xs := xs) Pv h0 (fun j σ H _ p => hl j σ H p) (fun j x σ H e p => hs j x σ H e p) hd⟩
theorem forR {ta : TA} {g : TG} {tb : TS} {D : Ends} {σ : L2.St} {H : Hp} {n : Int} (i : Nat) (Pv : Nat → L2.St → Hp → Prop) (ht : ∀ R : List V → Hp → Prop, R [.int n] H → ta σ H R) (hn : n ≤ 2 ^ 60) (hn0 : -(2 ^ 60) ≤ n) (h0 : Pv 0 σ H)
    (hs : ∀ (j : Nat) σ H, (j : Int) < n → Pv j σ H → tb { D with nx := Pv (j + 1), ct := Pv (j + 1), bk := D.nx } (σ.set i (some (.int (j : Nat)))) H) (hd : ∀ σ H, Pv n.toNat σ H → D.nx σ H)
    (hg : g = gName i := by rfl) : tFor (iRng1 ta) g tb D σ H := by
  subst hg
  refine ht _ ⟨n, rfl, by omega, by omega, for_range (lo := 0) (n := n.toNat) Pv h0 (fun j σ H hj p => ?_) hd⟩
  have e : (0 : Int) + (j : Nat) = (j : Nat) := Int.zero_add _
  rw [e]
  exact hs j σ H (by omega) p
theorem forE {K : PySem.W.Frag} {ta : TA} {g : TG} {tb : TS} {D : Ends} {σ : L2.St} {H : Hp} {a : Addr} {xs : List V} (i1 i2 : Nat) (Pv : Nat → L2.St → Hp → Prop) (ht : ∀ R : List V → Hp → Prop, R [.ref a] H → ta σ H R) (hS : SqL K H a xs) (h0 : Pv 0 σ H)
    (hl : ∀ j σ H, Pv j σ H → SqL K H a xs) (hx : ∀ j σ H T o, Pv j σ H → H T = none → Pv j σ (upd H T o))
    (hs : ∀ j x σ H, xs[j]? = some x → Pv j σ H → tb { D with nx := Pv (j + 1), ct := Pv (j + 1), bk := D.nx } ((σ.set i1 (some (.int (j : Nat)))).set i2 (some x)) H) (hd : ∀ σ H, Pv xs.length σ H → D.nx σ H)
    (hg : g = gTup K 2 (gCons (gName i1) (gCons (gName i2) gNil)) := by rfl) : tFor (iEnum K ta) g tb D σ H := by
  subst hg
  refine ht _ ⟨a, xs, rfl, hS, fun i m σ H => m = xs.length - i ∧ i ≤ xs.length ∧ Pv i σ H, ⟨xs.length, by simp, Nat.zero_le _, h0⟩, ?_⟩
  rintro i m σ H ⟨rfl, hi, p⟩
  have q := hl i σ H p
  by_cases hlt : i < xs.length
  · refine .inr ⟨⟨xs, xs[i], q, by simp [hlt]⟩, Pv (i + 1), fun σ' H' p' => ⟨xs.length - (i + 1), by omega, rfl, hlt, p'⟩, fun x H' y => ?_⟩
    obtain ⟨T, x', rfl, hT, rfl, hq⟩ := y
    exact ⟨T, _, rfl, SqT.of upd_same, rfl, _, _, rfl, _, _, rfl, rfl, hs i x' σ _ (hq xs q) (hx i σ H T _ p hT)⟩
  · have e : i = xs.length := by omega
    subst e
    exact .inl ⟨⟨xs, q, Nat.le_refl _⟩, hd σ H p⟩
/-- what a comprehension makes: item by item -/
def Made (n : Nat) (P : Nat → V → Hp → Prop) (ys : List V) (H : Hp) : Prop := ys.length = n ∧ ∀ j, j < n → ∃ v, ys[j]? = some v ∧ P j v H
theorem Made.more {n : Nat} {P : Nat → V → Hp → Prop} {ys : List V} {H H' : Hp} {v : V} (h : Made n P ys H) (hP : ∀ j v, P j v H → P j v H') (hv : P n v H') : Made (n + 1) P (ys ++ [v]) H' := by
  obtain ⟨h1, h2⟩ := h
  refine ⟨by rw [List.length_append, h1]; rfl, fun j hj => ?_⟩
  by_cases e : j < n
  · obtain ⟨u, e1, e2⟩ := h2 j e
    exact ⟨u, by rw [List.getElem?_append_left (by omega)]; exact e1, hP _ _ e2⟩
  · have e' : j = n := by omega
    subst e'
    exact ⟨v, by rw [List.getElem?_append_right (by omega), h1, Nat.sub_self]; rfl, hv⟩
theorem Made.ints {n : Nat} {f : Nat → Int} {ys : List V} {H : Hp} (h : Made n (fun j v _ => v = .int (f j)) ys H) : ys = ((List.range n).map f).map V.int := by
  obtain ⟨h1, h2⟩ := h
  apply List.ext_getElem?
  intro j
  by_cases hj : j < n
  · obtain ⟨v, e1, e2⟩ := h2 j hj
    rw [e1, e2, List.map_map, List.getElem?_map, List.getElem?_range hj]
    rfl
  · rw [List.getElem?_eq_none (by omega), List.getElem?_eq_none (by simp; omega)]
theorem Made.bls {n : Nat} {f : Nat → Bool} {ys : List V} {H : Hp} (h : Made n (fun j v _ => v = .bl (f j)) ys H) : ys = ((List.range n).map f).map V.bl := by
  obtain ⟨h1, h2⟩ := h
  apply List.ext_getElem?
  intro j
  by_cases hj : j < n
  · obtain ⟨v, e1, e2⟩ := h2 j hj
    rw [e1, e2, List.map_map, List.getElem?_map, List.getElem?_range hj]
    rfl
  · rw [List.getElem?_eq_none (by omega), List.getElem?_eq_none (by simp; omega)]
theorem Made.all {K : PySem.W.Frag} {H : Hp} : ∀ {n : Nat} {ds : List PyData} {ys : List V}, Made n (fun j v H => ∃ d, ds[j]? = some d ∧ Dp K H v d) ys H → ds.length = n → DpAll K H ys ds
  | _, [], ys, h, e => by
    obtain ⟨h1, _⟩ := h
    have : ys = [] := List.length_eq_zero_iff.mp (by rw [h1, ← e]; rfl)
    subst this
    exact .nil
  | n, d :: ds, ys, h, e => by
    obtain ⟨h1, h2⟩ := h
    subst e
    cases ys with
    | nil => simp at h1
    | cons y ys =>
      obtain ⟨v, e1, d', e2, e3⟩ := h2 0 (by simp)
      simp at e1 e2
      subst e1 e2
      refine .cons e3 (Made.all (n := ds.length) ⟨by simpa using h1, fun j hj => ?_⟩ rfl)
      obtain ⟨v, e1, e2⟩ := h2 (j + 1) (by simp; omega)
      exact ⟨v, by simpa using e1, by simpa using e2⟩
/-! ### a heap without some objects -/
def wo (B : List Addr) (H : Hp) : Hp := fun b => if b ∈ B then none else H b
theorem wo_get {B : List Addr} {H : Hp} {b : Addr} (h : b ∉ B) : wo B H b = H b := if_neg h
theorem wo_nil {H : Hp} : wo [] H = H := funext fun _ => if_neg (List.not_mem_nil)
theorem wo_ex {B : List Addr} {H : Hp} : Ex (wo B H) H := fun b o h => by
  unfold wo at h
  split at h
  · cases h
  · exact h
theorem Ex.wo {B : List Addr} {H H' : Hp} (e : Ex H H') : Ex (wo B H) (wo B H') := fun b o h => by
  unfold My.wo at h ⊢
  split at h
  · cases h
  · rename_i z
    rw [if_neg z]
    exact e b o h
theorem Ex.woN {B : List Addr} {H H' : Hp} (e : Ex H H') (h : ∀ b, b ∈ B → H b = none) : Ex H (My.wo B H') := fun b o hb => by
  rw [wo_get (fun z => by rw [h b z] at hb; cases hb)]
  exact e b o hb
theorem wo_upd {B : List Addr} {H : Hp} {p : Addr} {o : HO} (h : p ∈ B) : wo B (upd H p o) = wo B H := funext fun b => by
  unfold wo
  split
  · rfl
  · rename_i z
    exact upd_ne fun e => z (e ▸ h)
theorem wo_wo {B C : List Addr} {H : Hp} : wo B (wo C H) = wo (C ++ B) H := funext fun b => by
  unfold wo
  by_cases h1 : b ∈ B <;> by_cases h2 : b ∈ C <;> simp [h1, h2]
theorem wo_mono {B C : List Addr} {H : Hp} (h : ∀ b, b ∈ C → b ∈ B) : Ex (wo B H) (wo C H) := fun b o hb => by
  unfold wo at hb ⊢
  split at hb
  · cases hb
  · rename_i z
    rw [if_neg fun q => z (h b q)]
    exact hb
theorem there_not {B : List Addr} {H : Hp} (h : ∀ b, b ∈ B → H b ≠ none) {p : Addr} (hp : H p = none) : p ∉ B := fun z => h p z hp
theorem Ex.there {H H' : Hp} (e : Ex H H') {b : Addr} (h : H b ≠ none) : H' b ≠ none := by
  cases q : H b with
  | none => exact absurd q h
  | some o =>
    rw [e b o q]
    exact fun z => by cases z
/-- [e for i in range(n)]: the new list at D; what an item is told of is not D -/
theorem lcR {ta : TA} {g : TG} {tt : TT} {te : TE} {vs : List Nat} {σ : L2.St} {H : Hp} {Q : VK} {n : Int} (i : Nat) (P : Nat → V → Hp → Prop) (ht : ∀ R : List V → Hp → Prop, R [.int n] H → ta σ H R) (hn0 : 0 ≤ n) (hn : n ≤ 100000)
    (hP : ∀ j v H H', Ex H H' → P j v H → P j v H')
    (hw : ∀ x, wipe ((wipe σ vs).set i (some x)) vs = wipe σ vs)
    (he : ∀ (j : Nat) D H1 (Q1 : VK), (j : Int) < n → H D = none → H1 D ≠ none → Ex H (wo [D] H1) → (∀ v H2, Ex H1 H2 → P j v (wo [D] H2) → Q1 v H2) → te ((wipe σ vs).set i (some (.int (j : Nat)))) H1 Q1)
    (k : ∀ D H' ys, H D = none → Ex H (wo [D] H') → H' D = some (.lst ys) → Made n.toNat P ys (wo [D] H') → Q (.ref D) H')
    (hg : g = gName i := by rfl) (htt : tt = tYes := by rfl) : tLc (iRng1 ta) g tt te vs σ H Q := by
  subst hg htt
  refine ht _ ⟨n, rfl, by omega, by omega, fun D hD => ?_⟩
  refine lc_range (lo := 0) (n := n.toNat) (fun j H' => Ex H (wo [D] H') ∧ ∃ ys, H' D = some (.lst ys) ∧ Made j P ys (wo [D] H')) ⟨?_, [], upd_same, rfl, fun j hj => absurd hj (Nat.not_lt_zero j)⟩ (fun j H' hj p => ?_) (fun H' p => ?_)
  · exact (Ex.new hD).woN fun b hb => by rw [List.mem_singleton.mp hb]; exact hD
  · obtain ⟨e, ys, hy, hm⟩ := p
    have e0 : (0 : Int) + (j : Nat) = (j : Nat) := Int.zero_add _
    rw [e0]
    refine ⟨hw _, ?_⟩
    simp only [tYes, if_true]
    refine he j D H' _ (by omega) hD (by rw [hy]; exact fun z => by cases z) e (fun v H2 e2 hv => ⟨ys, e2 _ _ hy, ?_, ?_, ys ++ [v], upd_same, ?_⟩)
    · rw [hm.1]
      exact Nat.lt_of_lt_of_le (show j < 100000 by omega) (by decide)
    · rw [wo_upd (List.mem_singleton.mpr rfl)]
      exact e.trans e2.wo
    · rw [wo_upd (List.mem_singleton.mpr rfl)]
      exact hm.more (fun j u hu => hP _ _ _ _ e2.wo hu) hv
  · obtain ⟨e, ys, hy, hm⟩ := p
    exact k D H' ys hD e hy hm
/-! ### isinstance of the exception that a suite holds -/
def rIsE2 (K : PySem.W.Frag) (D a : Addr) (cls : Value) (d : Option Addr) : List V → Hp → VK → Prop := fun xs H Q => cls = .ref D ∧ d = none ∧ rIsE K D a xs H Q
theorem call_isE2 {X : Cx} {a D : Addr} {oe : Obj} {pn : List (Addr × Obj)} {cls : Value} {d : Option Addr} (C : ExcC X.K D) (hz : Zc cls d oe) (hf : ∃ vs, oe.data = .fields vs) :
    CallR (X.suite a ((a, oe) :: pn)) (.builtin "isinstance") (rIsE2 X.K D a cls d) := by
  intro pins s σ H xs us Q I r h
  obtain ⟨rfl, rfl, h⟩ := h
  exact call_isE C hz hf pins s σ H xs us Q I r h
end My

namespace My
open PySem PySem.Spec PyProof.Rows L2
def topS (i : Nat) : Stmt := PySem.Challenge.pw_plugtree_k01_bits_of_numbers.main.body.getD i (.Pass ⟨0, 0, 0, 0⟩)
abbrev s_is_number : Stmt := topS 4
abbrev s_need_number : Stmt := topS 5
abbrev s_bits_of : Stmt := topS 6
abbrev s_number_of : Stmt := topS 7
abbrev s_turned_about : Stmt := topS 8
abbrev s__law_bag : Stmt := topS 10
abbrev s__law_pull : Stmt := topS 11
abbrev s__law_whole : Stmt := topS 12
abbrev s__law_same : Stmt := topS 13
abbrev s__law_bits : Stmt := topS 14
abbrev s__law_high : Stmt := topS 15
abbrev s__law_said : Stmt := topS 16
abbrev s_law : Stmt := topS 17
structure Ad where
  f_is_number : Addr
  d_is_number : FuncData
  f_need_number : Addr
  d_need_number : FuncData
  f_bits_of : Addr
  d_bits_of : FuncData
  f_number_of : Addr
  d_number_of : FuncData
  f_turned_about : Addr
  d_turned_about : FuncData
  f__law_bag : Addr
  d__law_bag : FuncData
  f__law_pull : Addr
  d__law_pull : FuncData
  f__law_whole : Addr
  d__law_whole : FuncData
  f__law_same : Addr
  d__law_same : FuncData
  f__law_bits : Addr
  d__law_bits : FuncData
  f__law_high : Addr
  d__law_high : FuncData
  f__law_said : Addr
  d__law_said : FuncData
  f_law : Addr
  d_law : FuncData
  c_BusError : Addr
  c_BadNumber : Addr
structure Txt (K : PySem.W.Frag) (mg : Str → Option Value) (a : Ad) : Prop where
  F_is_number : Fun K "is_number" "is_number" s_is_number a.f_is_number a.d_is_number
  g_is_number : mg "is_number" = some (.ref a.f_is_number)
  b_is_number : Binds K a.d_is_number ["value", "low", "high"] []
  F_need_number : Fun K "need_number" "need_number" s_need_number a.f_need_number a.d_need_number
  g_need_number : mg "need_number" = some (.ref a.f_need_number)
  b_need_number : Binds K a.d_need_number ["number", "low", "high"] []
  F_bits_of : Fun K "bits_of" "bits_of" s_bits_of a.f_bits_of a.d_bits_of
  g_bits_of : mg "bits_of" = some (.ref a.f_bits_of)
  b_bits_of : Binds K a.d_bits_of ["number", "many"] []
  F_number_of : Fun K "number_of" "number_of" s_number_of a.f_number_of a.d_number_of
  g_number_of : mg "number_of" = some (.ref a.f_number_of)
  b_number_of : Binds K a.d_number_of ["row"] []
  F_turned_about : Fun K "turned_about" "turned_about" s_turned_about a.f_turned_about a.d_turned_about
  g_turned_about : mg "turned_about" = some (.ref a.f_turned_about)
  b_turned_about : Binds K a.d_turned_about ["number", "many"] []
  F__law_bag : Fun K "_law_bag" "_law_bag" s__law_bag a.f__law_bag a.d__law_bag
  g__law_bag : mg "_law_bag" = some (.ref a.f__law_bag)
  b__law_bag : Binds K a.d__law_bag ["_law_script"] []
  F__law_pull : Fun K "_law_pull" "_law_pull" s__law_pull a.f__law_pull a.d__law_pull
  g__law_pull : mg "_law_pull" = some (.ref a.f__law_pull)
  b__law_pull : Binds K a.d__law_pull ["_law_bag_here", "_law_upto"] []
  F__law_whole : Fun K "_law_whole" "_law_whole" s__law_whole a.f__law_whole a.d__law_whole
  g__law_whole : mg "_law_whole" = some (.ref a.f__law_whole)
  b__law_whole : Binds K a.d__law_whole ["_law_found"] []
  F__law_same : Fun K "_law_same" "_law_same" s__law_same a.f__law_same a.d__law_same
  g__law_same : mg "_law_same" = some (.ref a.f__law_same)
  b__law_same : Binds K a.d__law_same ["_law_found", "_law_due"] []
  F__law_bits : Fun K "_law_bits" "_law_bits" s__law_bits a.f__law_bits a.d__law_bits
  g__law_bits : mg "_law_bits" = some (.ref a.f__law_bits)
  b__law_bits : Binds K a.d__law_bits ["_law_number", "_law_many"] []
  F__law_high : Fun K "_law_high" "_law_high" s__law_high a.f__law_high a.d__law_high
  g__law_high : mg "_law_high" = some (.ref a.f__law_high)
  b__law_high : Binds K a.d__law_high ["_law_row"] []
  F__law_said : Fun K "_law_said" "_law_said" s__law_said a.f__law_said a.d__law_said
  g__law_said : mg "_law_said" = some (.ref a.f__law_said)
  b__law_said : Binds K a.d__law_said ["_law_which", "_law_number", "_law_many"] []
  F_law : Fun K "law" "law" s_law a.f_law a.d_law
  g_law : mg "law" = some (.ref a.f_law)
  b_law : Binds K a.d_law ["_law_script"] []
  gC_BusError : mg "BusError" = some (.ref a.c_BusError)
  gC_BadNumber : mg "BadNumber" = some (.ref a.c_BadNumber)
  xC_BadNumber : PySem.W.excIn K a.c_BadNumber [.type "ValueError", .type "Exception", .type "BaseException", .type "object"] "ValueError.__new__" = true
  kC_BadNumber : PySem.W.keepIn K (.ref a.c_BadNumber) = true
  bC_BadNumber : PySem.W.subIn K (.ref a.c_BadNumber) (.type "BaseException") = some true
  tC_BadNumber : PySem.W.typeIn K (.ref a.c_BadNumber) = some (.type "type")
  m_BadNumber_BusError : PySem.W.exmOne K (.ref a.c_BadNumber) (.ref a.c_BusError) = some true
  e_BadNumber : ExcC K a.c_BadNumber
  kit_BadNumber_BadNumber : PySem.W.kitOne K (.ref a.c_BadNumber) (.ref a.c_BadNumber) = some true
  kit_BadNumber_ValueError : PySem.W.kitOne K (.ref a.c_BadNumber) (.type "ValueError") = some true
  n_ValueError : mg "ValueError" = none
  n_all : mg "all" = none
  n_bool : mg "bool" = none
  n_enumerate : mg "enumerate" = none
  n_int : mg "int" = none
  n_isinstance : mg "isinstance" = none
  n_len : mg "len" = none
  n_list : mg "list" = none
  n_range : mg "range" = none
  n_str : mg "str" = none
  n_tuple : mg "tuple" = none
/-! ### the mathematics -/
def bitsL (n : Int) (m : Nat) : List Int := (List.range m).map fun i => n / 2 ^ i % 2
def numOf : List Int → Int
  | [] => 0
  | b :: r => b + 2 * numOf r
def highOf (l : List Int) : Int := l.foldl (fun f b => 2 * f + b) 0
def Bit (l : List Int) : Prop := ∀ b ∈ l, b = 0 ∨ b = 1
def okD : Nat → PyData → Prop
  | _, .none => True
  | _, .bool _ => True
  | _, .int _ => True
  | _, .str _ => True
  | 0, .list _ => False
  | 0, .tuple _ => False
  | n + 1, .list ds => ds.length ≤ 1000 ∧ ∀ d ∈ ds, okD n d
  | n + 1, .tuple ds => ds.length ≤ 1000 ∧ ∀ d ∈ ds, okD n d
  | _, .dict _ => False
/-! ### the promises -/
/-- the bag of a law: the script, a place, what is left of a number, a knot -/
def Bag (K : PySem.W.Frag) (H : Hp) (p : Addr) : Prop := ∃ (c : Addr) (cs : List Int) (i s k : Int), H p = some (.lst [.ref c, .int i, .int s, .int k]) ∧ SqL K H c (cs.map V.int) ∧ cs.length ≤ 63 ∧ 0 ≤ i
def isNum (d : PyData) (lo hi : Int) : Bool := match d with
  | .int i => decide (lo ≤ i) && decide (i ≤ hi)
  | _ => false
def isInt (d : PyData) : Bool := match d with
  | .int _ => true
  | _ => false
def sp_is_number (K : PySem.W.Frag) (_ : Ad) : Sp := fun vs H Q _ => ∃ (v : V) (d : PyData) (lo hi : Int), vs = [v, .int lo, .int hi] ∧ Dp K H v d ∧ (∀ b, d ≠ .bool b) ∧ Q (.bl (isNum d lo hi)) H
def sp_need_number (_ : PySem.W.Frag) (a : Ad) : Sp := fun vs H Q E => ∃ n lo hi : Int, vs = [.int n, .int lo, .int hi] ∧ (lo ≤ n ∧ n ≤ hi → Q .non H) ∧ (¬ (lo ≤ n ∧ n ≤ hi) → E (.ref a.c_BadNumber) none H)
def bitsOk (n m : Int) : Prop := 0 ≤ n ∧ 0 ≤ m ∧ m ≤ 64
def sp_bits_of (_ : PySem.W.Frag) (a : Ad) : Sp := fun vs H Q E => ∃ n m : Int, vs = [.int n, .int m] ∧
  (bitsOk n m → ∀ p H', H p = none → Ex H H' → H' p = some (.lst ((bitsL n m.toNat).map V.int)) → Q (.ref p) H') ∧ (¬ bitsOk n m → E (.ref a.c_BadNumber) none H)
def sp_number_of (K : PySem.W.Frag) (_ : Ad) : Sp := fun vs H Q _ => ∃ (p : Addr) (l : List Int), vs = [.ref p] ∧ SqL K H p (l.map V.int) ∧ Bit l ∧ l.length ≤ 1000 ∧ ∀ H', Ex H H' → Q (.int (numOf l)) H'
def sp_turned_about (_ : PySem.W.Frag) (a : Ad) : Sp := fun vs H Q E => ∃ n m : Int, vs = [.int n, .int m] ∧
  (bitsOk n m → ∀ H', Ex H H' → Q (.int (numOf (bitsL n m.toNat).reverse)) H') ∧ (¬ bitsOk n m → E (.ref a.c_BadNumber) none H)
def sp__law_bag (K : PySem.W.Frag) (_ : Ad) : Sp := fun vs H Q _ => ∃ (p : Addr) (cs : List Int), vs = [.ref p] ∧ SqL K H p (cs.map V.int) ∧ cs.length ≤ 63 ∧ ∀ q H', H q = none → Ex H H' → Bag K H' q → Q (.ref q) H'
def sp__law_pull (K : PySem.W.Frag) (_ : Ad) : Sp := fun vs H Q _ => ∃ (p : Addr) (u : Int), vs = [.ref p, .int u] ∧ Bag K H p ∧ 0 < u ∧ u < 2 ^ 1000 ∧
  ∀ r H', 0 ≤ r → r < u → Bag K H' p → (∀ b, b ≠ p → H' b = H b) → Q (.int r) H'
def sp__law_whole (K : PySem.W.Frag) (_ : Ad) : Sp := fun vs H Q _ => ∃ (v : V) (d : PyData), vs = [v] ∧ Dp K H v d ∧ Q (.bl (isInt d)) H
def sp_same (n : Nat) (K : PySem.W.Frag) : Sp := fun vs H Q _ => ∃ (v w : V) (d : PyData), vs = [v, w] ∧ Dp K H v d ∧ Dp K H w d ∧ okD n d ∧ ∀ H', Ex H H' → Q (.bl true) H'
def sp__law_same (K : PySem.W.Frag) (_ : Ad) : Sp := sp_same 4 K
def sp__law_bits (_ : PySem.W.Frag) (_ : Ad) : Sp := fun vs H Q _ => ∃ n m : Int, vs = [.int n, .int m] ∧ 0 ≤ m ∧ m ≤ 1000 ∧ ∀ p H', H p = none → Ex H H' → H' p = some (.lst ((bitsL n m.toNat).map V.int)) → Q (.ref p) H'
def sp__law_high (K : PySem.W.Frag) (_ : Ad) : Sp := fun vs H Q _ => ∃ (p : Addr) (l : List Int), vs = [.ref p] ∧ SqL K H p (l.map V.int) ∧ Q (.int (highOf l)) H
def saidD (which n m : Int) : PyData := if 0 ≤ n ∧ 0 ≤ m ∧ m ≤ 64 then (if which = 0 then .list ((bitsL n m.toNat).map PyData.int) else .int (numOf (bitsL n m.toNat).reverse)) else .str "bad"
def sp__law_said (K : PySem.W.Frag) (_ : Ad) : Sp := fun vs H Q _ => ∃ (w n m : Int) (B : List Addr), vs = [.int w, .int n, .int m] ∧ (∀ b, b ∈ B → H b ≠ none) ∧ ∀ v H', Ex H H' → Dp K (wo B H') v (saidD w n m) → Q v H'
def spLaw (K : PySem.W.Frag) : Sp := fun vs H Q _ => ∃ (p : Addr) (cs : List Int), vs = [.ref p] ∧ SqL K H p (cs.map V.int) ∧ cs.length ≤ 63 ∧ ∀ H', Q (.bl true) H'
def sp_law (K : PySem.W.Frag) (_ : Ad) : Sp := spLaw K
/-! ### the mathematics, shown -/
theorem bitsL_len (n : Int) (m : Nat) : (bitsL n m).length = m := by simp [bitsL]
theorem bitsL_get {n : Int} {m j : Nat} (h : j < m) : (bitsL n m)[j]? = some (n / 2 ^ j % 2) := by
  simp [bitsL, h]
theorem bitsL_more (n : Int) (m : Nat) : bitsL n (m + 1) = bitsL n m ++ [n / 2 ^ m % 2] := by
  simp [bitsL, List.range_succ]
theorem bitsL_bit (n : Int) (m : Nat) : Bit (bitsL n m) := by
  intro b hb
  simp only [bitsL, List.mem_map] at hb
  obtain ⟨i, _, rfl⟩ := hb
  omega
theorem Bit.rev {l : List Int} (h : Bit l) : Bit l.reverse := fun b hb => h b (List.mem_reverse.mp hb)
theorem take_one {α : Type} : ∀ {l : List α} {i : Nat} {x : α}, l[i]? = some x → l.take (i + 1) = l.take i ++ [x]
  | [], i, x, h => by simp at h
  | a :: l, 0, x, h => by
    have e : a = x := Option.some.inj h
    subst e
    rfl
  | a :: l, i + 1, x, h => by
    have ih := take_one (l := l) (i := i) (x := x) h
    show a :: l.take (i + 1) = a :: l.take i ++ [x]
    rw [ih]
    rfl
theorem numOf_app : ∀ (l : List Int) (b : Int), numOf (l ++ [b]) = numOf l + b * 2 ^ l.length
  | [], b => by simp [numOf]
  | a :: l, b => by
    have ih := numOf_app l b
    show a + 2 * numOf (l ++ [b]) = a + 2 * numOf l + b * 2 ^ (l.length + 1)
    rw [ih, Int.pow_succ, Int.mul_add]
    have e : 2 * (b * 2 ^ l.length) = b * (2 ^ l.length * 2) := by
      rw [Int.mul_comm 2 (b * 2 ^ l.length), Int.mul_assoc]
    rw [e]
    omega
theorem numOf_take {l : List Int} {j : Nat} {b : Int} (h : l[j]? = some b) : numOf (l.take (j + 1)) = numOf (l.take j) + b * 2 ^ j := by
  have hl : j < l.length := (List.getElem?_eq_some_iff.mp h).1
  rw [take_one h, numOf_app, List.length_take, Nat.min_eq_left (by omega)]
theorem highOf_app (l : List Int) (b : Int) : highOf (l ++ [b]) = 2 * highOf l + b := by
  simp [highOf, List.foldl_append]
theorem highOf_rev : ∀ l : List Int, highOf l.reverse = numOf l
  | [] => rfl
  | b :: l => by
    rw [List.reverse_cons, highOf_app, highOf_rev l]
    show 2 * numOf l + b = b + 2 * numOf l
    omega
theorem highOf_num (l : List Int) : highOf l = numOf l.reverse := by
  have := highOf_rev l.reverse
  rw [List.reverse_reverse] at this
  exact this
theorem cutV_all {xs : List V} {k : Int} (h : (xs.length : Int) ≤ k) : cutV xs none (some k) = xs := by
  obtain ⟨n, rfl⟩ : ∃ n : Nat, k = n := ⟨k.toNat, by omega⟩
  unfold cutV
  rw [HT.sIx_none, HT.sIx_nat, List.drop_zero, Nat.min_eq_right (by omega), Nat.sub_zero, List.take_length]
theorem half_half (n : Int) (j : Nat) : n / 2 ^ j / 2 = n / 2 ^ (j + 1) := by
  rw [Int.pow_succ, Int.ediv_ediv_of_nonneg (Int.pow_nonneg (by decide))]
/-! ### is_number -/
abbrev N_is_number : List Str := ["value", "low", "high"]
abbrev P_is_number : List Str := ["value", "low", "high"]
theorem sc_is_number : FnScope N_is_number P_is_number (defScope s_is_number) := ⟨rfl, rfl, rfl, by decide +kernel, rfl, by decide +kernel, by decide +kernel⟩
def t_is_number (K : PySem.W.Frag) (a : Ad) : TS :=
    (tRet (tAndV (tCB (rIsi K) (tCons (tVar 0) (tCons (tC (.ty "int")) tNil))) (tChain rLeI rLeI (tVar 1) (tVar 0) (tVar 2))))
/-! ### need_number -/
abbrev N_need_number : List Str := ["number", "low", "high"]
abbrev P_need_number : List Str := ["number", "low", "high"]
theorem sc_need_number : FnScope N_need_number P_need_number (defScope s_need_number) := ⟨rfl, rfl, rfl, by decide +kernel, rfl, by decide +kernel, by decide +kernel⟩
def t_need_number (K : PySem.W.Frag) (a : Ad) (E : XK) : TS :=
    (tIfS (tNot (tB (tCall (sp_is_number K a) [] E0 (tCons (tVar 0) (tCons (tVar 1) (tCons (tVar 2) tNil)))))) (tRaiseC a.c_BadNumber E) tNext)
/-! ### bits_of -/
abbrev N_bits_of : List Str := ["number", "many", "place"]
abbrev P_bits_of : List Str := ["number", "many"]
theorem sc_bits_of : FnScope N_bits_of P_bits_of (defScope s_bits_of) := ⟨rfl, rfl, rfl, by decide +kernel, rfl, by decide +kernel, by decide +kernel⟩
def t_bits_of (K : PySem.W.Frag) (a : Ad) (E : XK) : TS :=
    (tSeq (tIfS (tTest (tOp rLtI (tVar 0) (tC (.int 0)))) (tRaiseC a.c_BadNumber E) tNext)
    (tSeq (tDrop (tCall (sp_need_number K a) [] E (tCons (tVar 1) (tCons (tC (.int 0)) (tCons (tC (.int 64)) tNil)))))
    (tRet (tLc (iRng1 (tCons (tVar 1) tNil)) (gName 2) tYes (tOp rAndI (tOp rShrI (tVar 0) (tVar 2)) (tC (.int 1))) [2]))))
/-! ### number_of -/
abbrev N_number_of : List Str := ["row", "number", "place", "bit"]
abbrev P_number_of : List Str := ["row"]
theorem sc_number_of : FnScope N_number_of P_number_of (defScope s_number_of) := ⟨rfl, rfl, rfl, by decide +kernel, rfl, by decide +kernel, by decide +kernel⟩
def t_number_of (K : PySem.W.Frag) (a : Ad) : TS :=
    (tSeq (tAsg (tC (.int 0)) (gName 1))
    (tSeq (tFor (iEnum K (tCons (tVar 0) tNil)) (gTup K 2 (gCons (gName 2) (gCons (gName 3) gNil))) (tAug 1 (tOp rShlI (tVar 3) (tVar 2)) (ipI fun i j => i + j)))
    (tRet (tVar 1))))
/-! ### turned_about -/
abbrev N_turned_about : List Str := ["number", "many"]
abbrev P_turned_about : List Str := ["number", "many"]
theorem sc_turned_about : FnScope N_turned_about P_turned_about (defScope s_turned_about) := ⟨rfl, rfl, rfl, by decide +kernel, rfl, by decide +kernel, by decide +kernel⟩
def t_turned_about (K : PySem.W.Frag) (a : Ad) (E : XK) : TS :=
    (tRet (tCall (sp_number_of K a) [] E0 (tCons (tRevL K (tCall (sp_bits_of K a) [] E (tCons (tVar 0) (tCons (tVar 1) tNil)))) tNil)))
/-! ### _law_bag -/
abbrev N__law_bag : List Str := ["_law_script", "_law_cells", "_law_knot", "_law_cell"]
abbrev P__law_bag : List Str := ["_law_script"]
theorem sc__law_bag : FnScope N__law_bag P__law_bag (defScope s__law_bag) := ⟨rfl, rfl, rfl, by decide +kernel, rfl, by decide +kernel, by decide +kernel⟩
def t__law_bag (K : PySem.W.Frag) (a : Ad) : TS :=
    (tSeq (tAsg (tCB (rListOf K) (tCons (tSl (rSlL K) (tVar 0) tNoPart (tPart (tC (.int 63)))) tNil)) (gName 1))
    (tSeq (tAsg (tOp rAddI (tC (.int 17)) (tCB (rLenQ K) (tCons (tVar 1) tNil))) (gName 2))
    (tSeq (tFor (iList K (tVar 1)) (gName 3) (tAsg (tOp rModI (tOp rAddI (tOp rMulI (tVar 2) (tC (.int 1543))) (tVar 3)) (tC (.int 2147483629))) (gName 2)))
    (tRet (tLst (tCons (tVar 1) (tCons (tC (.int 0)) (tCons (tC (.int 0)) (tCons (tVar 2) tNil)))))))))
/-! ### _law_pull -/
abbrev N__law_pull : List Str := ["_law_bag_here", "_law_upto", "_law_seed", "_law_fold", "_law_twist", "_law_drawn"]
abbrev P__law_pull : List Str := ["_law_bag_here", "_law_upto"]
theorem sc__law_pull : FnScope N__law_pull P__law_pull (defScope s__law_pull) := ⟨rfl, rfl, rfl, by decide +kernel, rfl, by decide +kernel, by decide +kernel⟩
def t__law_pull (K : PySem.W.Frag) (a : Ad) : TS :=
    (tSeq (tIfS (tTest (tOp rLtI (tOp (rIxL K) (tVar 0) (tC (.int 2))) (tC (.int 2)))) (tSeq (tAsg (tOp rAddI (tOp (rIxL K) (tVar 0) (tC (.int 1))) (tC (.int 1))) (gSub (tVar 0) (tC (.int 1)) rSetL))
    (tSeq (tAsg (tOp rAddI (tOp (rIxL K) (tVar 0) (tC (.int 3))) (tOp rMulI (tOp (rIxL K) (tVar 0) (tC (.int 1))) (tC (.int 7919)))) (gName 2))
    (tSeq (tIfS (tTest (tOp rLeI (tOp (rIxL K) (tVar 0) (tC (.int 1))) (tCB (rLenQ K) (tCons (tOp (rIxL K) (tVar 0) (tC (.int 0))) tNil)))) (tAsg (tOp (rIxL K) (tOp (rIxL K) (tVar 0) (tC (.int 0))) (tOp rSubI (tOp (rIxL K) (tVar 0) (tC (.int 1))) (tC (.int 1)))) (gName 2)) tNext)
    (tSeq (tIfS (tOr (tTest (tOp rGtI (tOp (rIxL K) (tVar 0) (tC (.int 1))) (tCB (rLenQ K) (tCons (tOp (rIxL K) (tVar 0) (tC (.int 0))) tNil)))) (tTest (tOp rLtI (tVar 2) (tOp rPowI (tC (.int 10)) (tC (.int 18)))))) (tSeq (tAsg (tOp rModI (tOp rAddI (tOp rAddI (tOp rMulI (tVar 2) (tC (.int 48271))) (tOp rMulI (tOp (rIxL K) (tVar 0) (tC (.int 1))) (tC (.int 40692)))) (tOp (rIxL K) (tVar 0) (tC (.int 3)))) (tC (.int 2147483647))) (gName 3))
    (tSeq (tAsg (tOp rModI (tOp rAddI (tOp rMulI (tVar 3) (tVar 3)) (tOp (rIxL K) (tVar 0) (tC (.int 1)))) (tC (.int 998244353))) (gName 4))
    (tRet (tOp rModI (tOp rDivW (tOp rModI (tOp rAddI (tOp rMulI (tVar 4) (tC (.int 69621))) (tVar 3)) (tC (.int 2147483629))) (tC (.int 7))) (tVar 1))))) tNext)
    (tAsg (tVar 2) (gSub (tVar 0) (tC (.int 2)) rSetL)))))) tNext)
    (tSeq (tAsg (tOp rModI (tOp (rIxL K) (tVar 0) (tC (.int 2))) (tVar 1)) (gName 5))
    (tSeq (tAsg (tOp rDivW (tOp (rIxL K) (tVar 0) (tC (.int 2))) (tVar 1)) (gSub (tVar 0) (tC (.int 2)) rSetL))
    (tRet (tVar 5)))))
/-! ### _law_whole -/
abbrev N__law_whole : List Str := ["_law_found"]
abbrev P__law_whole : List Str := ["_law_found"]
theorem sc__law_whole : FnScope N__law_whole P__law_whole (defScope s__law_whole) := ⟨rfl, rfl, rfl, by decide +kernel, rfl, by decide +kernel, by decide +kernel⟩
def t__law_whole (K : PySem.W.Frag) (a : Ad) : TS :=
    (tRet (tAndV (tCB (rIsi K) (tCons (tVar 0) (tCons (tC (.ty "int")) tNil))) (tNotV (tCB (rIsi K) (tCons (tVar 0) (tCons (tC (.ty "bool")) tNil))))))
/-! ### _law_same -/
abbrev N__law_same : List Str := ["_law_found", "_law_due", "_law_spot"]
abbrev P__law_same : List Str := ["_law_found", "_law_due"]
theorem sc__law_same : FnScope N__law_same P__law_same (defScope s__law_same) := ⟨rfl, rfl, rfl, by decide +kernel, rfl, by decide +kernel, by decide +kernel⟩
def t__law_same (K : PySem.W.Frag) (a : Ad) (spR : Sp) : TS :=
    (tSeq (tIfS (tTest (tOp rIsN (tVar 1) (tC .non))) (tRet (tOp rIsN (tVar 0) (tC .non))) tNext)
    (tSeq (tIfS (tB (tCB (rIsi K) (tCons (tVar 1) (tCons (tC (.ty "bool")) tNil)))) (tRet (tAndV (tCB (rIsi K) (tCons (tVar 0) (tCons (tC (.ty "bool")) tNil))) (tOp rEq (tVar 0) (tVar 1)))) tNext)
    (tSeq (tIfS (tB (tCB (rIsi K) (tCons (tVar 1) (tCons (tC (.ty "int")) tNil)))) (tRet (tAndV (tCall (sp__law_whole K a) [] E0 (tCons (tVar 0) tNil)) (tOp rEq (tVar 0) (tVar 1)))) tNext)
    (tSeq (tIfS (tB (tCB (rIsi K) (tCons (tVar 1) (tCons (tC (.ty "str")) tNil)))) (tRet (tAndV (tCB (rIsi K) (tCons (tVar 0) (tCons (tC (.ty "str")) tNil))) (tOp rEq (tVar 0) (tVar 1)))) tNext)
    (tSeq (tIfS (tOr (tTest (tOp rNe (tCB (rIsi K) (tCons (tVar 1) (tCons (tC (.ty "list")) tNil))) (tCB (rIsi K) (tCons (tVar 0) (tCons (tC (.ty "list")) tNil))))) (tTest (tOp rNe (tCB (rIsi K) (tCons (tVar 1) (tCons (tC (.ty "tuple")) tNil))) (tCB (rIsi K) (tCons (tVar 0) (tCons (tC (.ty "tuple")) tNil)))))) (tRet (tC (.bl false))) tNext)
    (tSeq (tIfS (tTest (tOp rNe (tCB (rLenQ K) (tCons (tVar 0) tNil)) (tCB (rLenQ K) (tCons (tVar 1) tNil)))) (tRet (tC (.bl false))) tNext)
    (tRet (tCB (rAll K) (tCons (tLc (iRng1 (tCons (tCB (rLenQ K) (tCons (tVar 1) tNil)) tNil)) (gName 2) tYes (tCall spR [] E0 (tCons (tOp (rIx K) (tVar 0) (tVar 2)) (tCons (tOp (rIx K) (tVar 1) (tVar 2)) tNil))) [2]) tNil)))))))))
/-! ### _law_bits -/
abbrev N__law_bits : List Str := ["_law_number", "_law_many", "_law_found", "_law_spot"]
abbrev P__law_bits : List Str := ["_law_number", "_law_many"]
theorem sc__law_bits : FnScope N__law_bits P__law_bits (defScope s__law_bits) := ⟨rfl, rfl, rfl, by decide +kernel, rfl, by decide +kernel, by decide +kernel⟩
def t__law_bits (K : PySem.W.Frag) (a : Ad) : TS :=
    (tSeq (tAsg (tLst tNil) (gName 2))
    (tSeq (tFor (iRng1 (tCons (tVar 1) tNil)) (gName 3) (tSeq (tDrop (tBM K "list" rAppend (tVar 2) (tCons (tOp rModI (tVar 0) (tC (.int 2))) tNil)))
    (tAsg (tOp rDivW (tVar 0) (tC (.int 2))) (gName 0))))
    (tRet (tVar 2))))
/-! ### _law_high -/
abbrev N__law_high : List Str := ["_law_row", "_law_found", "_law_bit"]
abbrev P__law_high : List Str := ["_law_row"]
theorem sc__law_high : FnScope N__law_high P__law_high (defScope s__law_high) := ⟨rfl, rfl, rfl, by decide +kernel, rfl, by decide +kernel, by decide +kernel⟩
def t__law_high (K : PySem.W.Frag) (a : Ad) : TS :=
    (tSeq (tAsg (tC (.int 0)) (gName 1))
    (tSeq (tFor (iList K (tVar 0)) (gName 2) (tAsg (tOp rAddI (tOp rMulI (tC (.int 2)) (tVar 1)) (tVar 2)) (gName 1)))
    (tRet (tVar 1))))
/-! ### _law_said -/
abbrev N__law_said : List Str := ["_law_which", "_law_number", "_law_many", "_law_told", "e"]
abbrev P__law_said : List Str := ["_law_which", "_law_number", "_law_many"]
theorem sc__law_said : FnScope N__law_said P__law_said (defScope s__law_said) := ⟨rfl, rfl, rfl, by decide +kernel, rfl, by decide +kernel, by decide +kernel⟩
def t__law_said (K : PySem.W.Frag) (a : Ad) : TS :=
    (tSeq (tAsg (tC .non) (gName 3))
    (tSeq (fun D σ H => (fun W => (tAsg (tIf (tTest (tOp rEq (tVar 0) (tC (.int 0)))) (tCallS (sp_bits_of K a) (WE W) (tCons (tVar 1) (tCons (tVar 2) tNil))) (tCallS (sp_turned_about K a) (WE W) (tCons (tVar 1) (tCons (tVar 2) tNil)))) (gName 3))) (wAs K (.ref a.c_BusError) 4 (fun ae cls d => (tAsg (tIf (tAnd (tB (tCB (rIsE2 K a.c_BadNumber ae cls d) (tCons (tVar 4) (tCons (tC (.ref a.c_BadNumber)) tNil)))) (tB (tCB (rIsE2 K a.c_BadNumber ae cls d) (tCons (tVar 4) (tCons (tC (.ty "ValueError")) tNil))))) (tC (.str ("bad" : Str))) (tC (.str ("other" : Str)))) (gName 3))) (fun _ _ _ _ => False) D) D σ H)
    (tRet (tVar 3))))
/-! ### law -/
abbrev N_law : List Str := ["_law_script", "_law_bag_here", "_law_k", "_law_number", "_law_many", "_law_due", "_law_row", "_law_which"]
abbrev P_law : List Str := ["_law_script"]
theorem sc_law : FnScope N_law P_law (defScope s_law) := ⟨rfl, rfl, rfl, by decide +kernel, rfl, by decide +kernel, by decide +kernel⟩
def t_law (K : PySem.W.Frag) (a : Ad) : TS :=
    (tSeq (tAsg (tCall (sp__law_bag K a) [] E0 (tCons (tVar 0) tNil)) (gName 1))
    (tSeq (tFor (iRng1 (tCons (tC (.int 5)) tNil)) (gName 2) (tSeq (tAsg (tOp (rIxL K) (tLst (tCons (tCall (sp__law_pull K a) [] E0 (tCons (tVar 1) (tCons (tOp rPowI (tC (.int 2)) (tC (.int 20))) tNil))) (tCons (tCall (sp__law_pull K a) [] E0 (tCons (tVar 1) (tCons (tOp rPowI (tC (.int 10)) (tC (.int 59))) tNil))) (tCons (tC (.int 0)) (tCons (tOp rSubI (tOp rSubI (tC (.int 0)) (tC (.int 1))) (tCall (sp__law_pull K a) [] E0 (tCons (tVar 1) (tCons (tC (.int 9)) tNil)))) tNil))))) (tCall (sp__law_pull K a) [] E0 (tCons (tVar 1) (tCons (tC (.int 4)) tNil)))) (gName 3))
    (tSeq (tAsg (tOp (rIxL K) (tLst (tCons (tCall (sp__law_pull K a) [] E0 (tCons (tVar 1) (tCons (tC (.int 65)) tNil))) (tCons (tC (.int 64)) (tCons (tC (.int 0)) (tCons (tC (.int 65)) (tCons (tOp rSubI (tC (.int 0)) (tC (.int 1))) (tCons (tOp rPowI (tC (.int 10)) (tC (.int 20))) tNil))))))) (tCall (sp__law_pull K a) [] E0 (tCons (tVar 1) (tCons (tC (.int 6)) tNil)))) (gName 4))
    (tSeq (tAsg (tLst (tCons (tC (.str ("bad" : Str))) (tCons (tC (.str ("bad" : Str))) tNil))) (gName 5))
    (tSeq (tIfS (tAnd (tTest (tOp rGeI (tVar 3) (tC (.int 0)))) (tTest (tChain rLeI rLeI (tC (.int 0)) (tVar 4) (tC (.int 64))))) (tSeq (tAsg (tCall (sp__law_bits K a) [] E0 (tCons (tVar 3) (tCons (tVar 4) tNil))) (gName 6))
    (tSeq (tAsg (tLst (tCons (tVar 6) (tCons (tCall (sp__law_high K a) [] E0 (tCons (tVar 6) tNil)) tNil))) (gName 5))
    (tIfS (tNot (tB (tCall (sp__law_same K a) [] E0 (tCons (tCall (sp_number_of K a) [] E0 (tCons (tVar 6) tNil)) (tCons (tCall (sp__law_high K a) [] E0 (tCons (tRevL K (tVar 6)) tNil)) tNil))))) (tRet (tC (.bl false))) tNext))) tNext)
    (tIfS (tNot (tB (tCall (sp__law_same K a) [] E0 (tCons (tLc (iRng1 (tCons (tC (.int 2)) tNil)) (gName 7) tYes (tCall (sp__law_said K a) [] E0 (tCons (tVar 7) (tCons (tVar 3) (tCons (tVar 4) tNil)))) [7]) (tCons (tVar 5) tNil))))) (tRet (tC (.bl false))) tNext))))))
    (tRet (tC (.bl true)))))
end My

namespace My
open PySem PySem.Spec PyProof.Rows L2
def RD (sp : Sp) (t : TS) (N : List Str) : Prop := ∀ vs H Q E, sp vs H Q E → t { nx := fun _ H' => Q .non H', rt := Q } (start N vs) H
def RDX (sp : Sp) (t : XK → TS) (N : List Str) : Prop := ∀ vs H Q E, sp vs H Q E → t E { nx := fun _ H' => Q .non H', rt := Q } (start N vs) H
section
variable {P : Program} {w : World} {K : PySem.W.Frag} {mg : Str → Option Value} {base : Heap} {a : Ad}
local macro_rules | `(tactic| walk_at "sm") => `(tactic| try simp only [tSeq, tAsg, tVar, tC, tOp, tUn, tRet, tRetN, tDrop, tIfS, tNext, tAnd, tOr, tNot, tB, tTest, tChain, tAndV, tOrV, tNotV, tIf, tCB, tCons, tNil, tCall, tCallS, tLst, tTup, tSl, tNoPart, tPart,
  tAug, ipI, gName, gSub, gTup, gCons, gNil, rI0, rI, rU, rEq, rNe, rIsN, rNotN, rAddI, rSubI, rMulI, rModI, rDivW, rPowI, rShlI, rShrI, rAndI, rOrI, rXorI, rLtI, rLeI, rGtI, rGeI, rNegI, rIxL, rIxT, rLenQ, rListOf, rTupleOf, rSetL, tRevL, tRaiseC, rSlL,
  List.getElem?_cons_zero, List.getElem?_cons_succ, List.set_cons_zero, List.set_cons_succ, Option.some.injEq, V.int.injEq, V.bl.injEq, V.ref.injEq, V.str.injEq, exists_eq_left', exists_eq_left, exists_and_left, List.cons.injEq, and_true, true_and, List.append_nil, scal, Int.reduceToNat, if_true, if_false, Bool.false_eq_true])
local macro_rules | `(tactic| walk_at "bg") => `(tactic| repeat (first
  | refine ⟨_, SqL.of (by assumption), _, rfl, ?_⟩
  | refine ⟨_, SqL.of upd_same, _, rfl, ?_⟩
  | refine ⟨_, rfl, ?_⟩
  | refine ⟨_, (by assumption), _, rfl, ?_⟩
  | refine ⟨_, upd_same, _, rfl, ?_⟩
  | refine ⟨Or.inr ⟨by omega, by omega⟩, ?_⟩
  | refine ⟨Or.inl ⟨by omega, by omega⟩, ?_⟩
  | refine ⟨(show (0 : Int) < _ by omega), ?_⟩
  | refine ⟨_, .inl (SqL.of upd_same), ?_⟩
  | refine ⟨_, .inl (by assumption), ?_⟩))
theorem rd_is_number : RD (sp_is_number K a) (t_is_number K a) N_is_number := by
  rintro vs H Q E ⟨v, d, lo, hi, rfl, hd, nb, q⟩
  show t_is_number K a _ [some v, some (.int lo), some (.int hi)] H
  unfold t_is_number
  walk_at "sm"
  refine isi hd (by decide) ?_
  walk_at "sm"
  refine iteB (fun h => ?_) (fun h => ?_)
  · cases hd with
    | int i =>
      walk_at "sm"
      refine iteP (fun h1 => ?_) (fun h1 => ?_)
      · simpa only [isNum, decide_eq_true h1, Bool.true_and] using q
      · simpa only [isNum, decide_eq_false h1, Bool.false_and] using q
    | bl b => exact absurd rfl (nb b)
    | _ => exact Bool.noConfusion h
  · cases hd with
    | int i => exact Bool.noConfusion h
    | bl b => exact absurd rfl (nb b)
    | _ => exact q
theorem rd_need_number : RDX (sp_need_number K a) (t_need_number K a) N_need_number := by
  rintro vs H Q E ⟨n, lo, hi, rfl, h1, h2⟩
  show t_need_number K a E _ [some (.int n), some (.int lo), some (.int hi)] H
  unfold t_need_number
  walk_at "sm"
  refine ⟨_, _, _, _, rfl, .int n, (fun b z => nomatch z), ?_⟩
  walk_at "sm"
  refine iteB (fun h => h2 ?_) (fun h => h1 ?_) <;> simp [isNum] at h <;> omega
theorem rd_bits_of : RDX (sp_bits_of K a) (t_bits_of K a) N_bits_of := by
  rintro vs H Q E ⟨n, m, rfl, h1, h2⟩
  show t_bits_of K a E _ [some (.int n), some (.int m), none] H
  unfold t_bits_of
  walk_at "sm"
  refine iteP (fun c => h2 fun z => by unfold bitsOk at z; omega) (fun c => ?_)
  refine ⟨_, _, _, rfl, fun c2 => ?_, fun c2 => h2 fun z => by unfold bitsOk at z; omega⟩
  refine lcR (n := m) 2 (fun j v _ => v = .int (n / 2 ^ j % 2)) (fun R r => ⟨_, rfl, r⟩) (by omega) (by omega) (fun _ _ _ _ _ h => h) (fun _ => rfl) (fun j D H1 Q1 hj _ _ _ q => ?_) (fun D H' ys hD e hy hm => ?_)
  · show _
    simp only [wipe]
    walk_at "sm"
    refine ⟨by omega, q _ _ (Same.refl _) ?_⟩
    rw [bitAnd_m1, Int.toNat_natCast]
  · refine h1 ⟨by omega, by omega, by omega⟩ D H' hD (e.trans wo_ex) ?_
    rw [hy, hm.ints]
    rfl
theorem rd_number_of : RD (sp_number_of K a) (t_number_of K a) N_number_of := by
  rintro vs H Q E ⟨p, l, rfl, hS, hb, hl, q⟩
  show t_number_of K a _ [some (.ref p), none, none, none] H
  unfold t_number_of
  walk_at "sm"
  refine forE 2 3 (fun j σ H' => ∃ x y, σ = [some (.ref p), some (.int (numOf (l.take j))), x, y] ∧ Ex H H') (fun R r => ⟨_, rfl, r⟩) hS ⟨none, none, rfl, Same.refl _⟩ ?hl ?hx ?hs ?hd
  case hl =>
    rintro j σ H' ⟨x, y, rfl, e⟩
    exact e.sqL hS
  case hx =>
    rintro j σ H' T o ⟨x, y, rfl, e⟩ hT
    exact ⟨x, y, rfl, e.trans (Ex.new hT)⟩
  case hs =>
    rintro j x σ H' hj ⟨x, y, rfl, e⟩
    rw [List.getElem?_map] at hj
    obtain ⟨b, hb1, rfl⟩ := Option.map_eq_some_iff.mp hj
    have hjl : j < l.length := (List.getElem?_eq_some_iff.mp hb1).1
    have hb2 := hb b (List.mem_of_getElem? hb1)
    walk_at "sm"
    refine ⟨⟨by omega, by omega, by omega⟩, _, _, ⟨?_, rfl, rfl⟩, e⟩
    rw [numOf_take hb1, Int.toNat_natCast]
  case hd =>
    rintro σ H' ⟨x, y, rfl, e⟩
    walk_at "sm"
    rw [List.length_map, List.take_length]
    exact q H' e
theorem rd_turned_about : RDX (sp_turned_about K a) (t_turned_about K a) N_turned_about := by
  rintro vs H Q E ⟨n, m, rfl, h1, h2⟩
  show t_turned_about K a E _ [some (.int n), some (.int m)] H
  unfold t_turned_about
  walk_at "sm"
  refine ⟨_, _, rfl, fun c p H1 hp e hl => ?_, h2⟩
  walk_at "sm"
  refine ⟨_, SqL.of hl, fun p' hp' => ?_⟩
  have c2 : m ≤ 64 := c.2.2
  refine ⟨_, (bitsL n m.toNat).reverse, rfl, SqL.of ?_, (bitsL_bit _ _).rev, ?_, fun H' e' => h1 c H' ((e.trans (Ex.new hp')).trans e')⟩
  · rw [upd_same, List.map_reverse]
  · rw [List.length_reverse, bitsL_len]
    omega
theorem rd__law_bag : RD (sp__law_bag K a) (t__law_bag K a) N__law_bag := by
  rintro vs H Q E ⟨p, cs, rfl, hS, hl, q⟩
  show t__law_bag K a _ [some (.ref p), none, none, none] H
  unfold t__law_bag
  walk_at "sm"
  refine ⟨_, hS, fun p1 hp1 => ?_⟩
  rw [cutV_all (by rw [List.length_map]; omega)]
  refine ⟨_, .inl (SqL.of upd_same), fun p2 hp2 => ?_⟩
  refine ⟨_, .inl (SqL.of upd_same), ?_⟩
  have e0 : Ex H (upd (upd H p1 (.lst (cs.map V.int))) p2 (.lst (cs.map V.int))) := (Ex.new hp1).trans (Ex.new hp2)
  generalize hH2 : upd (upd H p1 (.lst (cs.map V.int))) p2 (.lst (cs.map V.int)) = H2 at e0
  have hS2 : H2 p2 = some (.lst (cs.map V.int)) := by rw [← hH2]; exact upd_same
  refine forL 3 (fun j σ H' => ∃ (k : Int) (x : Option V), σ = [some (.ref p), some (.ref p2), some (.int k), x] ∧ H' = H2 ∧ k.natAbs < 2147483629) (fun R r => ⟨_, rfl, r⟩) (SqL.of hS2) ⟨_, _, rfl, rfl, ?_⟩ ?hl ?hs ?hd
  · rw [List.length_map]
    omega
  case hl =>
    rintro j σ H' ⟨k, x, rfl, rfl, _⟩
    exact SqL.of hS2
  case hs =>
    rintro j x σ H' hj ⟨k, y, rfl, rfl, hk⟩
    rw [List.getElem?_map] at hj
    obtain ⟨b, hb1, rfl⟩ := Option.map_eq_some_iff.mp hj
    walk_at "sm"
    refine ⟨.inr ⟨by omega, by omega⟩, by omega, _, _, ⟨rfl, rfl⟩, ?_⟩
    omega
  case hd =>
    rintro σ H' ⟨k, x, rfl, rfl, hk⟩
    walk_at "sm"
    refine ⟨by show 4 ≤ sizeLine; decide, fun p3 hp3 => ?_⟩
    refine q p3 _ ?_ (e0.trans (Ex.new hp3)) ⟨p2, cs, 0, 0, k, upd_same, ?_, hl, by omega⟩
    · exact e0.free hp3
    · exact (Ex.new hp3).sqL (SqL.of hS2)
theorem rd__law_whole : RD (sp__law_whole K a) (t__law_whole K a) N__law_whole := by
  rintro vs H Q E ⟨v, d, rfl, hd, q⟩
  show t__law_whole K a _ [some v] H
  unfold t__law_whole
  walk_at "sm"
  refine isi hd (by decide) ?_
  walk_at "sm"
  refine iteB (fun h => ?_) (fun h => ?_)
  · refine isi hd (by decide) ?_
    walk_at "sm"
    cases hd <;> first | exact Bool.noConfusion h | exact q
  · cases hd <;> first | exact Bool.noConfusion h | exact q
theorem rd__law_high : RD (sp__law_high K a) (t__law_high K a) N__law_high := by
  rintro vs H Q E ⟨p, l, rfl, hS, q⟩
  show t__law_high K a _ [some (.ref p), none, none] H
  unfold t__law_high
  walk_at "sm"
  refine forL 2 (fun j σ H' => ∃ x, σ = [some (.ref p), some (.int (highOf (l.take j))), x] ∧ H' = H) (fun R r => ⟨_, rfl, r⟩) hS ⟨_, rfl, rfl⟩ ?hl ?hs ?hd
  case hl =>
    rintro j σ H' ⟨x, rfl, rfl⟩
    exact hS
  case hs =>
    rintro j x σ H' hj ⟨y, rfl, rfl⟩
    rw [List.getElem?_map] at hj
    obtain ⟨b, hb1, rfl⟩ := Option.map_eq_some_iff.mp hj
    walk_at "sm"
    refine ⟨.inl ⟨by omega, by omega⟩, ?_, _, rfl⟩
    rw [take_one hb1, highOf_app]
  case hd =>
    rintro σ H' ⟨x, rfl, rfl⟩
    walk_at "sm"
    rw [List.length_map, List.take_length]
    exact q
theorem rd__law_bits : RD (sp__law_bits K a) (t__law_bits K a) N__law_bits := by
  rintro vs H Q E ⟨n, m, rfl, h0, h1, q⟩
  show t__law_bits K a _ [some (.int n), some (.int m), none, none] H
  unfold t__law_bits
  walk_at "sm"
  refine ⟨Nat.zero_le _, fun D hD => ?_⟩
  refine forR (n := m) 3 (fun j σ H' => ∃ x, σ = [some (.int (n / 2 ^ j)), some (.int m), some (.ref D), x] ∧ Ex H H' ∧ H' D = some (.lst ((bitsL n j).map V.int))) (fun R r => ⟨_, rfl, r⟩) (by omega) (by omega) ⟨none, ?_, Ex.new hD, upd_same⟩ ?hs ?hd
  · simp
  case hs =>
    rintro j σ H' hj ⟨x, rfl, e, hd⟩
    walk_at "sm"
    simp only [tBM, rAppend]
    walk_at "sm"
    refine ⟨Or.inl ⟨rfl, _, SqL.of hd⟩, by omega, _, hd, ?_, cdivS (by omega) (by omega), _, ⟨?_, rfl⟩, e.mut hD, ?_⟩
    · rw [List.length_map, bitsL_len]
      exact small1000 (by omega)
    · rw [half_half]
    · rw [upd_same, bitsL_more, List.map_append]
      rfl
  case hd =>
    rintro σ H' ⟨x, rfl, e, hd⟩
    walk_at "sm"
    exact q D H' hD e hd

/-! ### the bag -/
theorem bag_ne {K : PySem.W.Frag} {H : Hp} {p c : Addr} {cs : List Int} {ys : List V} (h : H p = some (.lst (.ref c :: ys))) (hS : SqL K H c (cs.map V.int)) : (∀ o, SqL K (upd H p o) c (cs.map V.int)) := fun o => by
  rcases hS with (e | ⟨ob, e⟩) | e
  · refine .inl (.inl ?_)
    rw [upd_ne]
    · exact e
    · intro z
      subst z
      rw [h] at e
      cases cs <;> simp at e
  · refine .inl (.inr ⟨ob, ?_⟩)
    rw [upd_ne]
    · exact e
    · intro z
      subst z
      rw [h] at e
      cases e
  · exact .inr e
theorem upd_off {H : Hp} {p : Addr} {o : HO} : ∀ b, b ≠ p → upd H p o b = H b := fun b h => upd_ne h
theorem bag_mk {K : PySem.W.Frag} {H : Hp} {p c : Addr} {cs : List Int} {i s k i' s' k' : Int} (h : H p = some (.lst [.ref c, .int i, .int s, .int k])) (hS : SqL K H c (cs.map V.int)) (hl : cs.length ≤ 63) (h0 : 0 ≤ i') :
    Bag K (upd H p (.lst [.ref c, .int i', .int s', .int k'])) p := ⟨c, cs, i', s', k', upd_same, bag_ne h hS _, hl, h0⟩
theorem rd__law_pull : RD (sp__law_pull K a) (t__law_pull K a) N__law_pull := by
  rintro vs H Q E ⟨p, u, rfl, ⟨c, cs, i, s, k, hp, hS, hl, h0⟩, hu, hu2, q⟩
  show t__law_pull K a _ [some (.ref p), some (.int u), none, none, none, none] H
  unfold t__law_pull
  have at0 : ∀ i s k : Int, atI [V.ref c, .int i, .int s, .int k] 0 = some (.ref c) := fun _ _ _ => rfl
  have at1 : ∀ i s k : Int, atI [V.ref c, .int i, .int s, .int k] 1 = some (.int i) := fun _ _ _ => rfl
  have at2 : ∀ i s k : Int, atI [V.ref c, .int i, .int s, .int k] 2 = some (.int s) := fun _ _ _ => rfl
  have at3 : ∀ i s k : Int, atI [V.ref c, .int i, .int s, .int k] 3 = some (.int k) := fun _ _ _ => rfl
  have mod0 : ∀ z : Int, 0 ≤ z % u ∧ z % u < u := fun z => ⟨Int.emod_nonneg _ (by omega), Int.emod_lt_of_pos _ hu⟩
  -- the end: what is left of a number
  have fin : ∀ (H : Hp) (i s k : Int) x y z, H p = some (.lst [.ref c, .int i, .int s, .int k]) → SqL K H c (cs.map V.int) → 0 ≤ i → (∀ r H', 0 ≤ r → r < u → Bag K H' p → (∀ b, b ≠ p → H' b = H b) → Q (.int r) H') →
      (tSeq (tAsg (tOp rModI (tOp (rIxL K) (tVar 0) (tC (.int 2))) (tVar 1)) (gName 5)) (tSeq (tAsg (tOp rDivW (tOp (rIxL K) (tVar 0) (tC (.int 2))) (tVar 1)) (gSub (tVar 0) (tC (.int 2)) rSetL)) (tRet (tVar 5))))
        { nx := fun _ H' => Q .non H', rt := Q } [some (.ref p), some (.int u), x, y, z, none] H := by
    intro H i s k x y z hp hS h0 q
    walk_at "sm"
    refine ⟨_, SqL.of hp, _, at2 _ _ _, _, rfl, hu, ?_⟩
    walk_at "sm"
    refine ⟨_, SqL.of hp, _, at2 _ _ _, _, rfl, cdivS hu hu2, _, hp, 2, rfl, ?_⟩
    exact q _ _ (mod0 _).1 (mod0 _).2 (bag_mk hp hS hl h0) upd_off
  walk_at "sm"
  walk_at "bg"
  refine iteP (fun h => ?_) (fun h => ?_)
  · walk_at "bg"
    have hS' := bag_ne hp hS
    walk_at "sm"
    have fin2 := fun (s' : Int) x y z (hz : 0 ≤ i + 1) => fin (upd H p (.lst [V.ref c, .int (i + 1), .int s', .int k])) (i + 1) s' k x y z upd_same (hS' _) hz (fun r H' r0 r1 hb he => q r H' r0 r1 hb (fun b hbp => (he b hbp).trans (upd_ne hbp)))
    have hp2 : (upd H p (.lst [V.ref c, .int (i + 1), .int s, .int k])) p = some (.lst [V.ref c, .int (i + 1), .int s, .int k]) := upd_same
    have hS2 := hS' (.lst [V.ref c, .int (i + 1), .int s, .int k])
    have bag2 : Bag K (upd H p (.lst [V.ref c, .int (i + 1), .int s, .int k])) p := ⟨c, cs, _, _, _, hp2, hS2, hl, by omega⟩
    have off2 : ∀ b, b ≠ p → (upd H p (.lst [V.ref c, .int (i + 1), .int s, .int k])) b = H b := fun b hb => upd_ne hb
    have eo : ∀ s', upd (upd H p (.lst [V.ref c, .int (i + 1), .int s, .int k])) p (.lst [V.ref c, .int (i + 1), .int s', .int k]) = upd H p (.lst [V.ref c, .int (i + 1), .int s', .int k]) := fun _ => upd_upd
    generalize upd H p (.lst [V.ref c, .int (i + 1), .int s, .int k]) = H2 at hp2 hS2 bag2 off2 eo ⊢
    have drawn : ∀ (seed : Int) (x : Option V), (tSeq (tAsg (tOp rModI (tOp rAddI (tOp rAddI (tOp rMulI (tVar 2) (tC (.int 48271))) (tOp rMulI (tOp (rIxL K) (tVar 0) (tC (.int 1))) (tC (.int 40692)))) (tOp (rIxL K) (tVar 0) (tC (.int 3)))) (tC (.int 2147483647))) (gName 3))
        (tSeq (tAsg (tOp rModI (tOp rAddI (tOp rMulI (tVar 3) (tVar 3)) (tOp (rIxL K) (tVar 0) (tC (.int 1)))) (tC (.int 998244353))) (gName 4))
        (tRet (tOp rModI (tOp rDivW (tOp rModI (tOp rAddI (tOp rMulI (tVar 4) (tC (.int 69621))) (tVar 3)) (tC (.int 2147483629))) (tC (.int 7))) (tVar 1)))))
        { nx := fun _ _ => False, rt := Q } [some (.ref p), some (.int u), some (.int seed), none, none, x] H2 := by
      intro seed x
      walk_at "sm"
      walk_at "bg"
      refine ⟨cdivS (by omega) (by omega), hu, ?_⟩
      exact q _ _ (mod0 _).1 (mod0 _).2 bag2 off2
    have after : ∀ seed : Int, (tSeq (tIfS (tOr (tTest (tOp rGtI (tOp (rIxL K) (tVar 0) (tC (.int 1))) (tCB (rLenQ K) (tCons (tOp (rIxL K) (tVar 0) (tC (.int 0))) tNil)))) (tTest (tOp rLtI (tVar 2) (tOp rPowI (tC (.int 10)) (tC (.int 18)))))) (tSeq (tAsg (tOp rModI (tOp rAddI (tOp rAddI (tOp rMulI (tVar 2) (tC (.int 48271))) (tOp rMulI (tOp (rIxL K) (tVar 0) (tC (.int 1))) (tC (.int 40692)))) (tOp (rIxL K) (tVar 0) (tC (.int 3)))) (tC (.int 2147483647))) (gName 3))
        (tSeq (tAsg (tOp rModI (tOp rAddI (tOp rMulI (tVar 3) (tVar 3)) (tOp (rIxL K) (tVar 0) (tC (.int 1)))) (tC (.int 998244353))) (gName 4))
        (tRet (tOp rModI (tOp rDivW (tOp rModI (tOp rAddI (tOp rMulI (tVar 4) (tC (.int 69621))) (tVar 3)) (tC (.int 2147483629))) (tC (.int 7))) (tVar 1))))) tNext) (tAsg (tVar 2) (gSub (tVar 0) (tC (.int 2)) rSetL)))
        { nx := (tSeq (tAsg (tOp rModI (tOp (rIxL K) (tVar 0) (tC (.int 2))) (tVar 1)) (gName 5)) (tSeq (tAsg (tOp rDivW (tOp (rIxL K) (tVar 0) (tC (.int 2))) (tVar 1)) (gSub (tVar 0) (tC (.int 2)) rSetL)) (tRet (tVar 5)))) { nx := fun _ H' => Q .non H', rt := Q }, rt := Q } [some (.ref p), some (.int u), some (.int seed), none, none, none] H2 := by
      intro seed
      have dr := drawn seed none
      have f2 := fin2 seed (some (.int seed)) none none (by omega)
      rw [← eo] at f2
      revert dr f2
      walk_at "sm"
      intro dr f2
      have lastly : ∀ R : Prop, R → (∃ x, H2 p = some (.lst x) ∧ ∃ x_1, ixN x.length 2 = some x_1 ∧ R) := fun R r => ⟨_, hp2, 2, rfl, r⟩
      refine ⟨_, SqL.of hp2, _, rfl, _, SqL.of hp2, _, rfl, c, rfl, _, .inl hS2, _, rfl, ?_⟩
      refine iteP (fun h1 => dr) (fun h1 => ?_)
      refine ⟨⟨by omega, by omega, by omega⟩, ?_⟩
      refine iteP (fun h1 => dr) (fun h1 => ?_)
      exact ⟨_, hp2, 2, rfl, f2⟩
    refine ⟨_, .inl hS2, ?_⟩
    refine iteP (fun h1 => ?_) (fun h1 => ?_)
    · rw [List.length_map] at h1
      obtain ⟨b, hb⟩ : ∃ b, cs[i.toNat]? = some b := ⟨_, List.getElem?_eq_getElem (by omega)⟩
      refine ⟨_, SqL.of hp2, _, rfl, _, SqL.of hp2, _, rfl, _, rfl, c, rfl, _, hS2, .int b, ?_, ?_⟩
      · refine at_of (j := i.toNat) (by omega) ?_
        rw [List.getElem?_map, hb]
        rfl
      · have := after b
        revert this
        walk_at "sm"
        exact id
    · have := after (k + (i + 1) * 7919)
      revert this
      walk_at "sm"
      exact id
  · have := fin H i s k none none none hp hS h0 q
    revert this
    walk_at "sm"
    exact id
end
end My

namespace My
open PySem PySem.Spec PyProof.Rows L2
section
variable {P : Program} {w : World} {K : PySem.W.Frag} {mg : Str → Option Value} {base : Heap} {a : Ad}
local macro_rules | `(tactic| walk_at "sm") => `(tactic| try simp only [tSeq, tAsg, tVar, tC, tOp, tUn, tRet, tRetN, tDrop, tIfS, tNext, tAnd, tOr, tNot, tB, tTest, tChain, tAndV, tOrV, tNotV, tIf, tCB, tCons, tNil, tCall, tCallS, tLst, tTup, tSl, tNoPart, tPart,
  tAug, ipI, gName, gSub, gTup, gCons, gNil, rI0, rI, rU, rEq, rNe, rIsN, rNotN, rAddI, rSubI, rMulI, rModI, rDivW, rPowI, rShlI, rShrI, rAndI, rOrI, rXorI, rLtI, rLeI, rGtI, rGeI, rNegI, rIxL, rIxT, rLenQ, rListOf, rTupleOf, rSetL, tRevL, tRaiseC, rSlL,
  List.getElem?_cons_zero, List.getElem?_cons_succ, List.set_cons_zero, List.set_cons_succ, Option.some.injEq, V.int.injEq, V.bl.injEq, V.ref.injEq, V.str.injEq, exists_eq_left', exists_eq_left, exists_and_left, List.cons.injEq, and_true, true_and, List.append_nil, scal, Int.reduceToNat, if_true, if_false, Bool.false_eq_true])
local macro_rules | `(tactic| walk_at "bg") => `(tactic| repeat (first
  | refine ⟨_, SqL.of (by assumption), _, rfl, ?_⟩
  | refine ⟨_, SqL.of upd_same, _, rfl, ?_⟩
  | refine ⟨_, rfl, ?_⟩
  | refine ⟨_, (by assumption), _, rfl, ?_⟩
  | refine ⟨_, upd_same, _, rfl, ?_⟩
  | refine ⟨Or.inr ⟨by omega, by omega⟩, ?_⟩
  | refine ⟨Or.inl ⟨by omega, by omega⟩, ?_⟩
  | refine ⟨(show (0 : Int) < _ by omega), ?_⟩
  | refine ⟨_, .inl (SqL.of upd_same), ?_⟩
  | refine ⟨_, .inl (by assumption), ?_⟩))
theorem okD_len {n : Nat} {ds : List PyData} : okD n (.list ds) → ds.length ≤ 1000 ∧ ∃ k, n = k + 1 ∧ ∀ d ∈ ds, okD k d := by
  intro h
  cases n with
  | zero => exact h.elim
  | succ k => exact ⟨h.1, k, rfl, h.2⟩
theorem okD_lenT {n : Nat} {ds : List PyData} : okD n (.tuple ds) → ds.length ≤ 1000 ∧ ∃ k, n = k + 1 ∧ ∀ d ∈ ds, okD k d := by
  intro h
  cases n with
  | zero => exact h.elim
  | succ k => exact ⟨h.1, k, rfl, h.2⟩
theorem all_true (n : Nat) : ((List.range n).map fun _ => true).all id = true := by
  rw [List.all_eq_true]
  intro b hb
  obtain ⟨_, _, rfl⟩ := List.mem_map.mp hb
  rfl
theorem tyS : (∀ b, isTyp (.bool b) "bool" = true) ∧ (∀ b, isTyp (.bool b) "int" = true) ∧ (∀ i, isTyp (.int i) "bool" = false) ∧ (∀ i, isTyp (.int i) "int" = true) ∧ (∀ x, isTyp (.str x) "bool" = false) ∧ (∀ x, isTyp (.str x) "int" = false) ∧ (∀ x, isTyp (.str x) "str" = true) :=
  ⟨fun _ => by show isTypN _ _ = _; simp only [tyName]; decide, fun _ => by show isTypN _ _ = _; simp only [tyName]; decide, fun _ => by show isTypN _ _ = _; simp only [tyName]; decide, fun _ => by show isTypN _ _ = _; simp only [tyName]; decide, fun _ => by show isTypN _ _ = _; simp only [tyName]; decide, fun _ => by show isTypN _ _ = _; simp only [tyName]; decide, fun _ => by show isTypN _ _ = _; simp only [tyName]; decide⟩
theorem tyL (ds : List PyData) : isTyp (.list ds) "bool" = false ∧ isTyp (.list ds) "int" = false ∧ isTyp (.list ds) "str" = false ∧ isTyp (.list ds) "list" = true ∧ isTyp (.list ds) "tuple" = false := by
  refine ⟨?_, ?_, ?_, ?_, ?_⟩ <;> (show isTypN _ _ = _; simp only [tyName]; decide)
theorem tyT (ds : List PyData) : isTyp (.tuple ds) "bool" = false ∧ isTyp (.tuple ds) "int" = false ∧ isTyp (.tuple ds) "str" = false ∧ isTyp (.tuple ds) "list" = false ∧ isTyp (.tuple ds) "tuple" = true := by
  refine ⟨?_, ?_, ?_, ?_, ?_⟩ <;> (show isTypN _ _ = _; simp only [tyName]; decide)
local macro_rules | `(tactic| walk_at "ty") => `(tactic| try simp only [tyS, tyL, tyT, if_true, if_false, Bool.false_eq_true, reduceCtorEq, decide_false, decide_true, exists_eq_left', exists_eq_left, V.bl.injEq, and_true, true_and, Bool.not_true, Bool.not_false, decide_eq_true_eq, Bool.true_and, Bool.and_true])
/-- one level deeper: spR is what holds one level up -/
theorem rd__law_same (n : Nat) (spR : Sp) (hR : ∀ k, n = k + 1 → spR = sp_same k K) : RD (sp_same n K) (t__law_same K a spR) N__law_same := by
  rintro vs H Q E ⟨v, w, d, rfl, hv, hw, ok, q⟩
  show t__law_same K a _ _ [some v, some w, none] H
  unfold t__law_same
  cases d with
  | none =>
    cases hv
    cases hw
    walk_at "sm"
    walk_at "ty"
    exact q H (Same.refl _)
  | bool b =>
    cases id hv
    cases id hw
    walk_at "sm"
    walk_at "ty"
    refine isi hw (by decide) ?_
    walk_at "ty"
    refine isi hv (by decide) ?_
    walk_at "ty"
    exact q H (Same.refl _)
  | int i =>
    cases id hv
    cases id hw
    walk_at "sm"
    walk_at "ty"
    refine isi hw (by decide) ?_
    walk_at "ty"
    refine isi hw (by decide) ?_
    walk_at "ty"
    refine ⟨_, _, rfl, hv, ?_⟩
    walk_at "ty"
    exact q H (Same.refl _)
  | str x =>
    cases id hv
    cases id hw
    walk_at "sm"
    walk_at "ty"
    refine isi hw (by decide) ?_
    walk_at "ty"
    refine isi hw (by decide) ?_
    walk_at "ty"
    refine isi hw (by decide) ?_
    walk_at "ty"
    refine isi hv (by decide) ?_
    walk_at "ty"
    exact q H (Same.refl _)
  | dict _ => cases hv
  | list ds =>
    obtain ⟨f, xs, rfl, hx, ax⟩ : ∃ f xs, v = .ref f ∧ SqL K H f xs ∧ DpAll K H xs ds := by
      cases hv with
      | lst hs ha => exact ⟨_, _, rfl, hs, ha⟩
    obtain ⟨g, ys, rfl, hy, ay⟩ : ∃ f xs, w = .ref f ∧ SqL K H f xs ∧ DpAll K H xs ds := by
      cases hw with
      | lst hs ha => exact ⟨_, _, rfl, hs, ha⟩
    obtain ⟨hl, k, ek, hk⟩ := okD_len ok
    cases hR k ek
    walk_at "sm"
    walk_at "ty"
    refine isi hw (by decide) ?_
    walk_at "ty"
    refine isi hw (by decide) ?_
    walk_at "ty"
    refine isi hw (by decide) ?_
    walk_at "ty"
    refine isi hw (by decide) ?_
    refine isi hv (by decide) ?_
    walk_at "ty"
    refine isi hw (by decide) ?_
    refine isi hv (by decide) ?_
    walk_at "ty"
    have lx := DpAll.len ax
    have ly := DpAll.len ay
    refine ⟨_, .inl hx, _, .inl hy, iteNP (fun z => absurd (show (xs.length : Int) = ys.length by omega) z) (fun _ => ?_)⟩
    refine lcR (n := (ys.length : Int)) 2 (fun _ v _ => v = .bl true) (fun R r => ⟨_, rfl, _, _, rfl, .inl hy, r⟩) (by omega) (by omega) (fun _ _ _ _ _ h => h) (fun _ => rfl) (fun j D H1 Q1 hj hD hD1 e q' => ?_) (fun D H' zs hD e hz hm => ?_)
    · have hjd : j < ds.length := by omega
      obtain ⟨xj, x1, x2⟩ := DpAll.get ax (List.getElem?_eq_getElem hjd)
      obtain ⟨yj, y1, y2⟩ := DpAll.get ay (List.getElem?_eq_getElem hjd)
      have e1 : Ex H H1 := Same.trans e wo_ex
      refine ⟨_, rfl, _, rfl, .inl ⟨f, xs, (j : Nat), xj, rfl, rfl, e1.sqL hx, atI_nat x1, _, rfl, _, rfl, .inl ⟨g, ys, (j : Nat), yj, rfl, rfl, e1.sqL hy, atI_nat y1, ?_⟩⟩⟩
      exact ⟨xj, yj, _, rfl, e1.dp _ _ x2, e1.dp _ _ y2, hk _ (List.getElem_mem hjd), fun H' e' => q' _ _ e' rfl⟩
    · refine ⟨D, (List.range (ys.length : Int).toNat).map fun _ => true, rfl, SqL.of ?_, ?_⟩
      · rw [hz, Made.bls hm]
      · rw [all_true]
        exact q H' (e.trans wo_ex)
  | tuple ds =>
    obtain ⟨f, xs, rfl, hx, ax⟩ : ∃ f xs, v = .ref f ∧ SqT K H f xs ∧ DpAll K H xs ds := by
      cases hv with
      | tup hs ha => exact ⟨_, _, rfl, hs, ha⟩
    obtain ⟨g, ys, rfl, hy, ay⟩ : ∃ f xs, w = .ref f ∧ SqT K H f xs ∧ DpAll K H xs ds := by
      cases hw with
      | tup hs ha => exact ⟨_, _, rfl, hs, ha⟩
    obtain ⟨hl, k, ek, hk⟩ := okD_lenT ok
    cases hR k ek
    walk_at "sm"
    walk_at "ty"
    refine isi hw (by decide) ?_
    walk_at "ty"
    refine isi hw (by decide) ?_
    walk_at "ty"
    refine isi hw (by decide) ?_
    walk_at "ty"
    refine isi hw (by decide) ?_
    refine isi hv (by decide) ?_
    walk_at "ty"
    refine isi hw (by decide) ?_
    refine isi hv (by decide) ?_
    walk_at "ty"
    have lx := DpAll.len ax
    have ly := DpAll.len ay
    refine ⟨_, .inr hx, _, .inr hy, iteNP (fun z => absurd (show (xs.length : Int) = ys.length by omega) z) (fun _ => ?_)⟩
    refine lcR (n := (ys.length : Int)) 2 (fun _ v _ => v = .bl true) (fun R r => ⟨_, rfl, _, _, rfl, .inr hy, r⟩) (by omega) (by omega) (fun _ _ _ _ _ h => h) (fun _ => rfl) (fun j D H1 Q1 hj hD hD1 e q' => ?_) (fun D H' zs hD e hz hm => ?_)
    · have hjd : j < ds.length := by omega
      obtain ⟨xj, x1, x2⟩ := DpAll.get ax (List.getElem?_eq_getElem hjd)
      obtain ⟨yj, y1, y2⟩ := DpAll.get ay (List.getElem?_eq_getElem hjd)
      have e1 : Ex H H1 := Same.trans e wo_ex
      refine ⟨_, rfl, _, rfl, .inr <| .inl ⟨f, xs, (j : Nat), xj, rfl, rfl, e1.sqT hx, atI_nat x1, _, rfl, _, rfl, .inr <| .inl ⟨g, ys, (j : Nat), yj, rfl, rfl, e1.sqT hy, atI_nat y1, ?_⟩⟩⟩
      exact ⟨xj, yj, _, rfl, e1.dp _ _ x2, e1.dp _ _ y2, hk _ (List.getElem_mem hjd), fun H' e' => q' _ _ e' rfl⟩
    · refine ⟨D, (List.range (ys.length : Int).toNat).map fun _ => true, rfl, SqL.of ?_, ?_⟩
      · rw [hz, Made.bls hm]
      · rw [all_true]
        exact q H' (e.trans wo_ex)
end
end My

namespace My
open PySem PySem.Spec PyProof.Rows L2
section
variable {P : Program} {w : World} {K : PySem.W.Frag} {mg : Str → Option Value} {base : Heap} {a : Ad}
local macro_rules | `(tactic| walk_at "sm") => `(tactic| try simp only [tSeq, tAsg, tVar, tC, tOp, tUn, tRet, tRetN, tDrop, tIfS, tNext, tAnd, tOr, tNot, tB, tTest, tChain, tAndV, tOrV, tNotV, tIf, tCB, tCons, tNil, tCall, tCallS, tLst, tTup, tSl, tNoPart, tPart,
  tAug, ipI, gName, gSub, gTup, gCons, gNil, rI0, rI, rU, rEq, rNe, rIsN, rNotN, rAddI, rSubI, rMulI, rModI, rDivW, rPowI, rShlI, rShrI, rAndI, rOrI, rXorI, rLtI, rLeI, rGtI, rGeI, rNegI, rIxL, rIxT, rLenQ, rListOf, rTupleOf, rSetL, tRevL, tRaiseC, rSlL,
  List.getElem?_cons_zero, List.getElem?_cons_succ, List.set_cons_zero, List.set_cons_succ, Option.some.injEq, V.int.injEq, V.bl.injEq, V.ref.injEq, V.str.injEq, exists_eq_left', exists_eq_left, exists_and_left, List.cons.injEq, and_true, true_and, List.append_nil, scal, Int.reduceToNat, if_true, if_false, Bool.false_eq_true])
local macro_rules | `(tactic| walk_at "bg") => `(tactic| repeat (first
  | refine ⟨_, SqL.of (by assumption), _, rfl, ?_⟩
  | refine ⟨_, SqL.of upd_same, _, rfl, ?_⟩
  | refine ⟨_, rfl, ?_⟩
  | refine ⟨_, (by assumption), _, rfl, ?_⟩
  | refine ⟨_, upd_same, _, rfl, ?_⟩
  | refine ⟨Or.inr ⟨by omega, by omega⟩, ?_⟩
  | refine ⟨Or.inl ⟨by omega, by omega⟩, ?_⟩
  | refine ⟨(show (0 : Int) < _ by omega), ?_⟩
  | refine ⟨_, .inl (SqL.of upd_same), ?_⟩
  | refine ⟨_, .inl (by assumption), ?_⟩))
theorem rd__law_said (T : Txt K mg a) : RD (sp__law_said K a) (t__law_said K a) N__law_said := by
  rintro vs H Q E ⟨w, n, m, B, rfl, hB, q⟩
  show t__law_said K a _ [some (.int w), some (.int n), some (.int m), none, none] H
  unfold t__law_said
  walk_at "sm"
  have bad : ¬ bitsOk n m → ∀ (H1 : Hp), Ex H H1 → Q (.str "bad") H1 := fun nb H1 e => by
    refine q _ H1 e ?_
    have : saidD w n m = .str "bad" := if_neg nb
    rw [this]
    exact .str _
  refine iteP (fun h0 => ?_) (fun h0 => ?_)
  · refine ⟨_, _, rfl, fun ok p H' hp e hl => ?_, fun nb => ?_⟩
    · refine q _ H' e ?_
      have : saidD w n m = .list ((bitsL n m.toNat).map PyData.int) := (if_pos ok).trans (if_pos h0)
      rw [this]
      refine Dp.ints (SqL.of ?_)
      rw [wo_get (there_not hB hp)]
      exact hl
    · refine ⟨true, T.m_BadNumber_BusError, fun _ a0 ha0 => ?_, fun z => Bool.noConfusion z⟩
      walk_at "sm"
      refine ⟨rfl, rfl, _, _, true, rfl, fun u r => r, T.kit_BadNumber_BadNumber, _, rfl, iteT ?_⟩
      refine ⟨rfl, rfl, _, _, true, rfl, fun u r => r, T.kit_BadNumber_ValueError, _, rfl, iteT ?_⟩
      exact bad nb H (Same.refl _)
  · refine ⟨_, _, rfl, fun ok H' e => ?_, fun nb => ?_⟩
    · refine q _ H' e ?_
      have : saidD w n m = .int (numOf (bitsL n m.toNat).reverse) := (if_pos ok).trans (if_neg h0)
      rw [this]
      exact .int _
    · refine ⟨true, T.m_BadNumber_BusError, fun _ a0 ha0 => ?_, fun z => Bool.noConfusion z⟩
      walk_at "sm"
      refine ⟨rfl, rfl, _, _, true, rfl, fun u r => r, T.kit_BadNumber_BadNumber, _, rfl, iteT ?_⟩
      refine ⟨rfl, rfl, _, _, true, rfl, fun u r => r, T.kit_BadNumber_ValueError, _, rfl, iteT ?_⟩
      exact bad nb H (Same.refl _)
theorem Bag.mono {K : PySem.W.Frag} {H H' : Hp} {B : Addr} (b : Bag K H B) (e : Ex H H') : Bag K H' B := by
  obtain ⟨c, cs, i, s, k, h1, h2, h3, h4⟩ := b
  exact ⟨c, cs, i, s, k, e _ _ h1, e.sqL h2, h3, h4⟩
theorem Bag.there {K : PySem.W.Frag} {H : Hp} {B : Addr} (b : Bag K H B) : H B ≠ none := by
  obtain ⟨c, cs, i, s, k, h1, h2, h3, h4⟩ := b
  rw [h1]
  exact fun z => nomatch z
theorem atI_ints {ns : List Int} {i : Int} (h0 : 0 ≤ i) (h1 : i < ns.length) : ∃ x, atI (ns.map V.int) i = some (.int x) := by
  refine ⟨ns[i.toNat]'(by omega), ?_⟩
  refine at_of (j := i.toNat) (by omega) ?_
  rw [List.getElem?_map, List.getElem?_eq_getElem (by omega)]
  rfl
theorem saidOk (w n m : Int) (hm : True) : okD 3 (saidD w n m) := by
  unfold saidD
  split
  · rename_i h
    split
    · refine ⟨?_, fun d hd => ?_⟩
      · rw [List.length_map, bitsL_len]
        omega
      · obtain ⟨x, _, rfl⟩ := List.mem_map.mp hd
        trivial
    · trivial
  · trivial
theorem rd_law : RD (sp_law K a) (t_law K a) N_law := by
  rintro vs H Q E ⟨p, cs, rfl, hS, hl, q⟩
  show t_law K a _ [some (.ref p), none, none, none, none, none, none, none] H
  unfold t_law
  walk_at "sm"
  refine ⟨p, cs, rfl, hS, hl, fun B H1 hB e bag => ?_⟩
  walk_at "sm"
  refine forR (n := 5) 2 (fun j σ H' => ∃ x2 x3 x4 x5 x6 x7, σ = [some (.ref p), some (.ref B), x2, x3, x4, x5, x6, x7] ∧ Bag K H' B) (fun R r => r) (by decide) (by decide) ⟨_, _, _, _, _, _, rfl, bag⟩ ?hs ?hd
  case hd =>
    rintro σ H' ⟨x2, x3, x4, x5, x6, x7, rfl, bag⟩
    walk_at "sm"
    exact q _
  case hs =>
    rintro j σ H hj ⟨x2, x3, x4, x5, x6, x7, rfl, bag⟩
    walk_at "sm"
    have pw : ∀ (b e : Int), 0 ≤ b → b < 1000 → 0 ≤ e → e < 1000 → CPow b e := fun b e h1 h2 h3 h4 => ⟨h3, by omega, by omega⟩
    refine ⟨pw _ _ (by omega) (by omega) (by omega) (by omega), B, _, rfl, bag, by decide, by decide, fun r1 H1 r10 r11 bag o1 => ?_⟩
    refine ⟨pw _ _ (by omega) (by omega) (by omega) (by omega), B, _, rfl, bag, by decide, by decide, fun r2 H2 r20 r21 bag o2 => ?_⟩
    refine ⟨B, _, rfl, bag, by decide, by decide, fun r3 H3 r30 r31 bag o3 => ?_⟩
    walk_at "sm"
    refine ⟨by show 4 ≤ sizeLine; decide, fun p1 hp1 => ?_⟩
    have pB1 : p1 ≠ B := fun z => bag.there (z ▸ hp1)
    refine ⟨B, _, rfl, bag.mono (Ex.new hp1), by decide, by decide, fun r4 H4 r40 r41 bag o4 => ?_⟩
    obtain ⟨n, hn⟩ := atI_ints (ns := [r1, r2, 0, 0 - 1 - r3]) r40 r41
    refine ⟨_, _, rfl, SqL.of ((o4 _ pB1).trans upd_same), _, hn, ?_⟩
    refine ⟨B, _, rfl, bag, by decide, by decide, fun r5 H5 r50 r51 bag o5 => ?_⟩
    refine ⟨pw _ _ (by omega) (by omega) (by omega) (by omega), by show 6 ≤ sizeLine; decide, fun p2 hp2 => ?_⟩
    have pB2 : p2 ≠ B := fun z => bag.there (z ▸ hp2)
    refine ⟨B, _, rfl, bag.mono (Ex.new hp2), by decide, by decide, fun r6 H6 r60 r61 bag o6 => ?_⟩
    obtain ⟨m, hm⟩ := atI_ints (ns := [r5, 64, 0, 65, 0 - 1, 10 ^ 20]) r60 r61
    refine ⟨_, _, rfl, SqL.of ((o6 _ pB2).trans upd_same), _, hm, ?_⟩
    refine ⟨by show 2 ≤ sizeLine; decide, fun p3 hp3 => ?_⟩
    have pB3 : p3 ≠ B := fun z => bag.there (z ▸ hp3)
    -- the last test, whatever the list that is due
    have last : ∀ (H : Hp) (g : Addr) x6, Bag K H B → Dp K (wo [B] H) (.ref g) (.list [saidD 0 n m, saidD 1 n m]) →
        (tIfS (tNot (tB (tCall (sp__law_same K a) [] E0 (tCons (tLc (iRng1 (tCons (tC (.int 2)) tNil)) (gName 7) tYes (tCall (sp__law_said K a) [] E0 (tCons (tVar 7) (tCons (tVar 3) (tCons (tVar 4) tNil)))) [7]) (tCons (tVar 5) tNil))))) (tRet (tC (.bl false))) tNext)
        { nx := fun σ H' => ∃ x2 x3 x4 x5 x6 x7, σ = [some (.ref p), some (.ref B), x2, x3, x4, x5, x6, x7] ∧ Bag K H' B, rt := Q } [some (.ref p), some (.ref B), some (.int (j : Nat)), some (.int n), some (.int m), some (.ref g), x6, x7] H := by
      intro H g x6 bag hg
      walk_at "sm"
      refine lcR (n := 2) 7 (fun j v H => Dp K (wo [B] H) v (saidD j n m)) (fun R r => r) (by decide) (by decide) (fun j v H H' e h => Ex.dp e.wo _ _ h) (fun _ => rfl) (fun i D H1 Q1 hi hD hD1 e q' => ?_) (fun D H' ys hD e hz hm => ?_)
      · simp only [wipe]
        walk_at "sm"
        refine ⟨_, _, _, [D] ++ [B], rfl, fun b hb => ?_, fun v H' e' dp => q' v H' e' ?_⟩
        · simp at hb
          rcases hb with rfl | rfl
          · exact hD1
          · exact Ex.there (Same.trans e wo_ex) bag.there
        · rw [wo_wo]
          exact dp
      · refine ⟨_, _, .list [saidD 0 n m, saidD 1 n m], rfl, ?_, ?_, ?_, fun H2 e2 => ?_⟩
        · refine .lst (SqL.of hz) (Made.all (n := 2) ⟨hm.1, fun i hi => ?_⟩ rfl)
          obtain ⟨v, h1, h2⟩ := hm.2 i hi
          refine ⟨v, h1, saidD i n m, ?_, Ex.dp (wo_ex.trans wo_ex) _ _ h2⟩
          have : i = 0 ∨ i = 1 := by
            have : i < 2 := hi
            omega
          rcases this with rfl | rfl <;> rfl
        · exact Ex.dp ((wo_ex.trans e).trans wo_ex) _ _ hg
        · refine ⟨by show 2 ≤ 1000; decide, fun d hd => ?_⟩
          simp at hd
          rcases hd with rfl | rfl <;> exact saidOk _ _ _ trivial
        · refine ⟨_, rfl, ?_⟩
          exact iteF ⟨_, _, _, _, _, _, ⟨rfl, rfl, rfl, rfl, rfl, rfl⟩, bag.mono ((Same.trans e wo_ex).trans e2)⟩
    have e3 : Ex H6 (upd H6 p3 (.lst [.str "bad", .str "bad"])) := Ex.new hp3
    have bad : ¬ bitsOk n m → Dp K (wo [B] (upd H6 p3 (.lst [.str "bad", .str "bad"]))) (.ref p3) (.list [saidD 0 n m, saidD 1 n m]) := by
      intro nb
      have sb : ∀ w, saidD w n m = .str "bad" := fun w => if_neg nb
      rw [sb, sb]
      refine .lst (SqL.of ?_) (.cons (.str _) (.cons (.str _) .nil))
      rw [wo_get (by simpa using pB3), upd_same]
    have Lbad := fun nb => last _ p3 x6 (bag.mono e3) (bad nb)
    revert Lbad
    walk_at "sm"
    intro Lbad
    refine iteP (fun h1 => ?_) (fun h1 => Lbad (fun z => h1 z.1))
    refine iteP (fun h2 => ?_) (fun h2 => Lbad (fun z => h2 z.2.1))
    refine iteP (fun h3 => ?_) (fun h3 => Lbad (fun z => h3 z.2.2))
    clear Lbad bad
    refine ⟨n, m, rfl, h2, by omega, fun p6 H7 hp6 e7 hl6 => ?_⟩
    refine ⟨p6, bitsL n m.toNat, rfl, SqL.of hl6, ?_⟩
    refine ⟨by show 2 ≤ sizeLine; decide, fun p7 hp7 => ?_⟩
    have lm : (bitsL n m.toNat).length ≤ 1000 := by
      rw [bitsL_len]
      omega
    refine ⟨p6, bitsL n m.toNat, rfl, (Ex.new hp7).sqL (SqL.of hl6), bitsL_bit _ _, lm, fun H8 e8 => ?_⟩
    walk_at "sm"
    have e78 : Ex H7 H8 := (Ex.new hp7).trans e8
    refine ⟨_, e78.sqL (SqL.of hl6), fun p9 hp9 => ?_⟩
    refine ⟨p9, (bitsL n m.toNat).reverse, rfl, SqL.of ?_, ?_⟩
    · rw [upd_same, List.map_reverse]
    · refine ⟨_, _, .int (numOf (bitsL n m.toNat)), rfl, .int _, ?_, trivial, fun H9 e9 => ?_⟩
      · rw [highOf_rev]
        exact .int _
      · refine ⟨_, rfl, iteF ?_⟩
        have bag9 : Bag K H9 B := bag.mono (((e3.trans e7).trans e78).trans ((Ex.new hp9).trans e9))
        have pB6 : p6 ≠ B := fun z => (bag.mono e3).there (z ▸ hp6)
        have pB7 : p7 ≠ B := fun z => (bag.mono (e3.trans e7)).there (z ▸ hp7)
        have e89 : Ex H8 H9 := (Ex.new hp9).trans e9
        have L := last H9 p7 (some (.ref p6)) bag9 ?_
        · revert L
          walk_at "sm"
          exact id
        · have s0 : saidD 0 n m = .list ((bitsL n m.toNat).map PyData.int) := (if_pos ⟨h1, h2, h3⟩).trans (if_pos rfl)
          have s1 : saidD 1 n m = .int (numOf (bitsL n m.toNat).reverse) := (if_pos ⟨h1, h2, h3⟩).trans (if_neg (by decide))
          rw [s0, s1]
          refine .lst (xs := [.ref p6, .int (highOf (bitsL n m.toNat))]) (SqL.of ?_) (.cons (Dp.ints (SqL.of ?_)) (.cons ?_ .nil))
          · rw [wo_get (by simpa using pB7)]
            exact e89 _ _ (e8 _ _ upd_same)
          · rw [wo_get (by simpa using pB6)]
            exact e89 _ _ (e78 _ _ hl6)
          · rw [highOf_num]
            exact .int _
end
end My

namespace My
open PySem PySem.Spec PyProof.Rows L2
section
variable {P : Program} {w : World} {K : PySem.W.Frag} {mg : Str → Option Value} {base : Heap} {a : Ad}
theorem ok_is_number (T : Txt K mg a)
    (rd : RD (sp_is_number K a) (t_is_number K a) N_is_number) :
    FnOk P w K mg base CX0 1 a.f_is_number a.d_is_number P_is_number (sp_is_number K a) := by
  have nd := sc_is_number.nd
  refine T.F_is_number.ok sc_is_number (fun vs H Q E h => by first | (obtain ⟨_, rfl, _⟩ := h; rfl) | (obtain ⟨_, _, rfl, _⟩ := h; rfl) | (obtain ⟨_, _, _, rfl, _⟩ := h; rfl) | (obtain ⟨_, _, _, _, rfl, _⟩ := h; rfl) | (obtain ⟨_, _, _, _, _, rfl, _⟩ := h; rfl) | (obtain ⟨_, _, _, _, _, _, rfl, _⟩ := h; rfl) | (obtain ⟨_, _, _, _, _, _, _, rfl, _⟩ := h; rfl)) (fun cdv A outer s H vs Q E hr h => ⟨t_is_number K a, ?_, rd vs H Q E h⟩)
  exact (pss_one (ps_ret (pe_and (pe_callB call_isi (by rfl) T.n_isinstance (by decide +kernel) (pa_cons (pv 0) (pa_cons (pe_bltn (v := .ty "int") rfl T.n_int (by decide +kernel) rfl) pa_nil))) (pe_one (pe_chain op_le op_le (pv 1) (pv 0) (pv 2))))))
theorem ok_need_number (T : Txt K mg a)
    (G_is_number : FnOk P w K mg base CX0 1 a.f_is_number a.d_is_number P_is_number (sp_is_number K a))
    (rd : RDX (sp_need_number K a) (t_need_number K a) N_need_number) :
    FnOk P w K mg base (L2.CX P w) 2 a.f_need_number a.d_need_number P_need_number (sp_need_number K a) := by
  have nd := sc_need_number.nd
  refine T.F_need_number.okX sc_need_number (fun vs H Q E h => by first | (obtain ⟨_, rfl, _⟩ := h; rfl) | (obtain ⟨_, _, rfl, _⟩ := h; rfl) | (obtain ⟨_, _, _, rfl, _⟩ := h; rfl) | (obtain ⟨_, _, _, _, rfl, _⟩ := h; rfl) | (obtain ⟨_, _, _, _, _, rfl, _⟩ := h; rfl) | (obtain ⟨_, _, _, _, _, _, rfl, _⟩ := h; rfl) | (obtain ⟨_, _, _, _, _, _, _, rfl, _⟩ := h; rfl)) (fun cdv A outer s H vs Q E hr h => ⟨t_need_number K a E, ?_, rd vs H Q E h⟩)
  exact (pss_one (ps_if (pt_not (pt_val (pe_call G_is_number (hr.mono (by decide)) rfl T.g_is_number T.F_is_number.kp T.b_is_number .nil pass0 (pa_cons (pv 0) (pa_cons (pv 1) (pa_cons (pv 2) pa_nil)))))) (pss_one (ps_raise rfl (takes_of rfl rfl rfl rfl) (pmk_own PySem.F.excBase_ValueError T.xC_BadNumber T.gC_BadNumber T.kC_BadNumber (raises_own T.bC_BadNumber T.tC_BadNumber) (by exact rfl)))) pss_nil))
theorem ok_bits_of (T : Txt K mg a)
    (G_need_number : FnOk P w K mg base (L2.CX P w) 2 a.f_need_number a.d_need_number P_need_number (sp_need_number K a))
    (rd : RDX (sp_bits_of K a) (t_bits_of K a) N_bits_of) :
    FnOk P w K mg base (L2.CX P w) 3 a.f_bits_of a.d_bits_of P_bits_of (sp_bits_of K a) := by
  have nd := sc_bits_of.nd
  refine T.F_bits_of.okX sc_bits_of (fun vs H Q E h => by first | (obtain ⟨_, rfl, _⟩ := h; rfl) | (obtain ⟨_, _, rfl, _⟩ := h; rfl) | (obtain ⟨_, _, _, rfl, _⟩ := h; rfl) | (obtain ⟨_, _, _, _, rfl, _⟩ := h; rfl) | (obtain ⟨_, _, _, _, _, rfl, _⟩ := h; rfl) | (obtain ⟨_, _, _, _, _, _, rfl, _⟩ := h; rfl) | (obtain ⟨_, _, _, _, _, _, _, rfl, _⟩ := h; rfl)) (fun cdv A outer s H vs Q E hr h => ⟨t_bits_of K a E, ?_, rd vs H Q E h⟩)
  exact (pss_cons (ps_if (pt_cmpR op_lt (pv 0) pe_int (nomark _)) (pss_one (ps_raise rfl (takes_of rfl rfl rfl rfl) (pmk_own PySem.F.excBase_ValueError T.xC_BadNumber T.gC_BadNumber T.kC_BadNumber (raises_own T.bC_BadNumber T.tC_BadNumber) (by exact rfl)))) pss_nil)
      (pss_cons (ps_expr (pe_call G_need_number (hr.mono (by decide)) rfl T.g_need_number T.F_need_number.kp T.b_need_number .nil (passes_call (takes_of rfl rfl rfl rfl) (fun _ _ _ _ h => h)) (pa_cons (pv 1) (pa_cons pe_int (pa_cons pe_int pa_nil)))))
      (pss_one (ps_ret (pe_lc (own := [("place", 2)]) (g := (gName 2)) (tt := tYes) (te := (tOp rAndI (tOp rShrI (tVar 0) (tVar 2)) (tC (.int 1)))) rfl nd (pi_range1 rfl T.n_range (pa_cons (pv 1) pa_nil)) (blkOk_by (N := N_bits_of) (sc := defScope s_bits_of) (by decide +kernel)) (fun _ _ _ _ _ => (pg_name (i := 2) nd rfl (by first | exact Or.inl rfl | exact Or.inr rfl))) (fun _ _ _ _ _ => pts_nil) (fun _ _ _ _ _ => (pe_op op_and (pe_op op_shr (pv 0) (pv 2)) pe_int)))))))
theorem ok_number_of (T : Txt K mg a)
    (rd : RD (sp_number_of K a) (t_number_of K a) N_number_of) :
    FnOk P w K mg base CX0 1 a.f_number_of a.d_number_of P_number_of (sp_number_of K a) := by
  have nd := sc_number_of.nd
  refine T.F_number_of.ok sc_number_of (fun vs H Q E h => by first | (obtain ⟨_, rfl, _⟩ := h; rfl) | (obtain ⟨_, _, rfl, _⟩ := h; rfl) | (obtain ⟨_, _, _, rfl, _⟩ := h; rfl) | (obtain ⟨_, _, _, _, rfl, _⟩ := h; rfl) | (obtain ⟨_, _, _, _, _, rfl, _⟩ := h; rfl) | (obtain ⟨_, _, _, _, _, _, rfl, _⟩ := h; rfl) | (obtain ⟨_, _, _, _, _, _, _, rfl, _⟩ := h; rfl)) (fun cdv A outer s H vs Q E hr h => ⟨t_number_of K a, ?_, rd vs H Q E h⟩)
  exact (pss_cons (ps_set (i := 1) nd rfl (by first | exact Or.inl rfl | exact Or.inr rfl) pe_int)
      (pss_cons (ps_for PassesOwn.never rfl (pi_enum rfl T.n_enumerate (pa_cons (pv 0) pa_nil)) (pg_tup rfl (pgs_cons (pg_name (i := 2) nd rfl (by first | exact Or.inl rfl | exact Or.inr rfl)) (pgs_cons (pg_name (i := 3) nd rfl (by first | exact Or.inl rfl | exact Or.inr rfl)) pgs_nil))) (pss_one (ps_aug (i := 1) nd rfl (by first | exact Or.inl rfl | exact Or.inr rfl) (pe_op op_shl (pv 3) (pv 2)) ip_add)))
      (pss_one (ps_ret (pv 1)))))
theorem ok_turned_about (T : Txt K mg a)
    (G_bits_of : FnOk P w K mg base (L2.CX P w) 3 a.f_bits_of a.d_bits_of P_bits_of (sp_bits_of K a))
    (G_number_of : FnOk P w K mg base CX0 1 a.f_number_of a.d_number_of P_number_of (sp_number_of K a))
    (rd : RDX (sp_turned_about K a) (t_turned_about K a) N_turned_about) :
    FnOk P w K mg base (L2.CX P w) 4 a.f_turned_about a.d_turned_about P_turned_about (sp_turned_about K a) := by
  have nd := sc_turned_about.nd
  refine T.F_turned_about.okX sc_turned_about (fun vs H Q E h => by first | (obtain ⟨_, rfl, _⟩ := h; rfl) | (obtain ⟨_, _, rfl, _⟩ := h; rfl) | (obtain ⟨_, _, _, rfl, _⟩ := h; rfl) | (obtain ⟨_, _, _, _, rfl, _⟩ := h; rfl) | (obtain ⟨_, _, _, _, _, rfl, _⟩ := h; rfl) | (obtain ⟨_, _, _, _, _, _, rfl, _⟩ := h; rfl) | (obtain ⟨_, _, _, _, _, _, _, rfl, _⟩ := h; rfl)) (fun cdv A outer s H vs Q E hr h => ⟨t_turned_about K a E, ?_, rd vs H Q E h⟩)
  exact (pss_one (ps_ret (pe_call G_number_of (hr.mono (by decide)) rfl T.g_number_of T.F_number_of.kp T.b_number_of .nil pass0 (pa_cons (pe_revL (pe_call G_bits_of (hr.mono (by decide)) rfl T.g_bits_of T.F_bits_of.kp T.b_bits_of .nil (passes_call (takes_of rfl rfl rfl rfl) (fun _ _ _ _ h => h)) (pa_cons (pv 0) (pa_cons (pv 1) pa_nil)))) pa_nil))))
theorem ok__law_bag (T : Txt K mg a)
    (rd : RD (sp__law_bag K a) (t__law_bag K a) N__law_bag) :
    FnOk P w K mg base CX0 1 a.f__law_bag a.d__law_bag P__law_bag (sp__law_bag K a) := by
  have nd := sc__law_bag.nd
  refine T.F__law_bag.ok sc__law_bag (fun vs H Q E h => by first | (obtain ⟨_, rfl, _⟩ := h; rfl) | (obtain ⟨_, _, rfl, _⟩ := h; rfl) | (obtain ⟨_, _, _, rfl, _⟩ := h; rfl) | (obtain ⟨_, _, _, _, rfl, _⟩ := h; rfl) | (obtain ⟨_, _, _, _, _, rfl, _⟩ := h; rfl) | (obtain ⟨_, _, _, _, _, _, rfl, _⟩ := h; rfl) | (obtain ⟨_, _, _, _, _, _, _, rfl, _⟩ := h; rfl)) (fun cdv A outer s H vs Q E hr h => ⟨t__law_bag K a, ?_, rd vs H Q E h⟩)
  exact (pss_cons (ps_set (i := 1) nd rfl (by first | exact Or.inl rfl | exact Or.inr rfl) (pe_callTy call_list_of (by rfl) T.n_list (by decide +kernel) (pa_cons (pe_slice sl_list (pv 0) po_none (po_some pe_int)) pa_nil)))
      (pss_cons (ps_set (i := 2) nd rfl (by first | exact Or.inl rfl | exact Or.inr rfl) (pe_op op_add pe_int (pe_callB call_len_seq (by rfl) T.n_len (by decide +kernel) (pa_cons (pv 1) pa_nil))))
      (pss_cons (ps_for PassesOwn.never rfl (pi_list (pv 1)) (pg_name (i := 3) nd rfl (by first | exact Or.inl rfl | exact Or.inr rfl)) (pss_one (ps_set (i := 2) nd rfl (by first | exact Or.inl rfl | exact Or.inr rfl) (pe_op op_mod (pe_op op_add (pe_op op_mul (pv 2) pe_int) (pv 3)) pe_int))))
      (pss_one (ps_ret (pe_lst (pa_cons (pv 1) (pa_cons pe_int (pa_cons pe_int (pa_cons (pv 2) pa_nil))))))))))
theorem ok__law_pull (T : Txt K mg a)
    (rd : RD (sp__law_pull K a) (t__law_pull K a) N__law_pull) :
    FnOk P w K mg base CX0 1 a.f__law_pull a.d__law_pull P__law_pull (sp__law_pull K a) := by
  have nd := sc__law_pull.nd
  refine T.F__law_pull.ok sc__law_pull (fun vs H Q E h => by first | (obtain ⟨_, rfl, _⟩ := h; rfl) | (obtain ⟨_, _, rfl, _⟩ := h; rfl) | (obtain ⟨_, _, _, rfl, _⟩ := h; rfl) | (obtain ⟨_, _, _, _, rfl, _⟩ := h; rfl) | (obtain ⟨_, _, _, _, _, rfl, _⟩ := h; rfl) | (obtain ⟨_, _, _, _, _, _, rfl, _⟩ := h; rfl) | (obtain ⟨_, _, _, _, _, _, _, rfl, _⟩ := h; rfl)) (fun cdv A outer s H vs Q E hr h => ⟨t__law_pull K a, ?_, rd vs H Q E h⟩)
  exact (pss_cons (ps_if (pt_cmpR op_lt (pe_ix ix_list (pv 0) pe_int (fun _ _ => rfl)) pe_int (nomark _)) (pss_cons (ps_asg (pe_op op_add (pe_ix ix_list (pv 0) pe_int (fun _ _ => rfl)) pe_int) (pg_sub (pv 0) pe_int set_list))
      (pss_cons (ps_set (i := 2) nd rfl (by first | exact Or.inl rfl | exact Or.inr rfl) (pe_op op_add (pe_ix ix_list (pv 0) pe_int (fun _ _ => rfl)) (pe_op op_mul (pe_ix ix_list (pv 0) pe_int (fun _ _ => rfl)) pe_int)))
      (pss_cons (ps_if (pt_cmpR op_le (pe_ix ix_list (pv 0) pe_int (fun _ _ => rfl)) (pe_callB call_len_seq (by rfl) T.n_len (by decide +kernel) (pa_cons (pe_ix ix_list (pv 0) pe_int (fun _ _ => rfl)) pa_nil)) (nomark _)) (pss_one (ps_set (i := 2) nd rfl (by first | exact Or.inl rfl | exact Or.inr rfl) (pe_ix ix_list (pe_ix ix_list (pv 0) pe_int (fun _ _ => rfl)) (pe_op op_sub (pe_ix ix_list (pv 0) pe_int (fun _ _ => rfl)) pe_int) (fun _ _ => rfl)))) pss_nil)
      (pss_cons (ps_if (PW.pt (pw_or (pt_cmpR op_gt (pe_ix ix_list (pv 0) pe_int (fun _ _ => rfl)) (pe_callB call_len_seq (by rfl) T.n_len (by decide +kernel) (pa_cons (pe_ix ix_list (pv 0) pe_int (fun _ _ => rfl)) pa_nil)) (nomark _)) (pw_or1 (pt_cmpR op_lt (pv 2) (pe_op op_pow pe_int pe_int) (nomark _))))) (pss_cons (ps_set (i := 3) nd rfl (by first | exact Or.inl rfl | exact Or.inr rfl) (pe_op op_mod (pe_op op_add (pe_op op_add (pe_op op_mul (pv 2) pe_int) (pe_op op_mul (pe_ix ix_list (pv 0) pe_int (fun _ _ => rfl)) pe_int)) (pe_ix ix_list (pv 0) pe_int (fun _ _ => rfl))) pe_int))
      (pss_cons (ps_set (i := 4) nd rfl (by first | exact Or.inl rfl | exact Or.inr rfl) (pe_op op_mod (pe_op op_add (pe_op op_mul (pv 3) (pv 3)) (pe_ix ix_list (pv 0) pe_int (fun _ _ => rfl))) pe_int))
      (pss_one (ps_ret (pe_op op_mod (pe_op op_fdivW (pe_op op_mod (pe_op op_add (pe_op op_mul (pv 4) pe_int) (pv 3)) pe_int) pe_int) (pv 1)))))) pss_nil)
      (pss_one (ps_asg (pv 2) (pg_sub (pv 0) pe_int set_list))))))) pss_nil)
      (pss_cons (ps_set (i := 5) nd rfl (by first | exact Or.inl rfl | exact Or.inr rfl) (pe_op op_mod (pe_ix ix_list (pv 0) pe_int (fun _ _ => rfl)) (pv 1)))
      (pss_cons (ps_asg (pe_op op_fdivW (pe_ix ix_list (pv 0) pe_int (fun _ _ => rfl)) (pv 1)) (pg_sub (pv 0) pe_int set_list))
      (pss_one (ps_ret (pv 5))))))
theorem ok__law_whole (T : Txt K mg a)
    (rd : RD (sp__law_whole K a) (t__law_whole K a) N__law_whole) :
    FnOk P w K mg base CX0 1 a.f__law_whole a.d__law_whole P__law_whole (sp__law_whole K a) := by
  have nd := sc__law_whole.nd
  refine T.F__law_whole.ok sc__law_whole (fun vs H Q E h => by first | (obtain ⟨_, rfl, _⟩ := h; rfl) | (obtain ⟨_, _, rfl, _⟩ := h; rfl) | (obtain ⟨_, _, _, rfl, _⟩ := h; rfl) | (obtain ⟨_, _, _, _, rfl, _⟩ := h; rfl) | (obtain ⟨_, _, _, _, _, rfl, _⟩ := h; rfl) | (obtain ⟨_, _, _, _, _, _, rfl, _⟩ := h; rfl) | (obtain ⟨_, _, _, _, _, _, _, rfl, _⟩ := h; rfl)) (fun cdv A outer s H vs Q E hr h => ⟨t__law_whole K a, ?_, rd vs H Q E h⟩)
  exact (pss_one (ps_ret (pe_and (pe_callB call_isi (by rfl) T.n_isinstance (by decide +kernel) (pa_cons (pv 0) (pa_cons (pe_bltn (v := .ty "int") rfl T.n_int (by decide +kernel) rfl) pa_nil))) (pe_one (pe_not (pe_callB call_isi (by rfl) T.n_isinstance (by decide +kernel) (pa_cons (pv 0) (pa_cons (pe_bltn (v := .ty "bool") rfl T.n_bool (by decide +kernel) rfl) pa_nil))))))))
theorem ok__law_same (T : Txt K mg a)
    (G__law_whole : FnOk P w K mg base CX0 1 a.f__law_whole a.d__law_whole P__law_whole (sp__law_whole K a)) {spR : Sp} {kR : Nat} (hk : 1 ≤ kR + 1)
    (GR : FnOk P w K mg base CX0 (kR + 1) a.f__law_same a.d__law_same P__law_same spR) {spN : Sp} (hN : ∀ vs H Q E, spN vs H Q E → vs.length = P__law_same.length)
    (rd : RD spN (t__law_same K a spR) N__law_same) :
    FnOk P w K mg base CX0 (kR + 2) a.f__law_same a.d__law_same P__law_same spN := by
  have nd := sc__law_same.nd
  refine T.F__law_same.ok sc__law_same hN (fun cdv A outer s H vs Q E hr h => ⟨t__law_same K a spR, ?_, rd vs H Q E h⟩)
  exact (pss_cons (ps_if (pt_cmpR op_isN (pv 1) pe_non (nomark _)) (pss_one (ps_ret (pe_cmpR op_isN (pv 0) pe_non (nomark _)))) pss_nil)
      (pss_cons (ps_if (pt_val (pe_callB call_isi (by rfl) T.n_isinstance (by decide +kernel) (pa_cons (pv 1) (pa_cons (pe_bltn (v := .ty "bool") rfl T.n_bool (by decide +kernel) rfl) pa_nil)))) (pss_one (ps_ret (pe_and (pe_callB call_isi (by rfl) T.n_isinstance (by decide +kernel) (pa_cons (pv 0) (pa_cons (pe_bltn (v := .ty "bool") rfl T.n_bool (by decide +kernel) rfl) pa_nil))) (pe_one (pe_cmpR op_eq (pv 0) (pv 1) (nomark _)))))) pss_nil)
      (pss_cons (ps_if (pt_val (pe_callB call_isi (by rfl) T.n_isinstance (by decide +kernel) (pa_cons (pv 1) (pa_cons (pe_bltn (v := .ty "int") rfl T.n_int (by decide +kernel) rfl) pa_nil)))) (pss_one (ps_ret (pe_and (pe_call G__law_whole (hr.mono (Nat.le_trans (by decide) hk)) rfl T.g__law_whole T.F__law_whole.kp T.b__law_whole .nil pass0 (pa_cons (pv 0) pa_nil)) (pe_one (pe_cmpR op_eq (pv 0) (pv 1) (nomark _)))))) pss_nil)
      (pss_cons (ps_if (pt_val (pe_callB call_isi (by rfl) T.n_isinstance (by decide +kernel) (pa_cons (pv 1) (pa_cons (pe_bltn (v := .ty "str") rfl T.n_str (by decide +kernel) rfl) pa_nil)))) (pss_one (ps_ret (pe_and (pe_callB call_isi (by rfl) T.n_isinstance (by decide +kernel) (pa_cons (pv 0) (pa_cons (pe_bltn (v := .ty "str") rfl T.n_str (by decide +kernel) rfl) pa_nil))) (pe_one (pe_cmpR op_eq (pv 0) (pv 1) (nomark _)))))) pss_nil)
      (pss_cons (ps_if (PW.pt (pw_or (pt_cmpR op_ne (pe_callB call_isi (by rfl) T.n_isinstance (by decide +kernel) (pa_cons (pv 1) (pa_cons (pe_bltn (v := .ty "list") rfl T.n_list (by decide +kernel) rfl) pa_nil))) (pe_callB call_isi (by rfl) T.n_isinstance (by decide +kernel) (pa_cons (pv 0) (pa_cons (pe_bltn (v := .ty "list") rfl T.n_list (by decide +kernel) rfl) pa_nil))) (nomark _)) (pw_or1 (pt_cmpR op_ne (pe_callB call_isi (by rfl) T.n_isinstance (by decide +kernel) (pa_cons (pv 1) (pa_cons (pe_bltn (v := .ty "tuple") rfl T.n_tuple (by decide +kernel) rfl) pa_nil))) (pe_callB call_isi (by rfl) T.n_isinstance (by decide +kernel) (pa_cons (pv 0) (pa_cons (pe_bltn (v := .ty "tuple") rfl T.n_tuple (by decide +kernel) rfl) pa_nil))) (nomark _))))) (pss_one (ps_ret pe_bl)) pss_nil)
      (pss_cons (ps_if (pt_cmpR op_ne (pe_callB call_len_seq (by rfl) T.n_len (by decide +kernel) (pa_cons (pv 0) pa_nil)) (pe_callB call_len_seq (by rfl) T.n_len (by decide +kernel) (pa_cons (pv 1) pa_nil)) (nomark _)) (pss_one (ps_ret pe_bl)) pss_nil)
      (pss_one (ps_ret (pe_callB (cr_all rfl) (by rfl) T.n_all (by decide +kernel) (pa_cons (pe_lc (own := [("_law_spot", 2)]) (g := (gName 2)) (tt := tYes) (te := (tCall spR [] E0 (tCons (tOp (rIx K) (tVar 0) (tVar 2)) (tCons (tOp (rIx K) (tVar 1) (tVar 2)) tNil)))) rfl nd (pi_range1 rfl T.n_range (pa_cons (pe_callB call_len_seq (by rfl) T.n_len (by decide +kernel) (pa_cons (pv 1) pa_nil)) pa_nil)) (blkOk_by (N := N__law_same) (sc := defScope s__law_same) (by decide +kernel)) (fun _ _ _ _ _ => (pg_name (i := 2) nd rfl (by first | exact Or.inl rfl | exact Or.inr rfl))) (fun _ _ _ _ _ => pts_nil) (fun _ _ _ _ _ => (pe_call GR hr rfl T.g__law_same T.F__law_same.kp T.b__law_same .nil pass0 (pa_cons (pe_ix ix_seq (pv 0) (pv 2) (fun _ _ => rfl)) (pa_cons (pe_ix ix_seq (pv 1) (pv 2) (fun _ _ => rfl)) pa_nil))))) pa_nil))))))))))
theorem ok__law_bits (T : Txt K mg a)
    (rd : RD (sp__law_bits K a) (t__law_bits K a) N__law_bits) :
    FnOk P w K mg base CX0 1 a.f__law_bits a.d__law_bits P__law_bits (sp__law_bits K a) := by
  have nd := sc__law_bits.nd
  refine T.F__law_bits.ok sc__law_bits (fun vs H Q E h => by first | (obtain ⟨_, rfl, _⟩ := h; rfl) | (obtain ⟨_, _, rfl, _⟩ := h; rfl) | (obtain ⟨_, _, _, rfl, _⟩ := h; rfl) | (obtain ⟨_, _, _, _, rfl, _⟩ := h; rfl) | (obtain ⟨_, _, _, _, _, rfl, _⟩ := h; rfl) | (obtain ⟨_, _, _, _, _, _, rfl, _⟩ := h; rfl) | (obtain ⟨_, _, _, _, _, _, _, rfl, _⟩ := h; rfl)) (fun cdv A outer s H vs Q E hr h => ⟨t__law_bits K a, ?_, rd vs H Q E h⟩)
  exact (pss_cons (ps_set (i := 2) nd rfl (by first | exact Or.inl rfl | exact Or.inr rfl) (pe_lst pa_nil))
      (pss_cons (ps_for PassesOwn.never rfl (pi_range1 rfl T.n_range (pa_cons (pv 1) pa_nil)) (pg_name (i := 3) nd rfl (by first | exact Or.inl rfl | exact Or.inr rfl)) (pss_cons (ps_expr (pe_bm PySem.F.plainAttrs_list PySem.F.slot_list_append PySem.F.type_list_append mt_append (pv 2) (pa_cons (pe_op op_mod (pv 0) pe_int) pa_nil)))
      (pss_one (ps_set (i := 0) nd rfl (by first | exact Or.inl rfl | exact Or.inr rfl) (pe_op op_fdivW (pv 0) pe_int)))))
      (pss_one (ps_ret (pv 2)))))
theorem ok__law_high (T : Txt K mg a)
    (rd : RD (sp__law_high K a) (t__law_high K a) N__law_high) :
    FnOk P w K mg base CX0 1 a.f__law_high a.d__law_high P__law_high (sp__law_high K a) := by
  have nd := sc__law_high.nd
  refine T.F__law_high.ok sc__law_high (fun vs H Q E h => by first | (obtain ⟨_, rfl, _⟩ := h; rfl) | (obtain ⟨_, _, rfl, _⟩ := h; rfl) | (obtain ⟨_, _, _, rfl, _⟩ := h; rfl) | (obtain ⟨_, _, _, _, rfl, _⟩ := h; rfl) | (obtain ⟨_, _, _, _, _, rfl, _⟩ := h; rfl) | (obtain ⟨_, _, _, _, _, _, rfl, _⟩ := h; rfl) | (obtain ⟨_, _, _, _, _, _, _, rfl, _⟩ := h; rfl)) (fun cdv A outer s H vs Q E hr h => ⟨t__law_high K a, ?_, rd vs H Q E h⟩)
  exact (pss_cons (ps_set (i := 1) nd rfl (by first | exact Or.inl rfl | exact Or.inr rfl) pe_int)
      (pss_cons (ps_for PassesOwn.never rfl (pi_list (pv 0)) (pg_name (i := 2) nd rfl (by first | exact Or.inl rfl | exact Or.inr rfl)) (pss_one (ps_set (i := 1) nd rfl (by first | exact Or.inl rfl | exact Or.inr rfl) (pe_op op_add (pe_op op_mul pe_int (pv 1)) (pv 2)))))
      (pss_one (ps_ret (pv 1)))))
theorem ok__law_said (T : Txt K mg a)
    (G_bits_of : FnOk P w K mg base (L2.CX P w) 3 a.f_bits_of a.d_bits_of P_bits_of (sp_bits_of K a))
    (G_turned_about : FnOk P w K mg base (L2.CX P w) 4 a.f_turned_about a.d_turned_about P_turned_about (sp_turned_about K a))
    (rd : RD (sp__law_said K a) (t__law_said K a) N__law_said) :
    FnOk P w K mg base CX0 5 a.f__law_said a.d__law_said P__law_said (sp__law_said K a) := by
  have nd := sc__law_said.nd
  refine T.F__law_said.ok sc__law_said (fun vs H Q E h => by first | (obtain ⟨_, rfl, _⟩ := h; rfl) | (obtain ⟨_, _, rfl, _⟩ := h; rfl) | (obtain ⟨_, _, _, rfl, _⟩ := h; rfl) | (obtain ⟨_, _, _, _, rfl, _⟩ := h; rfl) | (obtain ⟨_, _, _, _, _, rfl, _⟩ := h; rfl) | (obtain ⟨_, _, _, _, _, _, rfl, _⟩ := h; rfl) | (obtain ⟨_, _, _, _, _, _, _, rfl, _⟩ := h; rfl)) (fun cdv A outer s H vs Q E hr h => ⟨t__law_said K a, ?_, rd vs H Q E h⟩)
  exact (pss_cons (ps_set (i := 3) nd rfl (by first | exact Or.inl rfl | exact Or.inr rfl) pe_non)
      (pss_cons (ps_try_as (i := 4) (tb := (fun W => (tAsg (tIf (tTest (tOp rEq (tVar 0) (tC (.int 0)))) (tCallS (sp_bits_of K a) (WE W) (tCons (tVar 1) (tCons (tVar 2) tNil))) (tCallS (sp_turned_about K a) (WE W) (tCons (tVar 1) (tCons (tVar 2) tNil)))) (gName 3)))) (ts := (fun ae cls d => (tAsg (tIf (tAnd (tB (tCB (rIsE2 K a.c_BadNumber ae cls d) (tCons (tVar 4) (tCons (tC (.ref a.c_BadNumber)) tNil)))) (tB (tCB (rIsE2 K a.c_BadNumber ae cls d) (tCons (tVar 4) (tCons (tC (.ty "ValueError")) tNil))))) (tC (.str ("bad" : Str))) (tC (.str ("other" : Str)))) (gName 3)))) (Wout := fun _ _ _ _ => False) rfl rfl nd rfl rfl ⟨rfl, by decide, .inl T.gC_BusError⟩ takes0 (fun W pn xe tk _ => (pss_one (ps_set (i := 3) nd rfl (by first | exact Or.inl rfl | exact Or.inr rfl) (pe_ifExp (pt_cmpR op_eq (pv 0) pe_int (nomark _)) (pe_callS G_bits_of (hr.mono (by decide)) rfl T.g_bits_of T.F_bits_of.kp T.b_bits_of (fun σ => passAt tk σ) (pa_cons (pv 1) (pa_cons (pv 2) pa_nil))) (pe_callS G_turned_about (hr.mono (by decide)) rfl T.g_turned_about T.F_turned_about.kp T.b_turned_about (fun σ => passAt tk σ) (pa_cons (pv 1) (pa_cons (pv 2) pa_nil))))))) (fun ae oe cls d pn hz hf => (pss_one (ps_set (i := 3) nd rfl (by first | exact Or.inl rfl | exact Or.inr rfl) (pe_ifExp (PW.pt (pw_and (pt_val (pe_callB (call_isE2 T.e_BadNumber hz hf) (by rfl) T.n_isinstance (by decide +kernel) (pa_cons (pv 4) (pa_cons (pe_glob (v := .ref a.c_BadNumber) rfl T.gC_BadNumber rfl) pa_nil)))) (pw_and1 (pt_val (pe_callB (call_isE2 T.e_BadNumber hz hf) (by rfl) T.n_isinstance (by decide +kernel) (pa_cons (pv 4) (pa_cons (pe_bltn (v := .ty "ValueError") rfl T.n_ValueError (by decide +kernel) rfl) pa_nil))))))) pe_str pe_str)))))
      (pss_one (ps_ret (pv 3)))))
theorem ok_law (T : Txt K mg a)
    (G__law_bag : FnOk P w K mg base CX0 1 a.f__law_bag a.d__law_bag P__law_bag (sp__law_bag K a))
    (G__law_bits : FnOk P w K mg base CX0 1 a.f__law_bits a.d__law_bits P__law_bits (sp__law_bits K a))
    (G__law_high : FnOk P w K mg base CX0 1 a.f__law_high a.d__law_high P__law_high (sp__law_high K a))
    (G__law_pull : FnOk P w K mg base CX0 1 a.f__law_pull a.d__law_pull P__law_pull (sp__law_pull K a))
    (G__law_said : FnOk P w K mg base CX0 5 a.f__law_said a.d__law_said P__law_said (sp__law_said K a))
    (G__law_same : FnOk P w K mg base CX0 6 a.f__law_same a.d__law_same P__law_same (sp__law_same K a))
    (G_number_of : FnOk P w K mg base CX0 1 a.f_number_of a.d_number_of P_number_of (sp_number_of K a))
    (rd : RD (sp_law K a) (t_law K a) N_law) :
    FnOk P w K mg base CX0 7 a.f_law a.d_law P_law (sp_law K a) := by
  have nd := sc_law.nd
  refine T.F_law.ok sc_law (fun vs H Q E h => by first | (obtain ⟨_, rfl, _⟩ := h; rfl) | (obtain ⟨_, _, rfl, _⟩ := h; rfl) | (obtain ⟨_, _, _, rfl, _⟩ := h; rfl) | (obtain ⟨_, _, _, _, rfl, _⟩ := h; rfl) | (obtain ⟨_, _, _, _, _, rfl, _⟩ := h; rfl) | (obtain ⟨_, _, _, _, _, _, rfl, _⟩ := h; rfl) | (obtain ⟨_, _, _, _, _, _, _, rfl, _⟩ := h; rfl)) (fun cdv A outer s H vs Q E hr h => ⟨t_law K a, ?_, rd vs H Q E h⟩)
  exact (pss_cons (ps_set (i := 1) nd rfl (by first | exact Or.inl rfl | exact Or.inr rfl) (pe_call G__law_bag (hr.mono (by decide)) rfl T.g__law_bag T.F__law_bag.kp T.b__law_bag .nil pass0 (pa_cons (pv 0) pa_nil)))
      (pss_cons (ps_for PassesOwn.never rfl (pi_range1 rfl T.n_range (pa_cons pe_int pa_nil)) (pg_name (i := 2) nd rfl (by first | exact Or.inl rfl | exact Or.inr rfl)) (pss_cons (ps_set (i := 3) nd rfl (by first | exact Or.inl rfl | exact Or.inr rfl) (pe_ix ix_list (pe_lst (pa_cons (pe_call G__law_pull (hr.mono (by decide)) rfl T.g__law_pull T.F__law_pull.kp T.b__law_pull .nil pass0 (pa_cons (pv 1) (pa_cons (pe_op op_pow pe_int pe_int) pa_nil))) (pa_cons (pe_call G__law_pull (hr.mono (by decide)) rfl T.g__law_pull T.F__law_pull.kp T.b__law_pull .nil pass0 (pa_cons (pv 1) (pa_cons (pe_op op_pow pe_int pe_int) pa_nil))) (pa_cons pe_int (pa_cons (pe_op op_sub (pe_op op_sub pe_int pe_int) (pe_call G__law_pull (hr.mono (by decide)) rfl T.g__law_pull T.F__law_pull.kp T.b__law_pull .nil pass0 (pa_cons (pv 1) (pa_cons pe_int pa_nil)))) pa_nil))))) (pe_call G__law_pull (hr.mono (by decide)) rfl T.g__law_pull T.F__law_pull.kp T.b__law_pull .nil pass0 (pa_cons (pv 1) (pa_cons pe_int pa_nil))) (fun _ _ => rfl)))
      (pss_cons (ps_set (i := 4) nd rfl (by first | exact Or.inl rfl | exact Or.inr rfl) (pe_ix ix_list (pe_lst (pa_cons (pe_call G__law_pull (hr.mono (by decide)) rfl T.g__law_pull T.F__law_pull.kp T.b__law_pull .nil pass0 (pa_cons (pv 1) (pa_cons pe_int pa_nil))) (pa_cons pe_int (pa_cons pe_int (pa_cons pe_int (pa_cons (pe_op op_sub pe_int pe_int) (pa_cons (pe_op op_pow pe_int pe_int) pa_nil))))))) (pe_call G__law_pull (hr.mono (by decide)) rfl T.g__law_pull T.F__law_pull.kp T.b__law_pull .nil pass0 (pa_cons (pv 1) (pa_cons pe_int pa_nil))) (fun _ _ => rfl)))
      (pss_cons (ps_set (i := 5) nd rfl (by first | exact Or.inl rfl | exact Or.inr rfl) (pe_lst (pa_cons pe_str (pa_cons pe_str pa_nil))))
      (pss_cons (ps_if (PW.pt (pw_and (pt_cmpR op_ge (pv 3) pe_int (nomark _)) (pw_and1 (pt_chain op_le op_le pe_int (pv 4) pe_int)))) (pss_cons (ps_set (i := 6) nd rfl (by first | exact Or.inl rfl | exact Or.inr rfl) (pe_call G__law_bits (hr.mono (by decide)) rfl T.g__law_bits T.F__law_bits.kp T.b__law_bits .nil pass0 (pa_cons (pv 3) (pa_cons (pv 4) pa_nil))))
      (pss_cons (ps_set (i := 5) nd rfl (by first | exact Or.inl rfl | exact Or.inr rfl) (pe_lst (pa_cons (pv 6) (pa_cons (pe_call G__law_high (hr.mono (by decide)) rfl T.g__law_high T.F__law_high.kp T.b__law_high .nil pass0 (pa_cons (pv 6) pa_nil)) pa_nil))))
      (pss_one (ps_if (pt_not (pt_val (pe_call G__law_same (hr.mono (by decide)) rfl T.g__law_same T.F__law_same.kp T.b__law_same .nil pass0 (pa_cons (pe_call G_number_of (hr.mono (by decide)) rfl T.g_number_of T.F_number_of.kp T.b_number_of .nil pass0 (pa_cons (pv 6) pa_nil)) (pa_cons (pe_call G__law_high (hr.mono (by decide)) rfl T.g__law_high T.F__law_high.kp T.b__law_high .nil pass0 (pa_cons (pe_revL (pv 6)) pa_nil)) pa_nil))))) (pss_one (ps_ret pe_bl)) pss_nil)))) pss_nil)
      (pss_one (ps_if (pt_not (pt_val (pe_call G__law_same (hr.mono (by decide)) rfl T.g__law_same T.F__law_same.kp T.b__law_same .nil pass0 (pa_cons (pe_lc (own := [("_law_which", 7)]) (g := (gName 7)) (tt := tYes) (te := (tCall (sp__law_said K a) [] E0 (tCons (tVar 7) (tCons (tVar 3) (tCons (tVar 4) tNil))))) rfl nd (pi_range1 rfl T.n_range (pa_cons pe_int pa_nil)) (blkOk_by (N := N_law) (sc := defScope s_law) (by decide +kernel)) (fun _ _ _ _ _ => (pg_name (i := 7) nd rfl (by first | exact Or.inl rfl | exact Or.inr rfl))) (fun _ _ _ _ _ => pts_nil) (fun _ _ _ _ _ => (pe_call G__law_said (hr.mono (by decide)) rfl T.g__law_said T.F__law_said.kp T.b__law_said .nil pass0 (pa_cons (pv 7) (pa_cons (pv 3) (pa_cons (pv 4) pa_nil)))))) (pa_cons (pv 5) pa_nil))))) (pss_one (ps_ret pe_bl)) pss_nil)))))))
      (pss_one (ps_ret pe_bl))))
theorem same_ok (T : Txt K mg a) : ∀ n, FnOk P w K mg base CX0 (n + 2) a.f__law_same a.d__law_same P__law_same (sp_same n K)
  | 0 => ok__law_same (kR := 0) T (ok__law_whole T rd__law_whole) (by decide) (spR := fun _ _ _ _ => False) (T.F__law_same.ok sc__law_same (fun _ _ _ _ h => h.elim) (fun _ _ _ _ _ _ _ _ _ h => h.elim)) (fun vs H Q E h => by obtain ⟨_, _, _, rfl, _⟩ := h; rfl) (rd__law_same 0 _ fun k h => nomatch h)
  | n + 1 => ok__law_same (kR := n + 1) T (ok__law_whole T rd__law_whole) (by omega) (same_ok T n) (fun vs H Q E h => by obtain ⟨_, _, _, rfl, _⟩ := h; rfl) (rd__law_same (n + 1) _ fun k h => by cases h; rfl)
theorem law_ok (T : Txt K mg a) : FnOk P w K mg base CX0 7 a.f_law a.d_law P_law (sp_law K a) := by
  have g1 := ok_is_number (P := P) (w := w) (base := base) T rd_is_number
  have g2 := ok_need_number T g1 rd_need_number
  have g3 := ok_bits_of T g2 rd_bits_of
  have g4 := ok_number_of (P := P) (w := w) (base := base) T rd_number_of
  have g5 := ok_turned_about T g3 g4 rd_turned_about
  have g6 := ok__law_said T g3 g5 (rd__law_said T)
  exact ok_law T (ok__law_bag T rd__law_bag) (ok__law_bits T rd__law_bits) (ok__law_high T rd__law_high) (ok__law_pull T rd__law_pull) g6 (same_ok T 4) g4 rd_law
end
theorem kit_self {K : PySem.W.Frag} {v : Value} : PySem.W.kitOne K v v = some true := if_pos (beq_self_eq_true v)
theorem kit_bi {K : PySem.W.Frag} {C : Addr} {T : String} {b : Bool} (h : PySem.W.kitMeta T = true) (hs : PySem.W.subIn K (.ref C) (.type T) = some b) : PySem.W.kitOne K (.ref C) (.type T) = some b := by
  show (if (Value.ref C == Value.type T) = true then some true else if PySem.W.kitMeta T = true then PySem.W.subIn K (.ref C) (.type T) else none) = some b
  rw [if_neg (by rw [beq_eq_false_iff_ne.mpr (fun z => by cases z)]; decide), if_pos h]
  exact hs
theorem all_mk {l : PySem.W.OpenLaw} {w : World} {K : PySem.W.Frag} {h : Heap} {mg : Str → Option Value} {fa : Addr} (X : K.In h) (G : h.Ns mainGlobals mg) (hfa : mg "law" = some (.ref fa))
    {f0 : Addr} {od0 an0 : Option Addr} {sl0 : Array (Option Value)} {oc0 kV0 dc0 pm0 cd0 ct0 : Value}
    (a0 : PySem.W.nsIn K mainGlobals "is_number" = some (some (.ref f0)))
    (l0 : K.lookup f0 = some ⟨oc0, od0, .func (PySem.W.fnOf "is_number" "is_number" (defArgs s_is_number) (defBody s_is_number) (defScope s_is_number) .none kV0 dc0 pm0 an0 cd0 ct0), sl0⟩)
    (c0 : PySem.W.codeIn K cd0 "is_number" = true)
    (k0 : PySem.W.keepIn K (.ref f0) = true)
    {f1 : Addr} {od1 an1 : Option Addr} {sl1 : Array (Option Value)} {oc1 kV1 dc1 pm1 cd1 ct1 : Value}
    (a1 : PySem.W.nsIn K mainGlobals "need_number" = some (some (.ref f1)))
    (l1 : K.lookup f1 = some ⟨oc1, od1, .func (PySem.W.fnOf "need_number" "need_number" (defArgs s_need_number) (defBody s_need_number) (defScope s_need_number) .none kV1 dc1 pm1 an1 cd1 ct1), sl1⟩)
    (c1 : PySem.W.codeIn K cd1 "need_number" = true)
    (k1 : PySem.W.keepIn K (.ref f1) = true)
    {f2 : Addr} {od2 an2 : Option Addr} {sl2 : Array (Option Value)} {oc2 kV2 dc2 pm2 cd2 ct2 : Value}
    (a2 : PySem.W.nsIn K mainGlobals "bits_of" = some (some (.ref f2)))
    (l2 : K.lookup f2 = some ⟨oc2, od2, .func (PySem.W.fnOf "bits_of" "bits_of" (defArgs s_bits_of) (defBody s_bits_of) (defScope s_bits_of) .none kV2 dc2 pm2 an2 cd2 ct2), sl2⟩)
    (c2 : PySem.W.codeIn K cd2 "bits_of" = true)
    (k2 : PySem.W.keepIn K (.ref f2) = true)
    {f3 : Addr} {od3 an3 : Option Addr} {sl3 : Array (Option Value)} {oc3 kV3 dc3 pm3 cd3 ct3 : Value}
    (a3 : PySem.W.nsIn K mainGlobals "number_of" = some (some (.ref f3)))
    (l3 : K.lookup f3 = some ⟨oc3, od3, .func (PySem.W.fnOf "number_of" "number_of" (defArgs s_number_of) (defBody s_number_of) (defScope s_number_of) .none kV3 dc3 pm3 an3 cd3 ct3), sl3⟩)
    (c3 : PySem.W.codeIn K cd3 "number_of" = true)
    (k3 : PySem.W.keepIn K (.ref f3) = true)
    {f4 : Addr} {od4 an4 : Option Addr} {sl4 : Array (Option Value)} {oc4 kV4 dc4 pm4 cd4 ct4 : Value}
    (a4 : PySem.W.nsIn K mainGlobals "turned_about" = some (some (.ref f4)))
    (l4 : K.lookup f4 = some ⟨oc4, od4, .func (PySem.W.fnOf "turned_about" "turned_about" (defArgs s_turned_about) (defBody s_turned_about) (defScope s_turned_about) .none kV4 dc4 pm4 an4 cd4 ct4), sl4⟩)
    (c4 : PySem.W.codeIn K cd4 "turned_about" = true)
    (k4 : PySem.W.keepIn K (.ref f4) = true)
    {f5 : Addr} {od5 an5 : Option Addr} {sl5 : Array (Option Value)} {oc5 kV5 dc5 pm5 cd5 ct5 : Value}
    (a5 : PySem.W.nsIn K mainGlobals "_law_bag" = some (some (.ref f5)))
    (l5 : K.lookup f5 = some ⟨oc5, od5, .func (PySem.W.fnOf "_law_bag" "_law_bag" (defArgs s__law_bag) (defBody s__law_bag) (defScope s__law_bag) .none kV5 dc5 pm5 an5 cd5 ct5), sl5⟩)
    (c5 : PySem.W.codeIn K cd5 "_law_bag" = true)
    (k5 : PySem.W.keepIn K (.ref f5) = true)
    {f6 : Addr} {od6 an6 : Option Addr} {sl6 : Array (Option Value)} {oc6 kV6 dc6 pm6 cd6 ct6 : Value}
    (a6 : PySem.W.nsIn K mainGlobals "_law_pull" = some (some (.ref f6)))
    (l6 : K.lookup f6 = some ⟨oc6, od6, .func (PySem.W.fnOf "_law_pull" "_law_pull" (defArgs s__law_pull) (defBody s__law_pull) (defScope s__law_pull) .none kV6 dc6 pm6 an6 cd6 ct6), sl6⟩)
    (c6 : PySem.W.codeIn K cd6 "_law_pull" = true)
    (k6 : PySem.W.keepIn K (.ref f6) = true)
    {f7 : Addr} {od7 an7 : Option Addr} {sl7 : Array (Option Value)} {oc7 kV7 dc7 pm7 cd7 ct7 : Value}
    (a7 : PySem.W.nsIn K mainGlobals "_law_whole" = some (some (.ref f7)))
    (l7 : K.lookup f7 = some ⟨oc7, od7, .func (PySem.W.fnOf "_law_whole" "_law_whole" (defArgs s__law_whole) (defBody s__law_whole) (defScope s__law_whole) .none kV7 dc7 pm7 an7 cd7 ct7), sl7⟩)
    (c7 : PySem.W.codeIn K cd7 "_law_whole" = true)
    (k7 : PySem.W.keepIn K (.ref f7) = true)
    {f8 : Addr} {od8 an8 : Option Addr} {sl8 : Array (Option Value)} {oc8 kV8 dc8 pm8 cd8 ct8 : Value}
    (a8 : PySem.W.nsIn K mainGlobals "_law_same" = some (some (.ref f8)))
    (l8 : K.lookup f8 = some ⟨oc8, od8, .func (PySem.W.fnOf "_law_same" "_law_same" (defArgs s__law_same) (defBody s__law_same) (defScope s__law_same) .none kV8 dc8 pm8 an8 cd8 ct8), sl8⟩)
    (c8 : PySem.W.codeIn K cd8 "_law_same" = true)
    (k8 : PySem.W.keepIn K (.ref f8) = true)
    {f9 : Addr} {od9 an9 : Option Addr} {sl9 : Array (Option Value)} {oc9 kV9 dc9 pm9 cd9 ct9 : Value}
    (a9 : PySem.W.nsIn K mainGlobals "_law_bits" = some (some (.ref f9)))
    (l9 : K.lookup f9 = some ⟨oc9, od9, .func (PySem.W.fnOf "_law_bits" "_law_bits" (defArgs s__law_bits) (defBody s__law_bits) (defScope s__law_bits) .none kV9 dc9 pm9 an9 cd9 ct9), sl9⟩)
    (c9 : PySem.W.codeIn K cd9 "_law_bits" = true)
    (k9 : PySem.W.keepIn K (.ref f9) = true)
    {f10 : Addr} {od10 an10 : Option Addr} {sl10 : Array (Option Value)} {oc10 kV10 dc10 pm10 cd10 ct10 : Value}
    (a10 : PySem.W.nsIn K mainGlobals "_law_high" = some (some (.ref f10)))
    (l10 : K.lookup f10 = some ⟨oc10, od10, .func (PySem.W.fnOf "_law_high" "_law_high" (defArgs s__law_high) (defBody s__law_high) (defScope s__law_high) .none kV10 dc10 pm10 an10 cd10 ct10), sl10⟩)
    (c10 : PySem.W.codeIn K cd10 "_law_high" = true)
    (k10 : PySem.W.keepIn K (.ref f10) = true)
    {f11 : Addr} {od11 an11 : Option Addr} {sl11 : Array (Option Value)} {oc11 kV11 dc11 pm11 cd11 ct11 : Value}
    (a11 : PySem.W.nsIn K mainGlobals "_law_said" = some (some (.ref f11)))
    (l11 : K.lookup f11 = some ⟨oc11, od11, .func (PySem.W.fnOf "_law_said" "_law_said" (defArgs s__law_said) (defBody s__law_said) (defScope s__law_said) .none kV11 dc11 pm11 an11 cd11 ct11), sl11⟩)
    (c11 : PySem.W.codeIn K cd11 "_law_said" = true)
    (k11 : PySem.W.keepIn K (.ref f11) = true)
    {f12 : Addr} {od12 an12 : Option Addr} {sl12 : Array (Option Value)} {oc12 kV12 dc12 pm12 cd12 ct12 : Value}
    (a12 : PySem.W.nsIn K mainGlobals "law" = some (some (.ref f12)))
    (l12 : K.lookup f12 = some ⟨oc12, od12, .func (PySem.W.fnOf "law" "law" (defArgs s_law) (defBody s_law) (defScope s_law) .none kV12 dc12 pm12 an12 cd12 ct12), sl12⟩)
    (c12 : PySem.W.codeIn K cd12 "law" = true)
    (k12 : PySem.W.keepIn K (.ref f12) = true)
    {C_BusError : Addr}
    (aC_BusError : PySem.W.nsIn K mainGlobals "BusError" = some (some (.ref C_BusError)))
    {C_BadNumber : Addr}
    (aC_BadNumber : PySem.W.nsIn K mainGlobals "BadNumber" = some (some (.ref C_BadNumber)))
    (xC_BadNumber : PySem.W.excIn K C_BadNumber [.type "ValueError", .type "Exception", .type "BaseException", .type "object"] "ValueError.__new__" = true)
    (kC_BadNumber : PySem.W.keepIn K (.ref C_BadNumber) = true)
    (bC_BadNumber : PySem.W.subIn K (.ref C_BadNumber) (.type "BaseException") = some true)
    (tC_BadNumber : PySem.W.typeIn K (.ref C_BadNumber) = some (.type "type"))
    (eb_BusError : PySem.W.subIn K (.ref C_BusError) (.type "BaseException") = some true)
    (eh_BusError : PySem.W.hasDictIn K C_BusError = true)
    (et_BusError : PySem.W.typeIn K (.ref C_BusError) = some (.type "type"))
    (es_BadNumber_BusError : PySem.W.subIn K (.ref C_BadNumber) (.ref C_BusError) = some true)
    (hg_BadNumber : PySem.W.findIn K (.ref C_BadNumber) "__getattribute__" = some (some (.builtin "BaseException.__getattribute__")))
    (hk_BadNumber : PySem.W.findIn K (.ref C_BadNumber) "__getattr__" = some none)
    (hs_BadNumber : PySem.W.subIn K (.ref C_BadNumber) (.type "BaseException") = some true)
    (hd_BadNumber : PySem.W.hasDictIn K C_BadNumber = true)
    (ha_BadNumber : PySem.W.findIn K (.ref C_BadNumber) "__class__" = some (some (.builtin "object.__class__")))
    (hn_BadNumber : PySem.W.specialIn K (.builtin "object.__class__") "__get__" = some (some (.builtin "getset_descriptor.__get__")))
    (ht_BadNumber : PySem.W.takesIn K (.builtin "object.__class__") = some true)
    (hm_BadNumber : PySem.W.mroIn K C_BadNumber (.type "object") = some true)
    (ks_BadNumber_ValueError : PySem.W.subIn K (.ref C_BadNumber) (.type "ValueError") = some true)
    (z_ValueError : PySem.W.nsIn K mainGlobals "ValueError" = some none)
    (z_all : PySem.W.nsIn K mainGlobals "all" = some none)
    (z_bool : PySem.W.nsIn K mainGlobals "bool" = some none)
    (z_enumerate : PySem.W.nsIn K mainGlobals "enumerate" = some none)
    (z_int : PySem.W.nsIn K mainGlobals "int" = some none)
    (z_isinstance : PySem.W.nsIn K mainGlobals "isinstance" = some none)
    (z_len : PySem.W.nsIn K mainGlobals "len" = some none)
    (z_list : PySem.W.nsIn K mainGlobals "list" = some none)
    (z_range : PySem.W.nsIn K mainGlobals "range" = some none)
    (z_str : PySem.W.nsIn K mainGlobals "str" = some none)
    (z_tuple : PySem.W.nsIn K mainGlobals "tuple" = some none)
    : ∃ fd : FuncData, (∀ (s : Shared) (v : Value), BindsTo s fd ⟨[v], []⟩ [("_law_script", v)]) ∧ ∀ base : Heap, K.In base → base.Ns mainGlobals mg → FnOk l.prog w K mg base CX0 7 fa fd ["_law_script"] (spLaw K) := by
  have e := hfa.symm.trans (PySem.W.mg_of X G a12)
  cases e
  have F0 := fun_mk (st := s_is_number) l0 c0 k0
  have b0 := F0.binds (ps := ["value", "low", "high"]) fun _ _ _ _ _ _ us hl => match us, hl with | [_, _, _], _ => rfl
  have F1 := fun_mk (st := s_need_number) l1 c1 k1
  have b1 := F1.binds (ps := ["number", "low", "high"]) fun _ _ _ _ _ _ us hl => match us, hl with | [_, _, _], _ => rfl
  have F2 := fun_mk (st := s_bits_of) l2 c2 k2
  have b2 := F2.binds (ps := ["number", "many"]) fun _ _ _ _ _ _ us hl => match us, hl with | [_, _], _ => rfl
  have F3 := fun_mk (st := s_number_of) l3 c3 k3
  have b3 := F3.binds (ps := ["row"]) fun _ _ _ _ _ _ us hl => match us, hl with | [_], _ => rfl
  have F4 := fun_mk (st := s_turned_about) l4 c4 k4
  have b4 := F4.binds (ps := ["number", "many"]) fun _ _ _ _ _ _ us hl => match us, hl with | [_, _], _ => rfl
  have F5 := fun_mk (st := s__law_bag) l5 c5 k5
  have b5 := F5.binds (ps := ["_law_script"]) fun _ _ _ _ _ _ us hl => match us, hl with | [_], _ => rfl
  have F6 := fun_mk (st := s__law_pull) l6 c6 k6
  have b6 := F6.binds (ps := ["_law_bag_here", "_law_upto"]) fun _ _ _ _ _ _ us hl => match us, hl with | [_, _], _ => rfl
  have F7 := fun_mk (st := s__law_whole) l7 c7 k7
  have b7 := F7.binds (ps := ["_law_found"]) fun _ _ _ _ _ _ us hl => match us, hl with | [_], _ => rfl
  have F8 := fun_mk (st := s__law_same) l8 c8 k8
  have b8 := F8.binds (ps := ["_law_found", "_law_due"]) fun _ _ _ _ _ _ us hl => match us, hl with | [_, _], _ => rfl
  have F9 := fun_mk (st := s__law_bits) l9 c9 k9
  have b9 := F9.binds (ps := ["_law_number", "_law_many"]) fun _ _ _ _ _ _ us hl => match us, hl with | [_, _], _ => rfl
  have F10 := fun_mk (st := s__law_high) l10 c10 k10
  have b10 := F10.binds (ps := ["_law_row"]) fun _ _ _ _ _ _ us hl => match us, hl with | [_], _ => rfl
  have F11 := fun_mk (st := s__law_said) l11 c11 k11
  have b11 := F11.binds (ps := ["_law_which", "_law_number", "_law_many"]) fun _ _ _ _ _ _ us hl => match us, hl with | [_, _, _], _ => rfl
  have F12 := fun_mk (st := s_law) l12 c12 k12
  have b12 := F12.binds (ps := ["_law_script"]) fun _ _ _ _ _ _ us hl => match us, hl with | [_], _ => rfl
  let a : Ad := { f_is_number := f0, d_is_number := (PySem.W.fnOf "is_number" "is_number" (defArgs s_is_number) (defBody s_is_number) (defScope s_is_number) .none kV0 dc0 pm0 an0 cd0 ct0), f_need_number := f1, d_need_number := (PySem.W.fnOf "need_number" "need_number" (defArgs s_need_number) (defBody s_need_number) (defScope s_need_number) .none kV1 dc1 pm1 an1 cd1 ct1), f_bits_of := f2, d_bits_of := (PySem.W.fnOf "bits_of" "bits_of" (defArgs s_bits_of) (defBody s_bits_of) (defScope s_bits_of) .none kV2 dc2 pm2 an2 cd2 ct2), f_number_of := f3, d_number_of := (PySem.W.fnOf "number_of" "number_of" (defArgs s_number_of) (defBody s_number_of) (defScope s_number_of) .none kV3 dc3 pm3 an3 cd3 ct3), f_turned_about := f4, d_turned_about := (PySem.W.fnOf "turned_about" "turned_about" (defArgs s_turned_about) (defBody s_turned_about) (defScope s_turned_about) .none kV4 dc4 pm4 an4 cd4 ct4), f__law_bag := f5, d__law_bag := (PySem.W.fnOf "_law_bag" "_law_bag" (defArgs s__law_bag) (defBody s__law_bag) (defScope s__law_bag) .none kV5 dc5 pm5 an5 cd5 ct5), f__law_pull := f6, d__law_pull := (PySem.W.fnOf "_law_pull" "_law_pull" (defArgs s__law_pull) (defBody s__law_pull) (defScope s__law_pull) .none kV6 dc6 pm6 an6 cd6 ct6), f__law_whole := f7, d__law_whole := (PySem.W.fnOf "_law_whole" "_law_whole" (defArgs s__law_whole) (defBody s__law_whole) (defScope s__law_whole) .none kV7 dc7 pm7 an7 cd7 ct7), f__law_same := f8, d__law_same := (PySem.W.fnOf "_law_same" "_law_same" (defArgs s__law_same) (defBody s__law_same) (defScope s__law_same) .none kV8 dc8 pm8 an8 cd8 ct8), f__law_bits := f9, d__law_bits := (PySem.W.fnOf "_law_bits" "_law_bits" (defArgs s__law_bits) (defBody s__law_bits) (defScope s__law_bits) .none kV9 dc9 pm9 an9 cd9 ct9), f__law_high := f10, d__law_high := (PySem.W.fnOf "_law_high" "_law_high" (defArgs s__law_high) (defBody s__law_high) (defScope s__law_high) .none kV10 dc10 pm10 an10 cd10 ct10), f__law_said := f11, d__law_said := (PySem.W.fnOf "_law_said" "_law_said" (defArgs s__law_said) (defBody s__law_said) (defScope s__law_said) .none kV11 dc11 pm11 an11 cd11 ct11), f_law := fa, d_law := (PySem.W.fnOf "law" "law" (defArgs s_law) (defBody s_law) (defScope s_law) .none kV12 dc12 pm12 an12 cd12 ct12), c_BusError := C_BusError, c_BadNumber := C_BadNumber }
  have T : Txt K mg a := { F_is_number := F0, g_is_number := PySem.W.mg_of X G a0, b_is_number := b0, F_need_number := F1, g_need_number := PySem.W.mg_of X G a1, b_need_number := b1, F_bits_of := F2, g_bits_of := PySem.W.mg_of X G a2, b_bits_of := b2, F_number_of := F3, g_number_of := PySem.W.mg_of X G a3, b_number_of := b3, F_turned_about := F4, g_turned_about := PySem.W.mg_of X G a4, b_turned_about := b4, F__law_bag := F5, g__law_bag := PySem.W.mg_of X G a5, b__law_bag := b5, F__law_pull := F6, g__law_pull := PySem.W.mg_of X G a6, b__law_pull := b6, F__law_whole := F7, g__law_whole := PySem.W.mg_of X G a7, b__law_whole := b7, F__law_same := F8, g__law_same := PySem.W.mg_of X G a8, b__law_same := b8, F__law_bits := F9, g__law_bits := PySem.W.mg_of X G a9, b__law_bits := b9, F__law_high := F10, g__law_high := PySem.W.mg_of X G a10, b__law_high := b10, F__law_said := F11, g__law_said := PySem.W.mg_of X G a11, b__law_said := b11, F_law := F12, g_law := PySem.W.mg_of X G a12, b_law := b12, gC_BusError := PySem.W.mg_of X G aC_BusError, gC_BadNumber := PySem.W.mg_of X G aC_BadNumber, xC_BadNumber := xC_BadNumber, kC_BadNumber := kC_BadNumber, bC_BadNumber := bC_BadNumber, tC_BadNumber := tC_BadNumber, m_BadNumber_BusError := PySem.W.exm_ref eb_BusError eh_BusError et_BusError es_BadNumber_BusError, e_BadNumber := ⟨hg_BadNumber, hk_BadNumber, hs_BadNumber, hd_BadNumber, ha_BadNumber, hn_BadNumber, ht_BadNumber, hm_BadNumber⟩, kit_BadNumber_BadNumber := kit_self, kit_BadNumber_ValueError := kit_bi (by decide +kernel) ks_BadNumber_ValueError, n_ValueError := PySem.W.mg_none_of X G z_ValueError, n_all := PySem.W.mg_none_of X G z_all, n_bool := PySem.W.mg_none_of X G z_bool, n_enumerate := PySem.W.mg_none_of X G z_enumerate, n_int := PySem.W.mg_none_of X G z_int, n_isinstance := PySem.W.mg_none_of X G z_isinstance, n_len := PySem.W.mg_none_of X G z_len, n_list := PySem.W.mg_none_of X G z_list, n_range := PySem.W.mg_none_of X G z_range, n_str := PySem.W.mg_none_of X G z_str, n_tuple := PySem.W.mg_none_of X G z_tuple }
  exact ⟨_, fun s v => .of_eq rfl, fun base _ _ => law_ok T⟩
end My
open PySem PySem.W PyProof.Rows
set_option maxRecDepth 100000 in
set_option maxHeartbeats 0 in
theorem PySem.Challenge.cw_plugtree_k01_bits_of_numbers_holds : PySem.Challenge.rw_plugtree_k01_bits_of_numbers.Holds := by
  w_on; o_law; k_head; (case hw => w_witness2)
  k_fill
  refine L2.walk_of (l := PySem.Challenge.rw_plugtree_k01_bits_of_numbers) (n := 63) (k := 7) (x := "_law_script") (CX := fun _ => L2.CX0) (sp := fun w => My.spLaw _) rfl (by decide) rfl ⟨rfl, by decide, by decide⟩ (fun w h Y => PySem.W.kIn_of Y) ?F (fun _ _ a ns hl _ hS => ⟨a, ns, rfl, hS, hl, fun _ => rfl⟩) (fun _ _ _ _ _ h => h)
  case F =>
    intro w mg fa h KX G hmg
    refine' My.all_mk KX G hmg ?a0 ?l0 ?c0 ?k0 ?a1 ?l1 ?c1 ?k1 ?a2 ?l2 ?c2 ?k2 ?a3 ?l3 ?c3 ?k3 ?a4 ?l4 ?c4 ?k4 ?a5 ?l5 ?c5 ?k5 ?a6 ?l6 ?c6 ?k6 ?a7 ?l7 ?c7 ?k7 ?a8 ?l8 ?c8 ?k8 ?a9 ?l9 ?c9 ?k9 ?a10 ?l10 ?c10 ?k10 ?a11 ?l11 ?c11 ?k11 ?a12 ?l12 ?c12 ?k12 ?aC_BusError ?aC_BadNumber ?xC_BadNumber ?kC_BadNumber ?bC_BadNumber ?tC_BadNumber ?eb_BusError ?eh_BusError ?et_BusError ?es_BadNumber_BusError ?hg_BadNumber ?hk_BadNumber ?hs_BadNumber ?hd_BadNumber ?ha_BadNumber ?hn_BadNumber ?ht_BadNumber ?hm_BadNumber ?ks_BadNumber_ValueError ?z_ValueError ?z_all ?z_bool ?z_enumerate ?z_int ?z_isinstance ?z_len ?z_list ?z_range ?z_str ?z_tuple
    (case a0 => k_is)
    (case l0 => k_is)
    (case c0 => k_is)
    (case k0 => k_is)
    (case a1 => k_is)
    (case l1 => k_is)
    (case c1 => k_is)
    (case k1 => k_is)
    (case a2 => k_is)
    (case l2 => k_is)
    (case c2 => k_is)
    (case k2 => k_is)
    (case a3 => k_is)
    (case l3 => k_is)
    (case c3 => k_is)
    (case k3 => k_is)
    (case a4 => k_is)
    (case l4 => k_is)
    (case c4 => k_is)
    (case k4 => k_is)
    (case a5 => k_is)
    (case l5 => k_is)
    (case c5 => k_is)
    (case k5 => k_is)
    (case a6 => k_is)
    (case l6 => k_is)
    (case c6 => k_is)
    (case k6 => k_is)
    (case a7 => k_is)
    (case l7 => k_is)
    (case c7 => k_is)
    (case k7 => k_is)
    (case a8 => k_is)
    (case l8 => k_is)
    (case c8 => k_is)
    (case k8 => k_is)
    (case a9 => k_is)
    (case l9 => k_is)
    (case c9 => k_is)
    (case k9 => k_is)
    (case a10 => k_is)
    (case l10 => k_is)
    (case c10 => k_is)
    (case k10 => k_is)
    (case a11 => k_is)
    (case l11 => k_is)
    (case c11 => k_is)
    (case k11 => k_is)
    (case a12 => k_is)
    (case l12 => k_is)
    (case c12 => k_is)
    (case k12 => k_is)
    (case aC_BusError => k_is)
    (case aC_BadNumber => k_is)
    (case xC_BadNumber => k_exc)
    (case kC_BadNumber => k_is)
    (case bC_BadNumber => k_is)
    (case tC_BadNumber => k_is)
    (case eb_BusError => k_is)
    (case eh_BusError => k_is)
    (case et_BusError => k_is)
    (case es_BadNumber_BusError => k_is)
    (case hg_BadNumber => k_is)
    (case hk_BadNumber => k_is)
    (case hs_BadNumber => k_is)
    (case hd_BadNumber => k_is)
    (case ha_BadNumber => k_is)
    (case hn_BadNumber => k_is)
    (case ht_BadNumber => k_is)
    (case hm_BadNumber => k_is)
    (case ks_BadNumber_ValueError => k_is)
    (case z_ValueError => k_is)
    (case z_all => k_is)
    (case z_bool => k_is)
    (case z_enumerate => k_is)
    (case z_int => k_is)
    (case z_isinstance => k_is)
    (case z_len => k_is)
    (case z_list => k_is)
    (case z_range => k_is)
    (case z_str => k_is)
    (case z_tuple => k_is)
