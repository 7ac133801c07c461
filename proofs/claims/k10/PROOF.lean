import PyProof.Rows.All
import Wide.All
import OpenK.AllK
import Wide.FinOn
import HandS.ForMost
import HandS.ForExc
import HandS.IsInst
import HandS.ExcIs
import HandS.Style
import HandS.TupAny
import HandS.TupMul
import HandS.Wide
import HandS.More
import HandS.WideBits
import KE.BitLaws
import PySem.Challenge.RW_plugtree_k10_requests_as_bytes
set_option Elab.async false
set_option maxRecDepth 100000
set_option maxHeartbeats 4000000
set_option linter.all false
namespace My
open PySem PySem.Spec PyProof.Rows L2

/-! ### readings by short names -/
abbrev rAddI : R2 := rI0 fun i j => .int (i + j)
abbrev rSubI : R2 := rI0 fun i j => .int (i - j)
abbrev rMulI : R2 := rI CMul fun i j => .int (i * j)
abbrev rModI : R2 := rI (fun _ j => 0 < j) fun i j => .int (i % j)
abbrev rDivW : R2 := rI CDivW fun i j => .int (i / j)
abbrev rPowI : R2 := rI CPow fun i j => .int (i ^ j.toNat)
abbrev rShlI : R2 := rI CPow fun i j => .int (i * 2 ^ j.toNat)
abbrev rShrI : R2 := rI (fun _ j => 0 ≤ j) fun i j => .int (i / 2 ^ j.toNat)
abbrev rAndI : R2 := rI0 fun i j => .int (Builtin.bitAnd i j)
abbrev rOrI : R2 := rI0 fun i j => .int (Builtin.bitOr i j)
abbrev rXorI : R2 := rI0 fun i j => .int (Builtin.bitXor i j)
abbrev rLtI : R2 := rI0 fun i j => .bl (decide (i < j))
abbrev rLeI : R2 := rI0 fun i j => .bl (decide (i ≤ j))
abbrev rGtI : R2 := rI0 fun i j => .bl (decide (j < i))
abbrev rGeI : R2 := rI0 fun i j => .bl (decide (j ≤ i))
abbrev rNegI : V → Hp → VK → Prop := rU fun i => .int (-i)
abbrev rIsN : R2 := fun x y H Q => y = .non ∧ Q (.bl (decide (x = .non))) H
abbrev rNotN : R2 := fun x y H Q => y = .non ∧ Q (.bl (!decide (x = .non))) H
abbrev rAddStr : R2 := fun x y H Q => ∃ i j, x = .str i ∧ y = .str j ∧ i.length + j.length ≤ sizeLine ∧ Q (.str (i ++ j)) H
abbrev rLenQ (K : PySem.W.Frag) : List V → Hp → VK → Prop := fun xs H Q => ∃ p ys, xs = [.ref p] ∧ (SqL K H p ys ∨ SqT K H p ys) ∧ Q (.int ys.length) H
abbrev rListOf (K : PySem.W.Frag) : List V → Hp → VK → Prop := fun xs H Q => ∃ p ys, xs = [.ref p] ∧ (SqL K H p ys ∨ SqT K H p ys) ∧ ∀ l, H l = none → Q (.ref l) (upd H l (.lst ys))
abbrev rTupleOf (K : PySem.W.Frag) : List V → Hp → VK → Prop := fun xs H Q => ∃ p ys, xs = [.ref p] ∧ ((SqL K H p ys ∧ ∀ l, H l = none → Q (.ref l) (upd H l (.tup ys))) ∨ (SqT K H p ys ∧ Q (.ref p) H))
abbrev rStrInt : List V → Hp → VK → Prop := fun xs H Q => ∃ i, xs = [.int i] ∧ i.natAbs.log2 < 1920 ∧ Q (.str (toString i)) H
def tRaiseC (C : Addr) (E : XK) : TS := fun _ _ H => E (.ref C) none H

/-! ### what stays -/
abbrev Ex (H H' : Hp) : Prop := Same H H'
theorem Ex.new {H : Hp} {p : Addr} {o : HO} (h : H p = none) : Ex H (upd H p o) := fun a u e => by
  rw [upd_ne (ne_of_none e h)]
  exact e
theorem Ex.mut {H H' : Hp} {p : Addr} {o : HO} (e : Ex H H') (h : H p = none) : Ex H (upd H' p o) := fun a u ha => by
  rw [upd_ne (ne_of_none ha h)]
  exact e a u ha
theorem Ex.sqL {K : PySem.W.Frag} {H H' : Hp} {a : Addr} {xs : List V} (e : Ex H H') (h : SqL K H a xs) : SqL K H' a xs := by
  rcases h with (h | ⟨o, h⟩) | h
  · exact .inl (.inl (e _ _ h))
  · exact .inl (.inr ⟨o, e _ _ h⟩)
  · exact .inr h
theorem Ex.sqT {K : PySem.W.Frag} {H H' : Hp} {a : Addr} {xs : List V} (e : Ex H H') (h : SqT K H a xs) : SqT K H' a xs := by
  rcases h with (h | ⟨o, h⟩) | h
  · exact .inl (.inl (e _ _ h))
  · exact .inl (.inr ⟨o, e _ _ h⟩)
  · exact .inr h
mutual
theorem Ex.dp {K : PySem.W.Frag} {H H' : Hp} (e : Ex H H') : ∀ (d : PyData) (v : V), Dp K H v d → Dp K H' v d
  | .none, _, h => by cases h; exact .non
  | .bool b, _, h => by cases h; exact .bl b
  | .int i, _, h => by cases h; exact .int i
  | .str x, _, h => by cases h; exact .str x
  | .list ds, _, h => by
    cases h with
    | lst hs ha => exact .lst (e.sqL hs) (Ex.dpAll e ds _ ha)
  | .tuple ds, _, h => by
    cases h with
    | tup hs ha => exact .tup (e.sqT hs) (Ex.dpAll e ds _ ha)
  | .dict _, _, h => by cases h
theorem Ex.dpAll {K : PySem.W.Frag} {H H' : Hp} (e : Ex H H') : ∀ (ds : List PyData) (vs : List V), DpAll K H vs ds → DpAll K H' vs ds
  | [], _, h => by cases h; exact .nil
  | d :: ds, _, h => by
    cases h with
    | cons h1 h2 => exact .cons (Ex.dp e d _ h1) (Ex.dpAll e ds _ h2)
end
theorem DpAll.len {K : PySem.W.Frag} {H : Hp} : ∀ {ds : List PyData} {vs : List V}, DpAll K H vs ds → vs.length = ds.length
  | [], _, h => by cases h; rfl
  | d :: ds, _, h => by
    cases h with
    | cons h1 h2 => rw [List.length_cons, List.length_cons, DpAll.len h2]
theorem DpAll.get {K : PySem.W.Frag} {H : Hp} : ∀ {ds : List PyData} {vs : List V} {i : Nat} {d : PyData}, DpAll K H vs ds → ds[i]? = some d → ∃ v, vs[i]? = some v ∧ Dp K H v d
  | [], _, i, d, h, e => by simp at e
  | x :: ds, _, 0, d, h, e => by
    cases h with
    | cons h1 h2 =>
      simp at e
      subst e
      exact ⟨_, rfl, h1⟩
  | x :: ds, _, i + 1, d, h, e => by
    cases h with
    | cons h1 h2 =>
      obtain ⟨v, e1, e2⟩ := DpAll.get (i := i) (d := d) h2 (by simpa using e)
      exact ⟨v, by simpa using e1, e2⟩
theorem DpAll.ints {K : PySem.W.Frag} {H : Hp} : ∀ ns : List Int, DpAll K H (ns.map V.int) (ns.map PyData.int)
  | [] => .nil
  | n :: ns => .cons (.int n) (DpAll.ints ns)
theorem Dp.ints {K : PySem.W.Frag} {H : Hp} {p : Addr} {ns : List Int} (h : SqL K H p (ns.map V.int)) : Dp K H (.ref p) (.list (ns.map PyData.int)) := .lst h (DpAll.ints ns)
theorem Dp.intsT {K : PySem.W.Frag} {H : Hp} {p : Addr} {ns : List Int} (h : SqT K H p (ns.map V.int)) : Dp K H (.ref p) (.tuple (ns.map PyData.int)) := .tup h (DpAll.ints ns)

/-! ### isinstance of data -/
def tyName : PyData → String
  | .none => "NoneType" | .bool _ => "bool" | .int _ => "int" | .str _ => "str" | .list _ => "list" | .tuple _ => "tuple" | .dict _ => "dict"
theorem Dp.ty {K : PySem.W.Frag} {H : Hp} {d : PyData} {v : V} (h : Dp K H v d) : TyX K H v (.type (tyName d)) := by
  cases h with
  | non => exact .base .non
  | bl b => exact .base (.bl b)
  | int i => exact .base (.int i)
  | str x => exact .base (.str x)
  | lst hs _ =>
    rcases hs with (e | ⟨o, e⟩) | ⟨o, its, n, e, c, _⟩
    · exact .base (.lst e)
    · exact .base (.frz e)
    · exact .kList e c
  | tup hs _ =>
    rcases hs with (e | ⟨o, e⟩) | ⟨o, its, n, e, c, _⟩
    · exact .base (.tup e)
    · exact .fTuple e
    · exact .kTuple e c
def isTypN (n T : String) : Bool := n == T || (n == "bool" && T == "int")
def isTyp (d : PyData) (T : String) : Bool := isTypN (tyName d) T
theorem kitNames : ∀ n ∈ ["NoneType", "int", "bool", "str", "list", "tuple"], ∀ T ∈ ["int", "bool", "str", "list", "tuple"], kitB n T = some (isTypN n T) := by decide +kernel
/-- isinstance(x, T), T one of the five -/
theorem isi {K : PySem.W.Frag} {H : Hp} {d : PyData} {v : V} {T : String} {Q : VK} (h : Dp K H v d) (hT : T ∈ ["int", "bool", "str", "list", "tuple"]) (q : Q (.bl (isTyp d T)) H) :
    rIsi K [v, .ty T] H Q := by
  refine ⟨v, .ty T, _, _, isTyp d T, rfl, .ty T, Dp.ty h, kit_ty (kitNames _ ?_ _ hT), q⟩
  cases h <;> simp [tyName]

/-! ### going on -/
theorem iteB {c : Bool} {A B : Prop} (h1 : c = true → A) (h2 : c = false → B) : if c = true then A else B := by
  cases c with
  | true => rw [if_pos rfl]; exact h1 rfl
  | false => rw [if_neg Bool.false_ne_true]; exact h2 rfl
theorem iteP {p : Prop} [Decidable p] {A B : Prop} (h1 : p → A) (h2 : ¬ p → B) : if decide p = true then A else B :=
  iteB (fun h => h1 (of_decide_eq_true h)) (fun h => h2 (of_decide_eq_false h))
theorem iteNP {p : Prop} [Decidable p] {A B : Prop} (h1 : ¬ p → A) (h2 : p → B) : if (!decide p) = true then A else B := by
  by_cases h : p
  · rw [decide_eq_true h]
    exact iteF (h2 h)
  · rw [decide_eq_false h]
    exact iteT (h1 h)
theorem cmulR {i j : Int} (h : -(2 ^ 64) < j ∧ j < 2 ^ 64) : CMul i j := .inr h
theorem cmulL {i j : Int} (h : -(2 ^ 64) < i ∧ i < 2 ^ 64) : CMul i j := .inl h
theorem cdivS {i j : Int} (h : 0 < j) (h2 : j < 2 ^ 1000) : CDivW i j := wide_div (b := 1000) h (by omega) (by decide) (by decide)
/-! ### loops -/
theorem forL {K : PySem.W.Frag} {tl : TE} {g : TG} {tb : TS} {D : Ends} {σ : L2.St} {H : Hp} {a : Addr} {xs : List V} (i : Nat) (Pv : Nat → L2.St → Hp → Prop) (ht : ∀ R : VK, R (.ref a) H → tl σ H R) (hS : SqL K H a xs) (h0 : Pv 0 σ H)
    (hl : ∀ j σ H, Pv j σ H → SqL K H a xs) (hs : ∀ j x σ H, xs[j]? = some x → Pv j σ H → tb { D with nx := Pv (j + 1), ct := Pv (j + 1), bk := D.nx } (σ.set i (some x)) H) (hd : ∀ σ H, Pv xs.length σ H → D.nx σ H)
    (hg : g = gName i := by rfl) : tFor (iList K tl) g tb D σ H := by
  subst hg
  exact ht _ ⟨a, rfl, ⟨xs, hS⟩, for_list (xs := xs) Pv h0 (fun j σ H _ p => hl j σ H p) (fun j x σ H e p => hs j x σ H e p) hd⟩
theorem forT {K : PySem.W.Frag} {tl : TE} {g : TG} {tb : TS} {D : Ends} {σ : L2.St} {H : Hp} {a : Addr} {xs : List V} (i : Nat) (Pv : Nat → L2.St → Hp → Prop) (ht : ∀ R : VK, R (.ref a) H → tl σ H R) (hS : SqT K H a xs) (h0 : Pv 0 σ H)
    (hl : ∀ j σ H, Pv j σ H → SqT K H a xs) (hs : ∀ j x σ H, xs[j]? = some x → Pv j σ H → tb { D with nx := Pv (j + 1), ct := Pv (j + 1), bk := D.nx } (σ.set i (some x)) H) (hd : ∀ σ H, Pv xs.length σ H → D.nx σ H)
    (hg : g = gName i := by rfl) : tFor (iTup K tl) g tb D σ H := by
  subst hg
  exact ht _ ⟨a, rfl, ⟨xs, hS⟩, for_tup (xs := xs) Pv h0 (fun j σ H _ p => hl j σ H p) (fun j x σ H e p => hs j x σ H e p) hd⟩
theorem forR {ta : TA} {g : TG} {tb : TS} {D : Ends} {σ : L2.St} {H : Hp} {n : Int} (i : Nat) (Pv : Nat → L2.St → Hp → Prop) (ht : ∀ R : List V → Hp → Prop, R [.int n] H → ta σ H R) (hn : n ≤ 2 ^ 60) (hn0 : -(2 ^ 60) ≤ n) (h0 : Pv 0 σ H)
    (hs : ∀ (j : Nat) σ H, (j : Int) < n → Pv j σ H → tb { D with nx := Pv (j + 1), ct := Pv (j + 1), bk := D.nx } (σ.set i (some (.int (j : Nat)))) H) (hd : ∀ σ H, Pv n.toNat σ H → D.nx σ H)
    (hg : g = gName i := by rfl) : tFor (iRng1 ta) g tb D σ H := by
  subst hg
  refine ht _ ⟨n, rfl, by omega, by omega, for_range (lo := 0) (n := n.toNat) Pv h0 (fun j σ H hj p => ?_) hd⟩
  have e : (0 : Int) + (j : Nat) = (j : Nat) := Int.zero_add _
  rw [e]
  exact hs j σ H (by omega) p
theorem forE {K : PySem.W.Frag} {ta : TA} {g : TG} {tb : TS} {D : Ends} {σ : L2.St} {H : Hp} {a : Addr} {xs : List V} (i1 i2 : Nat) (Pv : Nat → L2.St → Hp → Prop) (ht : ∀ R : List V → Hp → Prop, R [.ref a] H → ta σ H R) (hS : SqL K H a xs) (h0 : Pv 0 σ H)
    (hl : ∀ j σ H, Pv j σ H → SqL K H a xs) (hx : ∀ j σ H T o, Pv j σ H → H T = none → Pv j σ (upd H T o))
    (hs : ∀ j x σ H, xs[j]? = some x → Pv j σ H → tb { D with nx := Pv (j + 1), ct := Pv (j + 1), bk := D.nx } ((σ.set i1 (some (.int (j : Nat)))).set i2 (some x)) H) (hd : ∀ σ H, Pv xs.length σ H → D.nx σ H)
    (hg : g = gTup K 2 (gCons (gName i1) (gCons (gName i2) gNil)) := by rfl) : tFor (iEnum K ta) g tb D σ H := by
  subst hg
  refine ht _ ⟨a, xs, rfl, hS, fun i m σ H => m = xs.length - i ∧ i ≤ xs.length ∧ Pv i σ H, ⟨xs.length, by simp, Nat.zero_le _, h0⟩, ?_⟩
  rintro i m σ H ⟨rfl, hi, p⟩
  have q := hl i σ H p
  by_cases hlt : i < xs.length
  · refine .inr ⟨⟨xs, xs[i], q, by simp [hlt]⟩, Pv (i + 1), fun σ' H' p' => ⟨xs.length - (i + 1), by omega, rfl, hlt, p'⟩, fun x H' y => ?_⟩
    obtain ⟨T, x', rfl, hT, rfl, hq⟩ := y
    exact ⟨T, _, rfl, SqT.of upd_same, rfl, _, _, rfl, _, _, rfl, rfl, hs i x' σ _ (hq xs q) (hx i σ H T _ p hT)⟩
  · have e : i = xs.length := by omega
    subst e
    exact .inl ⟨⟨xs, q, Nat.le_refl _⟩, hd σ H p⟩
/-- what a comprehension makes: item by item -/
def Made (n : Nat) (P : Nat → V → Hp → Prop) (ys : List V) (H : Hp) : Prop := ys.length = n ∧ ∀ j, j < n → ∃ v, ys[j]? = some v ∧ P j v H
theorem Made.more {n : Nat} {P : Nat → V → Hp → Prop} {ys : List V} {H H' : Hp} {v : V} (h : Made n P ys H) (hP : ∀ j v, P j v H → P j v H') (hv : P n v H') : Made (n + 1) P (ys ++ [v]) H' := by
  obtain ⟨h1, h2⟩ := h
  refine ⟨by rw [List.length_append, h1]; rfl, fun j hj => ?_⟩
  by_cases e : j < n
  · obtain ⟨u, e1, e2⟩ := h2 j e
    exact ⟨u, by rw [List.getElem?_append_left (by omega)]; exact e1, hP _ _ e2⟩
  · have e' : j = n := by omega
    subst e'
    exact ⟨v, by rw [List.getElem?_append_right (by omega), h1, Nat.sub_self]; rfl, hv⟩
theorem Made.ints {n : Nat} {f : Nat → Int} {ys : List V} {H : Hp} (h : Made n (fun j v _ => v = .int (f j)) ys H) : ys = ((List.range n).map f).map V.int := by
  obtain ⟨h1, h2⟩ := h
  apply List.ext_getElem?
  intro j
  by_cases hj : j < n
  · obtain ⟨v, e1, e2⟩ := h2 j hj
    rw [e1, e2, List.map_map, List.getElem?_map, List.getElem?_range hj]
    rfl
  · rw [List.getElem?_eq_none (by omega), List.getElem?_eq_none (by simp; omega)]
theorem Made.bls {n : Nat} {f : Nat → Bool} {ys : List V} {H : Hp} (h : Made n (fun j v _ => v = .bl (f j)) ys H) : ys = ((List.range n).map f).map V.bl := by
  obtain ⟨h1, h2⟩ := h
  apply List.ext_getElem?
  intro j
  by_cases hj : j < n
  · obtain ⟨v, e1, e2⟩ := h2 j hj
    rw [e1, e2, List.map_map, List.getElem?_map, List.getElem?_range hj]
    rfl
  · rw [List.getElem?_eq_none (by omega), List.getElem?_eq_none (by simp; omega)]
theorem Made.all {K : PySem.W.Frag} {H : Hp} : ∀ {n : Nat} {ds : List PyData} {ys : List V}, Made n (fun j v H => ∃ d, ds[j]? = some d ∧ Dp K H v d) ys H → ds.length = n → DpAll K H ys ds
  | _, [], ys, h, e => by
    obtain ⟨h1, _⟩ := h
    have : ys = [] := List.length_eq_zero_iff.mp (by rw [h1, ← e]; rfl)
    subst this
    exact .nil
  | n, d :: ds, ys, h, e => by
    obtain ⟨h1, h2⟩ := h
    subst e
    cases ys with
    | nil => simp at h1
    | cons y ys =>
      obtain ⟨v, e1, d', e2, e3⟩ := h2 0 (by simp)
      simp at e1 e2
      subst e1 e2
      refine .cons e3 (Made.all (n := ds.length) ⟨by simpa using h1, fun j hj => ?_⟩ rfl)
      obtain ⟨v, e1, e2⟩ := h2 (j + 1) (by simp; omega)
      exact ⟨v, by simpa using e1, by simpa using e2⟩
/-! ### a heap without some objects -/
def wo (B : List Addr) (H : Hp) : Hp := fun b => if b ∈ B then none else H b
theorem wo_get {B : List Addr} {H : Hp} {b : Addr} (h : b ∉ B) : wo B H b = H b := if_neg h
theorem wo_nil {H : Hp} : wo [] H = H := funext fun _ => if_neg (List.not_mem_nil)
theorem wo_ex {B : List Addr} {H : Hp} : Ex (wo B H) H := fun b o h => by
  unfold wo at h
  split at h
  · cases h
  · exact h
theorem Ex.wo {B : List Addr} {H H' : Hp} (e : Ex H H') : Ex (wo B H) (wo B H') := fun b o h => by
  unfold My.wo at h ⊢
  split at h
  · cases h
  · rename_i z
    rw [if_neg z]
    exact e b o h
theorem Ex.woN {B : List Addr} {H H' : Hp} (e : Ex H H') (h : ∀ b, b ∈ B → H b = none) : Ex H (My.wo B H') := fun b o hb => by
  rw [wo_get (fun z => by rw [h b z] at hb; cases hb)]
  exact e b o hb
theorem wo_upd {B : List Addr} {H : Hp} {p : Addr} {o : HO} (h : p ∈ B) : wo B (upd H p o) = wo B H := funext fun b => by
  unfold wo
  split
  · rfl
  · rename_i z
    exact upd_ne fun e => z (e ▸ h)
theorem wo_wo {B C : List Addr} {H : Hp} : wo B (wo C H) = wo (C ++ B) H := funext fun b => by
  unfold wo
  by_cases h1 : b ∈ B <;> by_cases h2 : b ∈ C <;> simp [h1, h2]
theorem wo_mono {B C : List Addr} {H : Hp} (h : ∀ b, b ∈ C → b ∈ B) : Ex (wo B H) (wo C H) := fun b o hb => by
  unfold wo at hb ⊢
  split at hb
  · cases hb
  · rename_i z
    rw [if_neg fun q => z (h b q)]
    exact hb
theorem there_not {B : List Addr} {H : Hp} (h : ∀ b, b ∈ B → H b ≠ none) {p : Addr} (hp : H p = none) : p ∉ B := fun z => h p z hp
theorem Ex.there {H H' : Hp} (e : Ex H H') {b : Addr} (h : H b ≠ none) : H' b ≠ none := by
  cases q : H b with
  | none => exact absurd q h
  | some o =>
    rw [e b o q]
    exact fun z => by cases z
/-- [e for i in range(n)]: the new list at D; what an item is told of is not D -/
theorem lcR {ta : TA} {g : TG} {tt : TT} {te : TE} {vs : List Nat} {σ : L2.St} {H : Hp} {Q : VK} {n : Int} (i : Nat) (P : Nat → V → Hp → Prop) (ht : ∀ R : List V → Hp → Prop, R [.int n] H → ta σ H R) (hn0 : 0 ≤ n) (hn : n ≤ 100000)
    (hP : ∀ j v H H', Ex H H' → P j v H → P j v H')
    (hw : ∀ x, wipe ((wipe σ vs).set i (some x)) vs = wipe σ vs)
    (he : ∀ (j : Nat) D H1 (Q1 : VK), (j : Int) < n → H D = none → H1 D ≠ none → Ex H (wo [D] H1) → (∀ v H2, Ex H1 H2 → P j v (wo [D] H2) → Q1 v H2) → te ((wipe σ vs).set i (some (.int (j : Nat)))) H1 Q1)
    (k : ∀ D H' ys, H D = none → Ex H (wo [D] H') → H' D = some (.lst ys) → Made n.toNat P ys (wo [D] H') → Q (.ref D) H')
    (hg : g = gName i := by rfl) (htt : tt = tYes := by rfl) : tLc (iRng1 ta) g tt te vs σ H Q := by
  subst hg htt
  refine ht _ ⟨n, rfl, by omega, by omega, fun D hD => ?_⟩
  refine lc_range (lo := 0) (n := n.toNat) (fun j H' => Ex H (wo [D] H') ∧ ∃ ys, H' D = some (.lst ys) ∧ Made j P ys (wo [D] H')) ⟨?_, [], upd_same, rfl, fun j hj => absurd hj (Nat.not_lt_zero j)⟩ (fun j H' hj p => ?_) (fun H' p => ?_)
  · exact (Ex.new hD).woN fun b hb => by rw [List.mem_singleton.mp hb]; exact hD
  · obtain ⟨e, ys, hy, hm⟩ := p
    have e0 : (0 : Int) + (j : Nat) = (j : Nat) := Int.zero_add _
    rw [e0]
    refine ⟨hw _, ?_⟩
    simp only [tYes, if_true]
    refine he j D H' _ (by omega) hD (by rw [hy]; exact fun z => by cases z) e (fun v H2 e2 hv => ⟨ys, e2 _ _ hy, ?_, ?_, ys ++ [v], upd_same, ?_⟩)
    · rw [hm.1]
      exact Nat.lt_of_lt_of_le (show j < 100000 by omega) (by decide)
    · rw [wo_upd (List.mem_singleton.mpr rfl)]
      exact e.trans e2.wo
    · rw [wo_upd (List.mem_singleton.mpr rfl)]
      exact hm.more (fun j u hu => hP _ _ _ _ e2.wo hu) hv
  · obtain ⟨e, ys, hy, hm⟩ := p
    exact k D H' ys hD e hy hm
/-- [e for x in t], t a tuple -/
theorem lcT {K : PySem.W.Frag} {tl : TE} {g : TG} {tt : TT} {te : TE} {vs : List Nat} {σ : L2.St} {H : Hp} {Q : VK} {a : Addr} {xs : List V} (i : Nat) (P : Nat → V → Hp → Prop) (ht : ∀ R : VK, R (.ref a) H → tl σ H R) (hS : SqT K H a xs) (hn : xs.length ≤ 100000)
    (hP : ∀ j v H H', Ex H H' → P j v H → P j v H')
    (hw : ∀ x, wipe ((wipe σ vs).set i (some x)) vs = wipe σ vs)
    (he : ∀ (j : Nat) x D H1 (Q1 : VK), xs[j]? = some x → H D = none → H1 D ≠ none → Ex H (wo [D] H1) → (∀ v H2, Ex H1 H2 → P j v (wo [D] H2) → Q1 v H2) → te ((wipe σ vs).set i (some x)) H1 Q1)
    (k : ∀ D H' ys, H D = none → Ex H (wo [D] H') → H' D = some (.lst ys) → Made xs.length P ys (wo [D] H') → Q (.ref D) H')
    (hg : g = gName i := by rfl) (htt : tt = tYes := by rfl) : tLc (iTup K tl) g tt te vs σ H Q := by
  subst hg htt
  refine ht _ ⟨a, rfl, ⟨xs, hS⟩, fun D hD => ?_⟩
  refine lc_tup (xs := xs) (fun j H' => j ≤ xs.length ∧ Ex H (wo [D] H') ∧ ∃ ys, H' D = some (.lst ys) ∧ Made j P ys (wo [D] H')) ⟨Nat.zero_le _, ?_, [], upd_same, rfl, fun j hj => absurd hj (Nat.not_lt_zero j)⟩ (fun j H' _ p => ?_) (fun j x H' hx p => ?_) (fun H' p => ?_)
  · exact (Ex.new hD).woN fun b hb => by rw [List.mem_singleton.mp hb]; exact hD
  · exact Ex.sqT (Same.trans p.2.1 wo_ex) hS
  · obtain ⟨hj, e, ys, hy, hm⟩ := p
    have hjl : j < xs.length := (List.getElem?_eq_some_iff.mp hx).1
    refine ⟨hw _, ?_⟩
    simp only [tYes, if_true]
    refine he j x D H' _ hx hD (by rw [hy]; exact fun z => by cases z) e (fun v H2 e2 hv => ⟨ys, e2 _ _ hy, ?_, hjl, ?_, ys ++ [v], upd_same, ?_⟩)
    · rw [hm.1]
      exact Nat.lt_of_lt_of_le (show j < 100000 by omega) (by decide)
    · rw [wo_upd (List.mem_singleton.mpr rfl)]
      exact e.trans e2.wo
    · rw [wo_upd (List.mem_singleton.mpr rfl)]
      exact hm.more (fun j u hu => hP _ _ _ _ e2.wo hu) hv
  · obtain ⟨_, e, ys, hy, hm⟩ := p
    exact k D H' ys hD e hy hm
/-- [e for x in l], l a list; what tl makes on the way stands in H0 -/
theorem lcL {K : PySem.W.Frag} {tl : TE} {g : TG} {tt : TT} {te : TE} {vs : List Nat} {σ : L2.St} {H0 H : Hp} {Q : VK} {a : Addr} {xs : List V} (i : Nat) (P : Nat → V → Hp → Prop) (ht : ∀ R : VK, R (.ref a) H → tl σ H0 R) (hS : SqL K H a xs) (hn : xs.length ≤ 100000)
    (hP : ∀ j v H H', Ex H H' → P j v H → P j v H')
    (hw : ∀ x, wipe ((wipe σ vs).set i (some x)) vs = wipe σ vs)
    (he : ∀ (j : Nat) x D H1 (Q1 : VK), xs[j]? = some x → H D = none → H1 D ≠ none → Ex H (wo [D] H1) → (∀ v H2, Ex H1 H2 → P j v (wo [D] H2) → Q1 v H2) → te ((wipe σ vs).set i (some x)) H1 Q1)
    (k : ∀ D H' ys, H D = none → Ex H (wo [D] H') → H' D = some (.lst ys) → Made xs.length P ys (wo [D] H') → Q (.ref D) H')
    (hg : g = gName i := by rfl) (htt : tt = tYes := by rfl) : tLc (iList K tl) g tt te vs σ H0 Q := by
  subst hg htt
  refine ht _ ⟨a, rfl, ⟨xs, hS⟩, fun D hD => ?_⟩
  refine lc_list (xs := xs) (fun j H' => j ≤ xs.length ∧ Ex H (wo [D] H') ∧ ∃ ys, H' D = some (.lst ys) ∧ Made j P ys (wo [D] H')) ⟨Nat.zero_le _, ?_, [], upd_same, rfl, fun j hj => absurd hj (Nat.not_lt_zero j)⟩ (fun j H' _ p => ?_) (fun j x H' hx p => ?_) (fun H' p => ?_)
  · exact (Ex.new hD).woN fun b hb => by rw [List.mem_singleton.mp hb]; exact hD
  · exact Ex.sqL (Same.trans p.2.1 wo_ex) hS
  · obtain ⟨hj, e, ys, hy, hm⟩ := p
    have hjl : j < xs.length := (List.getElem?_eq_some_iff.mp hx).1
    refine ⟨hw _, ?_⟩
    simp only [tYes, if_true]
    refine he j x D H' _ hx hD (by rw [hy]; exact fun z => by cases z) e (fun v H2 e2 hv => ⟨ys, e2 _ _ hy, ?_, hjl, ?_, ys ++ [v], upd_same, ?_⟩)
    · rw [hm.1]
      exact Nat.lt_of_lt_of_le (show j < 100000 by omega) (by decide)
    · rw [wo_upd (List.mem_singleton.mpr rfl)]
      exact e.trans e2.wo
    · rw [wo_upd (List.mem_singleton.mpr rfl)]
      exact hm.more (fun j u hu => hP _ _ _ _ e2.wo hu) hv
  · obtain ⟨_, e, ys, hy, hm⟩ := p
    exact k D H' ys hD e hy hm
/-- [e for x in l], l a new list -/
theorem lcLN {K : PySem.W.Frag} {tl : TE} {g : TG} {tt : TT} {te : TE} {vs : List Nat} {σ : L2.St} {H0 : Hp} {Q : VK} {xs : List V} (i : Nat) (P : Nat → V → Hp → Prop) (ht : ∀ R : VK, (∀ a, H0 a = none → R (.ref a) (upd H0 a (.lst xs))) → tl σ H0 R) (hn : xs.length ≤ 100000)
    (hP : ∀ j v H H', Ex H H' → P j v H → P j v H')
    (hw : ∀ x, wipe ((wipe σ vs).set i (some x)) vs = wipe σ vs)
    (he : ∀ (j : Nat) x D H1 (Q1 : VK), xs[j]? = some x → H0 D = none → H1 D ≠ none → Ex H0 (wo [D] H1) → (∀ v H2, Ex H1 H2 → P j v (wo [D] H2) → Q1 v H2) → te ((wipe σ vs).set i (some x)) H1 Q1)
    (k : ∀ D H' ys, H0 D = none → Ex H0 (wo [D] H') → H' D = some (.lst ys) → Made xs.length P ys (wo [D] H') → Q (.ref D) H')
    (hg : g = gName i := by rfl) (htt : tt = tYes := by rfl) : tLc (iList K tl) g tt te vs σ H0 Q := by
  subst hg htt
  refine ht _ fun a ha => ⟨a, rfl, ⟨xs, SqL.of upd_same⟩, fun D hD => ?_⟩
  have hS : SqL K (upd H0 a (.lst xs)) a xs := SqL.of upd_same
  have eH : Ex H0 (upd H0 a (.lst xs)) := Ex.new ha
  have hD0 : H0 D = none := eH.free hD
  generalize upd H0 a (.lst xs) = H at hS hD eH
  refine lc_list (xs := xs) (fun j H' => j ≤ xs.length ∧ Ex H (wo [D] H') ∧ ∃ ys, H' D = some (.lst ys) ∧ Made j P ys (wo [D] H')) ⟨Nat.zero_le _, ?_, [], upd_same, rfl, fun j hj => absurd hj (Nat.not_lt_zero j)⟩ (fun j H' _ p => ?_) (fun j x H' hx p => ?_) (fun H' p => ?_)
  · exact (Ex.new hD).woN fun b hb => by rw [List.mem_singleton.mp hb]; exact hD
  · exact Ex.sqL (Same.trans p.2.1 wo_ex) hS
  · obtain ⟨hj, e, ys, hy, hm⟩ := p
    have hjl : j < xs.length := (List.getElem?_eq_some_iff.mp hx).1
    refine ⟨hw _, ?_⟩
    simp only [tYes, if_true]
    refine he j x D H' _ hx hD0 (by rw [hy]; exact fun z => by cases z) (eH.trans e) (fun v H2 e2 hv => ⟨ys, e2 _ _ hy, ?_, hjl, ?_, ys ++ [v], upd_same, ?_⟩)
    · rw [hm.1]
      exact Nat.lt_of_lt_of_le (show j < 100000 by omega) (by decide)
    · rw [wo_upd (List.mem_singleton.mpr rfl)]
      exact e.trans e2.wo
    · rw [wo_upd (List.mem_singleton.mpr rfl)]
      exact hm.more (fun j u hu => hP _ _ _ _ e2.wo hu) hv
  · obtain ⟨_, e, ys, hy, hm⟩ := p
    exact k D H' ys hD0 (eH.trans e) hy hm
theorem wo_off {H : Hp} {D : Addr} (h : H D = none) : wo [D] H = H := funext fun b => by
  unfold wo
  split
  · rename_i z
    rw [List.mem_singleton.mp z, h]
  · rfl
theorem wo_comm {B C : List Addr} {H : Hp} : wo B (wo C H) = wo C (wo B H) := funext fun b => by
  unfold wo
  by_cases h1 : b ∈ B <;> by_cases h2 : b ∈ C <;> simp [h1, h2]
/-- [e for i in range(n)], where e may change the objects of B; J is what holds of them -/
theorem lcRB {ta : TA} {g : TG} {tt : TT} {te : TE} {vs : List Nat} {σ : L2.St} {H : Hp} {Q : VK} {n : Int} (i : Nat) (B : List Addr) (J : Hp → Prop) (P : Nat → V → Hp → Prop) (ht : ∀ R : List V → Hp → Prop, R [.int n] H → ta σ H R) (hn0 : 0 ≤ n) (hn : n ≤ 100000)
    (hP : ∀ j v H H', Ex H H' → P j v H → P j v H')
    (hw : ∀ x, wipe ((wipe σ vs).set i (some x)) vs = wipe σ vs) (hJ : J H)
    (he : ∀ (j : Nat) D H1 (Q1 : VK), (j : Int) < n → H D = none → H1 D ≠ none → Ex (wo B H) (wo B (wo [D] H1)) → J (wo [D] H1) →
      (∀ v H2, H2 D = H1 D → Ex (wo B (wo [D] H1)) (wo B (wo [D] H2)) → J (wo [D] H2) → P j v (wo B (wo [D] H2)) → Q1 v H2) → te ((wipe σ vs).set i (some (.int (j : Nat)))) H1 Q1)
    (k : ∀ D H' ys, H D = none → Ex (wo B H) (wo B (wo [D] H')) → J (wo [D] H') → H' D = some (.lst ys) → Made n.toNat P ys (wo B (wo [D] H')) → Q (.ref D) H')
    (hg : g = gName i := by rfl) (htt : tt = tYes := by rfl) : tLc (iRng1 ta) g tt te vs σ H Q := by
  subst hg htt
  refine ht _ ⟨n, rfl, by omega, by omega, fun D hD => ?_⟩
  refine lc_range (lo := 0) (n := n.toNat) (fun j H' => Ex (wo B H) (wo B (wo [D] H')) ∧ J (wo [D] H') ∧ ∃ ys, H' D = some (.lst ys) ∧ Made j P ys (wo B (wo [D] H'))) ⟨?_, ?_, [], upd_same, rfl, fun j hj => absurd hj (Nat.not_lt_zero j)⟩ (fun j H' hj p => ?_) (fun H' p => ?_)
  · rw [wo_upd (List.mem_singleton.mpr rfl), wo_off hD]
    exact Same.refl _
  · rw [wo_upd (List.mem_singleton.mpr rfl), wo_off hD]
    exact hJ
  · obtain ⟨e, hj1, ys, hy, hm⟩ := p
    have e0 : (0 : Int) + (j : Nat) = (j : Nat) := Int.zero_add _
    rw [e0]
    refine ⟨hw _, ?_⟩
    simp only [tYes, if_true]
    refine he j D H' _ (by omega) hD (by rw [hy]; exact fun z => by cases z) e hj1 (fun v H2 hD2 e2 hj2 hv => ⟨ys, hD2.trans hy, ?_, ?_, ?_, ys ++ [v], upd_same, ?_⟩)
    · rw [hm.1]
      exact Nat.lt_of_lt_of_le (show j < 100000 by omega) (by decide)
    · rw [wo_upd (List.mem_singleton.mpr rfl)]
      exact e.trans e2
    · rw [wo_upd (List.mem_singleton.mpr rfl)]
      exact hj2
    · rw [wo_upd (List.mem_singleton.mpr rfl)]
      exact hm.more (fun j u hu => hP _ _ _ _ e2 hu) hv
  · obtain ⟨e, hj1, ys, hy, hm⟩ := p
    exact k D H' ys hD e hj1 hy hm
/-! ### isinstance of the exception that a suite holds -/
def rIsE2 (K : PySem.W.Frag) (D a : Addr) (cls : Value) (d : Option Addr) : List V → Hp → VK → Prop := fun xs H Q => cls = .ref D ∧ d = none ∧ rIsE K D a xs H Q
theorem call_isE2 {X : Cx} {a D : Addr} {oe : Obj} {pn : List (Addr × Obj)} {cls : Value} {d : Option Addr} (C : ExcC X.K D) (hz : Zc cls d oe) (hf : ∃ vs, oe.data = .fields vs) :
    CallR (X.suite a ((a, oe) :: pn)) (.builtin "isinstance") (rIsE2 X.K D a cls d) := by
  intro pins s σ H xs us Q I r h
  obtain ⟨rfl, rfl, h⟩ := h
  exact call_isE C hz hf pins s σ H xs us Q I r h
end My

namespace My
open PySem PySem.Spec PyProof.Rows L2
theorem tuple_mul1 (l : Addr) (items : Array Value) (n : Nat) (dd : Option Addr) (sl : Array (Option Value)) (u : Tok) :
    Meets (Builtin.«tuple.__mul__» ⟨[.ref l, .int 1 u], []⟩) (fun _ R s => s.heap.get? l = some { cls := .type "tuple", dict := dd, data := .seq items n, slots := sl } ∧ R (.ok (.ret (Value.ref l))) s) :=
  .of_wp fun prog w A R s h => by
    obtain ⟨hp, g, d, tk, os⟩ := s
    obtain ⟨hl, h⟩ := h
    have f1 := AutoSeq1.idx_int
    have c1 : (items.isEmpty || (1 : Int) == 1) = true := by simp
    wp_walk using wpAny_loadPart' hl
    repeat (first
      | (refine wpAny_ite_true (by rw [c1]) ?_; wp_walk using wpAny_loadPart' hl)
      | (refine wpAny_ite_true (decide_eq_true (by rw [c1])) ?_; wp_walk using wpAny_loadPart' hl))
    exact ⟨_, rfl, h⟩
theorem tuple_mul0 (l : Addr) (items : Array Value) (n : Nat) (dd : Option Addr) (sl : Array (Option Value)) (u : Tok) (hn : items.isEmpty = false) :
    Meets (Builtin.«tuple.__mul__» ⟨[.ref l, .int 0 u], []⟩) (fun _ R s => s.heap.get? l = some { cls := .type "tuple", dict := dd, data := .seq items n, slots := sl } ∧
      R (.ok (.ret (Value.ref s.heap.objs.size))) { s with heap := s.heap.push { cls := Value.type "tuple", data := Data.seq #[] }, toks := s.toks }) :=
  .of_wp fun prog w A R s h => by
    obtain ⟨hp, g, d, tk, os⟩ := s
    obtain ⟨hl, h⟩ := h
    have f1 := AutoSeq1.idx_int
    have c1 : (items.isEmpty || (0 : Int) == 1) = false := by rw [hn]; rfl
    wp_walk using wpAny_loadPart' hl
    exact ⟨_, rfl, h⟩
/-- t * k, k not below 0: once is t itself -/
def rRepT2 (K : PySem.W.Frag) : R2 := fun x y H Q => ∃ l k xs, x = .ref l ∧ y = .int k ∧ SqT K H l xs ∧ xs ≠ [] ∧ 0 ≤ k ∧ k ≤ 1000 ∧ xs.length ≤ 1000 ∧ (k = 1 → Q (.ref l) H) ∧ (k ≠ 1 → ∀ p, H p = none → Q (.ref p) (upd H p (.tup (List.replicate k.toNat xs).flatten)))
theorem op_repT2 {X : Cx} : OpR X (binaryOp .Mult) (rRepT2 X.K) := by
  intro pins s σ H x y v u Q I rx ry h
  obtain ⟨l, k, xs, rfl, rfl, hT, hne, h1, h2, hz, q1, q2⟩ := h
  by_cases k1 : k = 1
  · subst k1
    cases rx
    obtain ⟨t, rfl⟩ := ry
    obtain ⟨its, r, ⟨⟨cls, dd, data, sl⟩, ho, hc, n, hd⟩, hs⟩ := I.tuple hT
    simp only at hc hd
    subst hc hd
    exact wpAny_binaryOp_repeat_ref (T := "tuple") (U := "int") (by decide) ⟨_, ho, rfl⟩ (fun s' => typeIs_int s' 1 t) noFill_tuple_mul F.fills_int_mul F.slot_int_rmul repeat_tuple F.slot_int_index.lookup
      (call_meets F.slot_int_rmul (typeIs_int s 1 t) F.entry_int_rmul (F.args_int_rmul_2 _ _) (int_rmul_tuple 1 t l its.toArray n dd sl)
        ⟨ho, rfl, ⟨_, ho, rfl⟩, call_meets F.slot_tuple_mul ⟨_, ho, rfl⟩ F.entry_tuple_mul (F.args_tuple_mul_2 _ _) (tuple_mul1 l its.toArray n dd sl t) ⟨ho, ⟨.ref l, H, I, rfl, q1 rfl⟩⟩⟩)
  · by_cases k0 : k = 0
    · subst k0
      cases rx
      obtain ⟨t, rfl⟩ := ry
      obtain ⟨its, r, ⟨⟨cls, dd, data, sl⟩, ho, hc, n, hd⟩, hs⟩ := I.tuple hT
      simp only at hc hd
      subst hc hd
      have hi : its.toArray.isEmpty = false := by
        cases its with
        | nil =>
          cases r
          exact absurd rfl hne
        | cons a b => rfl
      exact wpAny_binaryOp_repeat_ref (T := "tuple") (U := "int") (by decide) ⟨_, ho, rfl⟩ (fun s' => typeIs_int s' 0 t) noFill_tuple_mul F.fills_int_mul F.slot_int_rmul repeat_tuple F.slot_int_index.lookup
        (call_meets F.slot_int_rmul (typeIs_int s 0 t) F.entry_int_rmul (F.args_int_rmul_2 _ _) (int_rmul_tuple 0 t l its.toArray n dd sl)
          ⟨ho, rfl, ⟨_, ho, rfl⟩, call_meets F.slot_tuple_mul ⟨_, ho, rfl⟩ F.entry_tuple_mul (F.args_tuple_mul_2 _ _) (tuple_mul0 l its.toArray n dd sl t hi)
            ⟨ho, ⟨.ref s.heap.objs.size, _, I.laid (t' := s.toks) (o := .tup []) (fun b ob q => Heap.get?_push_of_some _ q) (Nat.le_refl _) ⟨by show 0 ≤ sizeLine; decide, [], .nil, IsTup.new _ _⟩, rfl, q2 k1 _ (I.hok.fresh (Nat.le_refl _))⟩⟩⟩)
    · exact op_repT pins s σ H _ _ v u Q I rx ry ⟨l, k, xs, rfl, rfl, hT, hne, by omega, h2, hz, q2 k1⟩
/-! ### tuples and dicts of the written part -/
def TupObj (o : Obj) (xs : List V) : Prop := o.cls = .type "tuple" ∧ ∃ (its : Array Value) (n : Nat), o.data = .seq its n ∧ its.size ≤ sizeLine ∧ Vals xs its.toList
def KTup (K : PySem.W.Frag) (a : Addr) (xs : List V) : Prop := ∃ o, K.lookup a = some o ∧ TupObj o xs
theorem KTup.sq {K : PySem.W.Frag} {a : Addr} {xs : List V} (h : KTup K a xs) (H : Hp) : SqT K H a xs := by
  obtain ⟨o, h1, h2, its, n, h3, h4, h5⟩ := h
  exact .inr ⟨o, its, n, h1, h2, h3, h4, h5⟩
def KeyOrd : List DictEntry → List Str → Prop
  | [], [] => True
  | e :: r, x :: xs => (∃ t, e.key = .str x t) ∧ KeyOrd r xs
  | _, _ => False
theorem KeyOrd.get : ∀ {es : List DictEntry} {ks : List Str} {i : Nat} {x : Str}, KeyOrd es ks → ks[i]? = some x → ∃ e t, es[i]? = some e ∧ e.key = .str x t
  | [], [], i, x, _, h => by simp at h
  | e :: r, y :: ys, 0, x, h, q => by
    obtain ⟨⟨t, h1⟩, _⟩ := h
    have e1 : y = x := Option.some.inj q
    subst e1
    exact ⟨e, t, rfl, h1⟩
  | e :: r, y :: ys, i + 1, x, h, q => by
    obtain ⟨e', t, h1, h2⟩ := KeyOrd.get (es := r) (ks := ys) (i := i) (x := x) h.2 (by simpa using q)
    exact ⟨e', t, by simpa using h1, h2⟩
  | [], _ :: _, _, _, h, _ => h.elim
  | _ :: _, [], _, _, h, _ => h.elim
theorem KeyOrd.len : ∀ {es : List DictEntry} {ks : List Str}, KeyOrd es ks → es.length = ks.length
  | [], [], _ => rfl
  | e :: r, y :: ys, h => by rw [List.length_cons, List.length_cons, KeyOrd.len h.2]
  | [], _ :: _, h => h.elim
  | _ :: _, [], h => h.elim
structure KDt (K : PySem.W.Frag) (w : World) (d : Addr) (kvs : List (Str × Int)) : Prop where
  all : ∀ p ∈ kvs, KDct K w d p.1 (.int p.2)
  keys : ∃ es n, K.lookup d = some ⟨.type "dict", none, .dict es n, #[]⟩ ∧ (d == sysModules) = false ∧ KeyOrd es.toList (kvs.map (·.1))
/-- the keys of a written dict, in their order -/
def KKeys (K : PySem.W.Frag) (d : Addr) (ks : List Str) : Prop := ∃ es n, K.lookup d = some ⟨.type "dict", none, .dict es n, #[]⟩ ∧ (d == sysModules) = false ∧ KeyOrd es.toList ks
def Itkk (ks : List Str) : It := ⟨fun i _ => i < ks.length, fun i H x H' => H' = H ∧ ∃ k, ks[i]? = some k ∧ x = .str k, fun i _ => ks.length ≤ i⟩
theorem turn_kkeys {P : Program} {w : World} {K : PySem.W.Frag} {tg : Expr} {d : Addr} {ks : List Str} {es : Array DictEntry} {n : Nat} (it : Addr) (hl : K.lookup d = some ⟨.type "dict", none, .dict es n, #[]⟩) (ho : KeyOrd es.toList ks) :
    Turn P w K tg (Itkk ks) [it] it (fun i h => h.IsKeyIter it d i ks.length n) where
  mem := by simp
  obj := fun i h st b hb => by
    have e : b = it := by simpa using hb
    subst e
    obtain ⟨oi, e, c, dd⟩ := st
    exact ⟨oi, e, fun v z => by rw [dd] at z; cases z⟩
  keep := fun i h h' st k => st.at fun oi e => k it (by simp) oi e
  item := by
    intro X hP hw hK hc i pins s σ H E I hf st hg
    subst hP hw hK
    obtain ⟨f0, f1, f2, f3, f4, f5⟩ := hf it (by simp)
    have hgd := I.kIn _ _ hl
    have hks : ks[i]? = some ks[i] := List.getElem?_eq_getElem hg
    obtain ⟨en, t, hen, hkey⟩ := ho.get hks
    have hsz : es.size = ks.length := by
      have := ho.len
      simpa using this
    refine next_key_item st hgd rfl hsz (en := en) (by simpa using hen) fun h' st' sb => ?_
    have I1 : Inv X pins σ H { s with heap := h' } := I.turned (t' := s.toks) (fun b ob hb e => (sb.2 b hb).trans e) f0 f1 f3 f4 f5
    obtain ⟨oi, e, c, dd⟩ := id st'
    exact ⟨en.key, rfl, go_of (s := { s with heap := h' }) e c dd (by decide) ⟨.str ks[i], H, I1, ⟨t, hkey⟩, ⟨rfl, _, hks, rfl⟩, st', fun b hb => (hf b hb).1⟩⟩
  done := by
    intro X hP hw hK hc i pins s σ H E I hf st hg
    subst hP hw hK
    obtain ⟨f0, f1, f2, f3, f4, f5⟩ := hf it (by simp)
    have hgd := I.kIn _ _ hl
    have hsz : es.size = ks.length := by
      have := ho.len
      simpa using this
    exact next_key_end (I.ok.hd hc) st hgd rfl hsz hg fun h' eb => ⟨rfl, I.turned (t' := s.toks) (fun b ob hb e => eb b ob hb e) f0 f1 f3 f4 f5⟩
  self := fun A i s Q E st h => wpAny_pyIter_keyiter st h
def iKKeys (K : PySem.W.Frag) (td : TE) : TI := fun σ H R => td σ H fun x H1 => ∃ d ks, x = .ref d ∧ KKeys K d ks ∧ R (Itkk ks) H1
theorem pi_kkeys {X : Cx} {tg e : Expr} {td : TE} (he : PE X e td) : PI X tg e (iKKeys X.K td) := by
  refine ⟨fun pins s σ H R I h => ?_⟩
  refine thn (he.run pins s σ H _ I h) fun u s1 ⟨x, H1, I1, rx, d, ks, ex, ⟨es, n, hl, hd, ho⟩, q⟩ => ?_
  subst ex
  obtain rfl : u = Value.ref d := rx
  have hsz : es.size = ks.length := by
    have := ho.len
    simpa using this
  refine iter_keys hd (I1.kIn _ _ hl) ⟨rfl, rfl, rfl⟩ rfl (pi_one (tk := s1.toks) I1 _ (turn_kkeys _ hl ho) ⟨_, Heap.get?_push_size _ rfl, rfl, ?_⟩ q)
  rw [hsz]
  rfl
end My

namespace My
open PySem PySem.Spec PyProof.Rows L2
/-! ### the mathematics -/
def bitsL (n : Int) (m : Nat) : List Int := (List.range m).map fun i => n / 2 ^ i % 2
def numOf : List Int → Int
  | [] => 0
  | b :: r => b + 2 * numOf r
def highOf (l : List Int) : Int := l.foldl (fun f b => 2 * f + b) 0
def Bit (l : List Int) : Prop := ∀ b ∈ l, b = 0 ∨ b = 1
def okD : Nat → PyData → Prop
  | _, .none => True
  | _, .bool _ => True
  | _, .int _ => True
  | _, .str _ => True
  | 0, .list _ => False
  | 0, .tuple _ => False
  | n + 1, .list ds => ds.length ≤ 1000 ∧ ∀ d ∈ ds, okD n d
  | n + 1, .tuple ds => ds.length ≤ 1000 ∧ ∀ d ∈ ds, okD n d
  | _, .dict _ => False
/-- the bag of a law at p: the script (the list cs at c), a place, what is left of a number, a knot -/
def Bag (K : PySem.W.Frag) (c : Addr) (cs : List Int) (H : Hp) (p : Addr) : Prop := ∃ i s k : Int, H p = some (.lst [.ref c, .int i, .int s, .int k]) ∧ SqL K H c (cs.map V.int) ∧ cs.length ≤ 63 ∧ 0 ≤ i
def isNum (d : PyData) (lo hi : Int) : Bool := match d with
  | .int i => decide (lo ≤ i) && decide (i ≤ hi)
  | _ => false
def isInt (d : PyData) : Bool := match d with
  | .int _ => true
  | _ => false
def bitsOk (n m : Int) : Prop := 0 ≤ n ∧ 0 ≤ m ∧ m ≤ 64
/-! ### the mathematics, shown -/
theorem bitsL_len (n : Int) (m : Nat) : (bitsL n m).length = m := by simp [bitsL]
theorem bitsL_get {n : Int} {m j : Nat} (h : j < m) : (bitsL n m)[j]? = some (n / 2 ^ j % 2) := by
  simp [bitsL, h]
theorem bitsL_more (n : Int) (m : Nat) : bitsL n (m + 1) = bitsL n m ++ [n / 2 ^ m % 2] := by
  simp [bitsL, List.range_succ]
theorem bitsL_bit (n : Int) (m : Nat) : Bit (bitsL n m) := by
  intro b hb
  simp only [bitsL, List.mem_map] at hb
  obtain ⟨i, _, rfl⟩ := hb
  omega
theorem Bit.rev {l : List Int} (h : Bit l) : Bit l.reverse := fun b hb => h b (List.mem_reverse.mp hb)
theorem take_one {α : Type} : ∀ {l : List α} {i : Nat} {x : α}, l[i]? = some x → l.take (i + 1) = l.take i ++ [x]
  | [], i, x, h => by simp at h
  | a :: l, 0, x, h => by
    have e : a = x := Option.some.inj h
    subst e
    rfl
  | a :: l, i + 1, x, h => by
    have ih := take_one (l := l) (i := i) (x := x) h
    show a :: l.take (i + 1) = a :: l.take i ++ [x]
    rw [ih]
    rfl
theorem numOf_app : ∀ (l : List Int) (b : Int), numOf (l ++ [b]) = numOf l + b * 2 ^ l.length
  | [], b => by simp [numOf]
  | a :: l, b => by
    have ih := numOf_app l b
    show a + 2 * numOf (l ++ [b]) = a + 2 * numOf l + b * 2 ^ (l.length + 1)
    rw [ih, Int.pow_succ, Int.mul_add]
    have e : 2 * (b * 2 ^ l.length) = b * (2 ^ l.length * 2) := by
      rw [Int.mul_comm 2 (b * 2 ^ l.length), Int.mul_assoc]
    rw [e]
    omega
theorem numOf_take {l : List Int} {j : Nat} {b : Int} (h : l[j]? = some b) : numOf (l.take (j + 1)) = numOf (l.take j) + b * 2 ^ j := by
  have hl : j < l.length := (List.getElem?_eq_some_iff.mp h).1
  rw [take_one h, numOf_app, List.length_take, Nat.min_eq_left (by omega)]
theorem highOf_app (l : List Int) (b : Int) : highOf (l ++ [b]) = 2 * highOf l + b := by
  simp [highOf, List.foldl_append]
theorem highOf_rev : ∀ l : List Int, highOf l.reverse = numOf l
  | [] => rfl
  | b :: l => by
    rw [List.reverse_cons, highOf_app, highOf_rev l]
    show 2 * numOf l + b = b + 2 * numOf l
    omega
theorem highOf_num (l : List Int) : highOf l = numOf l.reverse := by
  have := highOf_rev l.reverse
  rw [List.reverse_reverse] at this
  exact this
theorem cutV_all {xs : List V} {k : Int} (h : (xs.length : Int) ≤ k) : cutV xs none (some k) = xs := by
  obtain ⟨n, rfl⟩ : ∃ n : Nat, k = n := ⟨k.toNat, by omega⟩
  unfold cutV
  rw [HT.sIx_none, HT.sIx_nat, List.drop_zero, Nat.min_eq_right (by omega), Nat.sub_zero, List.take_length]
theorem half_half (n : Int) (j : Nat) : n / 2 ^ j / 2 = n / 2 ^ (j + 1) := by
  rw [Int.pow_succ, Int.ediv_ediv_of_nonneg (Int.pow_nonneg (by decide))]
/-! ### bits of natural numbers -/
theorem xor_and_sum : ∀ (n a b : Nat), a < 2 ^ n → a + b = (a ^^^ b) + 2 * (a &&& b)
  | 0, a, b, h => by
    have : a = 0 := by simpa using h
    subst this
    simp
  | n + 1, a, b, h => by
    have ih := xor_and_sum n (a / 2) (b / 2) (by omega)
    have h1 : (a ^^^ b) / 2 = a / 2 ^^^ b / 2 := Nat.xor_div_two
    have h2 : (a &&& b) / 2 = a / 2 &&& b / 2 := Nat.and_div_two
    have h3 : (a ^^^ b) % 2 = 1 ↔ ¬ ((a % 2 = 1) ↔ (b % 2 = 1)) := Nat.xor_mod_two_eq_one
    have h4 : (a &&& b) % 2 = 1 ↔ (a % 2 = 1 ∧ b % 2 = 1) := Nat.and_mod_two_eq_one
    rw [← h1, ← h2] at ih
    generalize a ^^^ b = x at *
    generalize a &&& b = y at *
    omega
theorem bitAnd_nn (a b : Nat) : Builtin.bitAnd (a : Int) (b : Int) = ((a &&& b : Nat) : Int) := by
  unfold Builtin.bitAnd
  simp
theorem bitXor_nn (a b : Nat) : Builtin.bitXor (a : Int) (b : Int) = ((a ^^^ b : Nat) : Int) := by
  rw [bitXor_and, bitAnd_nn]
  have := xor_and_sum a a b Nat.lt_two_pow_self
  omega
def bit (b : Bool) : Int := if b then 1 else 0
theorem bit_inj {a b : Bool} : bit a = bit b ↔ a = b := by cases a <;> cases b <;> simp [bit]
theorem bit_one {a : Bool} : bit a = 1 ↔ a = true := by cases a <;> simp [bit]
theorem bit_xor (a b : Bool) : (bit a + bit b) % 2 = bit (a ^^ b) := by cases a <;> cases b <;> rfl
theorem bit_not (a : Bool) : 1 - bit a = bit (!a) := by cases a <;> rfl
theorem bit_of {x : Int} (h : x = 0 ∨ x = 1) : x = bit (decide (x = 1)) := by rcases h with rfl | rfl <;> rfl
theorem bit_01 (a : Bool) : bit a = 0 ∨ bit a = 1 := by cases a <;> simp [bit]
theorem highOf_bits : ∀ (w N : Nat), N < 2 ^ w → highOf ((List.range w).map fun t => bit (N.testBit (w - 1 - t))) = N
  | 0, N, h => by
    have : N = 0 := by simpa using h
    subst this
    rfl
  | w + 1, N, h => by
    rw [List.range_succ, List.map_append]
    show highOf (_ ++ [_]) = _
    rw [highOf_app]
    have e : ((List.range w).map fun t => bit (N.testBit (w + 1 - 1 - t))) = (List.range w).map fun t => bit ((N / 2).testBit (w - 1 - t)) := by
      apply List.map_congr_left
      intro t ht
      have := List.mem_range.mp ht
      rw [show w + 1 - 1 - t = (w - 1 - t) + 1 by omega, Nat.testBit_succ]
    rw [e, highOf_bits w (N / 2) (by omega)]
    show 2 * ((N / 2 : Nat) : Int) + bit (N.testBit (w + 1 - 1 - w)) = N
    rw [show w + 1 - 1 - w = 0 by omega, Nat.testBit_zero]
    by_cases c : N % 2 = 1
    · rw [decide_eq_true c]
      show 2 * ((N / 2 : Nat) : Int) + 1 = N
      omega
    · rw [decide_eq_false c]
      show 2 * ((N / 2 : Nat) : Int) + 0 = N
      omega
/-! ### the register -/
def crcStep (w m : Nat) (h : Nat) (b : Int) : Nat := if (bit (h.testBit (w - 1))) ≠ b then ((2 * h) % 2 ^ w) ^^^ m else (2 * h) % 2 ^ w
def crcHeld (w m : Nat) (l : List Int) : Nat := l.foldl (crcStep w m) (2 ^ w - 1)
def crc (w m : Nat) (l : List Int) : Nat := crcHeld w m l ^^^ (2 ^ w - 1)
theorem crcStep_lt {w m h : Nat} {b : Int} (hm : m < 2 ^ w) : crcStep w m h b < 2 ^ w := by
  have h1 : (2 * h) % 2 ^ w < 2 ^ w := Nat.mod_lt _ (Nat.two_pow_pos w)
  unfold crcStep
  split
  · exact Nat.xor_lt_two_pow h1 hm
  · exact h1
theorem crcHeld_app (w m : Nat) (l : List Int) (b : Int) : crcHeld w m (l ++ [b]) = crcStep w m (crcHeld w m l) b := by
  unfold crcHeld
  rw [List.foldl_append]
  rfl
theorem foldl_lt {w m : Nat} (hm : m < 2 ^ w) : ∀ (l : List Int) (h : Nat), h < 2 ^ w → l.foldl (crcStep w m) h < 2 ^ w
  | [], h, hh => hh
  | b :: l, h, _ => foldl_lt hm l _ (crcStep_lt hm)
theorem crcHeld_lt {w m : Nat} (hm : m < 2 ^ w) (l : List Int) : crcHeld w m l < 2 ^ w := foldl_lt hm l _ (Nat.sub_lt (Nat.two_pow_pos w) (by decide))
theorem crc_lt {w m : Nat} (hm : m < 2 ^ w) (l : List Int) : crc w m l < 2 ^ w := Nat.xor_lt_two_pow (crcHeld_lt hm l) (Nat.sub_lt (Nat.two_pow_pos w) (by decide))
theorem top_bit {w h : Nat} (hw : 1 ≤ w) (hh : h < 2 ^ w) : ((h / 2 ^ (w - 1) : Nat) : Int) = bit (h.testBit (w - 1)) := by
  have h2 : h / 2 ^ (w - 1) < 2 := by
    rw [Nat.div_lt_iff_lt_mul (Nat.two_pow_pos _)]
    have : 2 ^ w = 2 * 2 ^ (w - 1) := by
      rw [← Nat.pow_succ']
      congr 1
      omega
    omega
  rw [Nat.testBit_eq_decide_div_mod_eq]
  have : h / 2 ^ (w - 1) = 0 ∨ h / 2 ^ (w - 1) = 1 := by
    generalize h / 2 ^ (w - 1) = x at *
    omega
  rcases this with e | e <;> rw [e] <;> rfl
/-! ### the long division -/
def mnum (ms : List Int) : Nat := (highOf ms).toNat
def rowb (l : List Int) (j : Nat) : Bool := decide (l.getD j 0 = 1)
/-- what stands at j when i places are divided away -/
def ex (w m : Nat) (l : List Int) (i j : Nat) : Bool := rowb l j ^^ (decide (j < i + w) && (crcHeld w m (l.take i)).testBit (w - 1 - (j - i)))
theorem ex_step {w m : Nat} {l : List Int} {i j : Nat} (hl : Bit l) (hw : 1 ≤ w) (hi : i < l.length) (hj : i + 1 ≤ j) :
    ex w m l (i + 1) j = (ex w m l i j ^^ (ex w m l i i && (decide (j ≤ i + w) && m.testBit (w - (j - i))))) := by
  have hb : l[i]? = some l[i] := List.getElem?_eq_getElem hi
  have ht : l.take (i + 1) = l.take i ++ [l[i]] := take_one hb
  have h01 := hl l[i] (List.getElem_mem hi)
  unfold ex
  rw [ht, crcHeld_app]
  generalize crcHeld w m (l.take i) = h
  have ri : rowb l i = decide (l[i] = 1) := by
    unfold rowb
    rw [List.getD_eq_getElem?_getD, hb]
    rfl
  rw [ri]
  generalize rowb l j = rj
  generalize l[i] = b at h01
  have cond : (bit (h.testBit (w - 1)) ≠ b) ↔ (decide (b = 1) ^^ (decide (i < i + w) && h.testBit (w - 1 - (i - i)))) = true := by
    rw [decide_eq_true (show i < i + w by omega), Nat.sub_self, Nat.sub_zero, Bool.true_and]
    generalize h.testBit (w - 1) = x
    rcases h01 with rfl | rfl <;> cases x <;> simp [bit]
  have stp : ∀ k, k < w → (crcStep w m h b).testBit k = ((decide (k ≠ 0) && h.testBit (k - 1)) ^^ ((decide (b = 1) ^^ (decide (i < i + w) && h.testBit (w - 1 - (i - i)))) && m.testBit k)) := by
    intro k hk
    have h2 : ((2 * h) % 2 ^ w).testBit k = (decide (k ≠ 0) && h.testBit (k - 1)) := by
      rw [Nat.testBit_mod_two_pow, decide_eq_true hk, Bool.true_and]
      cases k with
      | zero => simp
      | succ k => rw [Nat.testBit_succ, Nat.mul_div_cancel_left _ (by decide)]; simp
    unfold crcStep
    by_cases c : bit (h.testBit (w - 1)) ≠ b
    · rw [if_pos c, cond.mp c, Nat.testBit_xor, h2, Bool.true_and]
    · have c2 := Bool.eq_false_iff.mpr (fun z => c (cond.mpr z))
      rw [if_neg c, c2, h2, Bool.false_and, Bool.xor_false]
  by_cases c1 : j < i + w
  · rw [decide_eq_true (show j < i + 1 + w by omega), decide_eq_true c1, decide_eq_true (show j ≤ i + w by omega), Bool.true_and, Bool.true_and, Bool.true_and, stp _ (by omega)]
    rw [show w - 1 - (j - (i + 1)) = w - (j - i) by omega, decide_eq_true (show w - (j - i) ≠ 0 by omega), Bool.true_and, show w - (j - i) - 1 = w - 1 - (j - i) by omega, Bool.xor_assoc]
  · by_cases c2 : j = i + w
    · rw [decide_eq_true (show j < i + 1 + w by omega), decide_eq_false c1, decide_eq_true (show j ≤ i + w by omega), Bool.true_and, Bool.false_and, Bool.true_and, Bool.xor_false, stp _ (by omega)]
      rw [show w - 1 - (j - (i + 1)) = 0 by omega, show w - (j - i) = 0 by omega]
      simp
    · rw [decide_eq_false (show ¬ j < i + 1 + w by omega), decide_eq_false c1, decide_eq_false (show ¬ j ≤ i + w by omega)]
      simp
theorem ex_start {w m : Nat} {l : List Int} {j : Nat} (hw : 1 ≤ w) : ex w m l 0 j = (rowb l j ^^ decide (j < w)) := by
  unfold ex crcHeld
  rw [List.take_zero, List.foldl_nil, Nat.testBit_two_pow_sub_one, Nat.sub_zero, Nat.zero_add, decide_eq_true (show w - 1 - j < w by omega), Bool.and_true]
theorem ex_end {w m : Nat} {l : List Int} {t : Nat} (ht : t < w) : (!(ex w m l l.length (l.length + t))) = (crc w m l).testBit (w - 1 - t) := by
  unfold ex crc
  rw [List.take_length, Nat.testBit_xor, Nat.testBit_two_pow_sub_one, decide_eq_true (show w - 1 - t < w by omega), Bool.xor_true, Nat.add_sub_cancel_left, decide_eq_true (show l.length + t < l.length + w by omega), Bool.true_and]
  have : rowb l (l.length + t) = false := by
    unfold rowb
    rw [List.getD_eq_getElem?_getD, List.getElem?_eq_none (by omega)]
    rfl
  rw [this, Bool.false_xor]
/-! ### the bag -/
theorem bag_ne {K : PySem.W.Frag} {H : Hp} {p c : Addr} {cs : List Int} {ys : List V} (h : H p = some (.lst (.ref c :: ys))) (hS : SqL K H c (cs.map V.int)) : (∀ o, SqL K (upd H p o) c (cs.map V.int)) := fun o => by
  rcases hS with (e | ⟨ob, e⟩) | e
  · refine .inl (.inl ?_)
    rw [upd_ne]
    · exact e
    · intro z
      subst z
      rw [h] at e
      cases cs <;> simp at e
  · refine .inl (.inr ⟨ob, ?_⟩)
    rw [upd_ne]
    · exact e
    · intro z
      subst z
      rw [h] at e
      cases e
  · exact .inr e
theorem upd_off {H : Hp} {p : Addr} {o : HO} : ∀ b, b ≠ p → upd H p o b = H b := fun b h => upd_ne h
theorem bag_mk {K : PySem.W.Frag} {H : Hp} {p c : Addr} {cs : List Int} {i s k i' s' k' : Int} (h : H p = some (.lst [.ref c, .int i, .int s, .int k])) (hS : SqL K H c (cs.map V.int)) (hl : cs.length ≤ 63) (h0 : 0 ≤ i') :
    Bag K c cs (upd H p (.lst [.ref c, .int i', .int s', .int k'])) p := ⟨i', s', k', upd_same, bag_ne h hS _, hl, h0⟩
theorem Bag.mono {K : PySem.W.Frag} {H H' : Hp} {B c : Addr} {cs : List Int} (b : Bag K c cs H B) (e : Ex H H') : Bag K c cs H' B := by
  obtain ⟨i, s, k, h1, h2, h3, h4⟩ := b
  exact ⟨i, s, k, e _ _ h1, e.sqL h2, h3, h4⟩
theorem Bag.there {K : PySem.W.Frag} {H : Hp} {B c : Addr} {cs : List Int} (b : Bag K c cs H B) : H B ≠ none := by
  obtain ⟨i, s, k, h1, h2, h3, h4⟩ := b
  rw [h1]
  exact fun z => nomatch z
/-- the bag turned, all else as it was: so too without an object -/
theorem Bag.turned {K : PySem.W.Frag} {H H' : Hp} {B D c : Addr} {cs : List Int} (b : Bag K c cs (wo [D] H) B) (b' : Bag K c cs H' B) (off : ∀ x, x ≠ B → H' x = H x) : Bag K c cs (wo [D] H') B := by
  obtain ⟨i, s, k, h1, h2, h3, h4⟩ := b
  obtain ⟨i', s', k', h1', _, _, h4'⟩ := b'
  have nD : B ∉ [D] := fun z => by
    unfold wo at h1
    rw [if_pos z] at h1
    cases h1
  refine ⟨i', s', k', by rw [wo_get nD]; exact h1', ?_, h3, h4'⟩
  have o2 : ∀ x, x ≠ B → wo [D] H' x = wo [D] H x := fun x hx => by
    unfold wo
    split
    · rfl
    · exact off x hx
  rcases h2 with (e | ⟨ob, e⟩) | e
  · refine .inl (.inl ?_)
    rw [o2]
    · exact e
    · intro z
      subst z
      rw [h1] at e
      cases cs <;> simp at e
  · refine .inl (.inr ⟨ob, ?_⟩)
    rw [o2]
    · exact e
    · intro z
      subst z
      rw [h1] at e
      cases e
  · exact .inr e
theorem off_wo {B : Addr} {H H' : Hp} (off : ∀ x, x ≠ B → H' x = H x) : Ex (wo [B] H) (wo [B] H') := fun b o h => by
  unfold wo at h ⊢
  split at h
  · cases h
  · rename_i z
    rw [if_neg z, off b (fun e => z (by rw [e]; exact List.mem_singleton.mpr rfl))]
    exact h
theorem atI_ints {ns : List Int} {i : Int} (h0 : 0 ≤ i) (h1 : i < ns.length) : ∃ x, x ∈ ns ∧ atI (ns.map V.int) i = some (.int x) := by
  refine ⟨ns[i.toNat]'(by omega), List.getElem_mem _, ?_⟩
  refine at_of (j := i.toNat) (by omega) ?_
  rw [List.getElem?_map, List.getElem?_eq_getElem (by omega)]
  rfl
theorem okD_len {n : Nat} {ds : List PyData} : okD n (.list ds) → ds.length ≤ 1000 ∧ ∃ k, n = k + 1 ∧ ∀ d ∈ ds, okD k d := by
  intro h
  cases n with
  | zero => exact h.elim
  | succ k => exact ⟨h.1, k, rfl, h.2⟩
theorem okD_lenT {n : Nat} {ds : List PyData} : okD n (.tuple ds) → ds.length ≤ 1000 ∧ ∃ k, n = k + 1 ∧ ∀ d ∈ ds, okD k d := by
  intro h
  cases n with
  | zero => exact h.elim
  | succ k => exact ⟨h.1, k, rfl, h.2⟩
theorem all_true (n : Nat) : ((List.range n).map fun _ => true).all id = true := by
  rw [List.all_eq_true]
  intro b hb
  obtain ⟨_, _, rfl⟩ := List.mem_map.mp hb
  rfl
theorem tyS : (∀ b, isTyp (.bool b) "bool" = true) ∧ (∀ b, isTyp (.bool b) "int" = true) ∧ (∀ i, isTyp (.int i) "bool" = false) ∧ (∀ i, isTyp (.int i) "int" = true) ∧ (∀ x, isTyp (.str x) "bool" = false) ∧ (∀ x, isTyp (.str x) "int" = false) ∧ (∀ x, isTyp (.str x) "str" = true) :=
  ⟨fun _ => by show isTypN _ _ = _; simp only [tyName]; decide, fun _ => by show isTypN _ _ = _; simp only [tyName]; decide, fun _ => by show isTypN _ _ = _; simp only [tyName]; decide, fun _ => by show isTypN _ _ = _; simp only [tyName]; decide, fun _ => by show isTypN _ _ = _; simp only [tyName]; decide, fun _ => by show isTypN _ _ = _; simp only [tyName]; decide, fun _ => by show isTypN _ _ = _; simp only [tyName]; decide⟩
theorem tyL (ds : List PyData) : isTyp (.list ds) "bool" = false ∧ isTyp (.list ds) "int" = false ∧ isTyp (.list ds) "str" = false ∧ isTyp (.list ds) "list" = true ∧ isTyp (.list ds) "tuple" = false := by
  refine ⟨?_, ?_, ?_, ?_, ?_⟩ <;> (show isTypN _ _ = _; simp only [tyName]; decide)
theorem tyT (ds : List PyData) : isTyp (.tuple ds) "bool" = false ∧ isTyp (.tuple ds) "int" = false ∧ isTyp (.tuple ds) "str" = false ∧ isTyp (.tuple ds) "list" = false ∧ isTyp (.tuple ds) "tuple" = true := by
  refine ⟨?_, ?_, ?_, ?_, ?_⟩ <;> (show isTypN _ _ = _; simp only [tyName]; decide)
theorem kit_self {K : PySem.W.Frag} {v : Value} : PySem.W.kitOne K v v = some true := if_pos (beq_self_eq_true v)
theorem kit_bi {K : PySem.W.Frag} {C : Addr} {T : String} {b : Bool} (h : PySem.W.kitMeta T = true) (hs : PySem.W.subIn K (.ref C) (.type T) = some b) : PySem.W.kitOne K (.ref C) (.type T) = some b := by
  show (if (Value.ref C == Value.type T) = true then some true else if PySem.W.kitMeta T = true then PySem.W.subIn K (.ref C) (.type T) else none) = some b
  rw [if_neg (by rw [beq_eq_false_iff_ne.mpr (fun z => by cases z)]; decide), if_pos h]
  exact hs
def RD (sp : Sp) (t : TS) (N : List Str) : Prop := ∀ vs H Q E, sp vs H Q E → t { nx := fun _ H' => Q .non H', rt := Q } (start N vs) H
def RDX (sp : Sp) (t : XK → TS) (N : List Str) : Prop := ∀ vs H Q E, sp vs H Q E → t E { nx := fun _ H' => Q .non H', rt := Q } (start N vs) H
/-- [y for x in t for y in f(x)], t a tuple, f(x) a new list ys j -/
theorem lc2TL {K : PySem.W.Frag} {tl tl1 : TE} {g g1 : TG} {tt tt1 : TT} {te : TE} {vs vs1 : List Nat} {σ : L2.St} {H : Hp} {Q : VK} {a : Addr} {xs : List V} (i i1 : Nat) (ys : Nat → List V) (ht : ∀ R : VK, R (.ref a) H → tl σ H R) (hS : SqT K H a xs)
    (hn : ((List.range xs.length).flatMap ys).length ≤ 100000)
    (hw : ∀ x, wipe ((wipe σ vs).set i (some x)) vs = wipe σ vs)
    (hw1 : ∀ x y, wipe ((wipe ((wipe σ vs).set i (some x)) vs1).set i1 (some y)) vs1 = wipe ((wipe σ vs).set i (some x)) vs1)
    (hin : ∀ (j : Nat) x H1 (R : VK), xs[j]? = some x → (∀ b H2, H1 b = none → Ex H1 H2 → H2 b = some (.lst (ys j)) → R (.ref b) H2) → tl1 ((wipe σ vs).set i (some x)) H1 R)
    (he : ∀ x y H1 (R : VK), R y H1 → te ((wipe ((wipe σ vs).set i (some x)) vs1).set i1 (some y)) H1 R)
    (k : ∀ D H', H D = none → Ex H H' → H' D = some (.lst ((List.range xs.length).flatMap ys)) → Q (.ref D) H')
    (hg : g = gName i := by rfl) (hg1 : g1 = gName i1 := by rfl) (htt : tt = tYes := by rfl) (htt1 : tt1 = tYes := by rfl) : tLc2 (iTup K tl) g tt (iList K tl1) g1 tt1 te vs vs1 σ H Q := by
  subst hg hg1 htt htt1
  refine ht _ ⟨a, rfl, ⟨xs, hS⟩, fun D hD => ?_⟩
  have acc1 : ∀ j, (List.range (j + 1)).flatMap ys = (List.range j).flatMap ys ++ ys j := fun j => by simp [List.range_succ]
  have hmono : ∀ j, j ≤ xs.length → ((List.range j).flatMap ys).length ≤ 100000 := by
    intro j hj
    refine Nat.le_trans ?_ hn
    obtain ⟨d, e⟩ : ∃ d, xs.length = j + d := ⟨xs.length - j, by omega⟩
    rw [e, List.range_add, List.flatMap_append, List.length_append]
    omega
  refine ⟨fun j m H' => m = xs.length - j ∧ j ≤ xs.length ∧ Ex H H' ∧ H' D = some (.lst ((List.range j).flatMap ys)), ⟨xs.length, by simp, Nat.zero_le _, Ex.new hD, upd_same⟩, ?_⟩
  rintro j m H1 ⟨rfl, hj, e, hd⟩
  have q := Ex.sqT e hS
  by_cases hlt : j < xs.length
  · refine .inr ⟨⟨xs, xs[j], q, by simp [hlt]⟩, fun H' => Ex H H' ∧ H' D = some (.lst ((List.range (j + 1)).flatMap ys)), fun H' p => ⟨xs.length - (j + 1), by omega, rfl, hlt, p.1, p.2⟩, fun x H' y => ?_⟩
    obtain ⟨e', y⟩ := y
    subst e'
    have hx := y xs q
    refine ⟨hw x, ?_⟩
    simp only [tYes, if_true]
    refine hin j x _ _ hx (fun b H2 hb e2 hb2 => ?_)
    have nbD : b ≠ D := fun z => by
      rw [z, hd] at hb
      cases hb
    refine ⟨b, rfl, ⟨_, SqL.of hb2⟩, fun t k H' => k = (ys j).length - t ∧ t ≤ (ys j).length ∧ Ex H H' ∧ H' b = some (.lst (ys j)) ∧ H' D = some (.lst ((List.range j).flatMap ys ++ (ys j).take t)), ⟨(ys j).length, by simp, Nat.zero_le _, Same.trans e e2, hb2, ?_⟩, ?_⟩
    · rw [List.take_zero, List.append_nil]
      exact e2 _ _ hd
    · rintro t k H3 ⟨rfl, htl, e3, hb3, hd3⟩
      have q3 : SqL K H3 b (ys j) := SqL.of hb3
      by_cases hl2 : t < (ys j).length
      · refine .inr ⟨⟨ys j, (ys j)[t], q3, by simp [hl2]⟩, fun H' => Ex H H' ∧ H' b = some (.lst (ys j)) ∧ H' D = some (.lst ((List.range j).flatMap ys ++ (ys j).take (t + 1))), fun H' p => ⟨(ys j).length - (t + 1), by omega, rfl, hl2, p.1, p.2.1, p.2.2⟩, fun y' H' yy => ?_⟩
        obtain ⟨e', yy⟩ := yy
        subst e'
        have hy := yy _ q3
        refine ⟨hw1 x y', ?_⟩
        simp only [tYes, if_true]
        refine he x y' _ _ ⟨_, hd3, ?_, ?_, ?_, ?_⟩
        · have h1 := hmono (j + 1) hlt
          rw [acc1, List.length_append] at h1
          rw [List.length_append, List.length_take]
          exact Nat.lt_of_le_of_lt (show _ ≤ 100000 by omega) (by decide)
        · exact Ex.mut e3 hD
        · rw [upd_ne nbD]
          exact hb3
        · rw [upd_same, take_one hy, List.append_assoc]
      · have et : t = (ys j).length := by omega
        subst et
        refine .inl ⟨⟨_, q3, Nat.le_refl _⟩, e3, ?_⟩
        rw [hd3, acc1, List.take_length]
  · have ej : j = xs.length := by omega
    subst ej
    exact .inl ⟨⟨xs, q, Nat.le_refl _⟩, k D H1 hD e hd⟩
/-! ### tuples cut and joined -/
theorem cut_take {xs : List V} {i : Int} (h : 0 ≤ i) : cutV xs none (some i) = xs.take i.toNat := by
  obtain ⟨n, rfl⟩ : ∃ n : Nat, i = n := ⟨i.toNat, by omega⟩
  unfold cutV
  rw [HT.sIx_none, HT.sIx_nat, List.drop_zero, Nat.sub_zero, Int.toNat_natCast]
  by_cases c : n ≤ xs.length
  · rw [Nat.min_eq_left c]
  · rw [Nat.min_eq_right (by omega), List.take_length, List.take_of_length_le (by omega)]
theorem cut_drop {xs : List V} {i : Int} (h : 0 ≤ i) : cutV xs (some i) none = xs.drop i.toNat := by
  obtain ⟨n, rfl⟩ : ∃ n : Nat, i = n := ⟨i.toNat, by omega⟩
  unfold cutV
  rw [HT.sIx_none, HT.sIx_nat, Int.toNat_natCast]
  by_cases c : n ≤ xs.length
  · rw [Nat.min_eq_left c, List.take_of_length_le (by rw [List.length_drop]; exact Nat.le_refl _)]
  · rw [Nat.min_eq_right (by omega), List.drop_length, List.take_nil, List.drop_eq_nil_of_le (by omega)]
theorem slT_go {K : PySem.W.Frag} {H : Hp} {t : Addr} {xs : List V} {lo hi : Option Int} {Q : VK} (hS : SqT K H t xs) (k : ∀ t' H', Ex H H' → SqT K H' t' (cutV xs lo hi) → Q (.ref t') H') : rSlA K (.ref t) lo hi H Q := by
  refine ⟨t, xs, rfl, hS, fun hw => ?_, fun _ p hp => k p _ (Ex.new hp) (SqT.of upd_same)⟩
  refine k t H (Same.refl _) ?_
  have : cutV xs lo hi = xs := by
    unfold cutV
    rw [hw.1, hw.2, List.drop_zero, Nat.sub_zero, List.take_length]
  rw [this]
  exact hS
theorem catT_go {K : PySem.W.Frag} {H : Hp} {t u : Addr} {xs ys : List V} {Q : VK} (hx : SqT K H t xs) (hy : SqT K H u ys) (hl : xs.length + ys.length ≤ 100000) (k : ∀ t' H', Ex H H' → SqT K H' t' (xs ++ ys) → Q (.ref t') H') : rCatA K (.ref t) (.ref u) H Q := by
  refine ⟨t, u, xs, ys, rfl, rfl, hx, hy, Nat.le_trans hl (by decide), fun e => ?_, fun _ e => ?_, fun _ _ p hp => k p _ (Ex.new hp) (SqT.of upd_same)⟩
  · subst e
    exact k u H (Same.refl _) hy
  · subst e
    rw [List.append_nil] at k
    exact k t H (Same.refl _) hx
theorem cpow {b e : Int} (h1 : 0 ≤ b) (h2 : b < 1000) (h3 : 0 ≤ e) (h4 : e < 1000) : CPow b e := ⟨h3, by omega, by omega⟩
def byteN (n : Int) : Bool := decide (0 ≤ n) && decide (n ≤ 255)
def sum5N (n : Int) : Nat := crc 5 5 (bitsL n 11)
def bytesBits (ns : List Int) : List Int := ns.flatMap fun n => bitsL n 8
def sum16N (ns : List Int) : Nat := crc 16 32773 (bytesBits ns)
/-! ### packets -/
inductive Arg where
  | int (i : Int)
  | byt (ns : List Int)
def Arg.d : Arg → PyData
  | .int i => .int i
  | .byt ns => .tuple (ns.map PyData.int)
def tokW : List Str := ["out", "in", "setup"]
def ansW : List Str := ["ack", "nak", "stall"]
def code (w : Str) : Int :=
  if w = "out" then 1 else if w = "ack" then 2 else if w = "frame" then 5 else if w = "in" then 9 else if w = "nak" then 10 else if w = "setup" then 13 else 14
def hd (c : Int) : Int := c + 16 * (15 - c)
def two (n : Int) : List Int := [n % 256, n / 256]
def num11 (n : Int) : Int := n + 2048 * numOf (bitsL (sum5N n) 5).reverse
def num16 (ns : List Int) : Int := numOf (bitsL (sum16N ns) 16).reverse
inductive Pk where
  | tok (w : Str) (n e : Int)
  | frm (n : Int)
  | dat (m : Int) (ns : List Int)
  | ans (w : Str)
def Pk.ok : Pk → Prop
  | .tok w n e => w ∈ tokW ∧ 0 ≤ n ∧ n ≤ 127 ∧ 0 ≤ e ∧ e ≤ 15
  | .frm n => 0 ≤ n ∧ n ≤ 2047
  | .dat m ns => (m = 0 ∨ m = 1) ∧ ns.length ≤ 64 ∧ ns.all byteN = true
  | .ans w => w ∈ ansW
def Pk.ds : Pk → List PyData
  | .tok w n e => [.str w, .int n, .int e]
  | .frm n => [.str "frame", .int n]
  | .dat m ns => [.str "data", .int m, .tuple (ns.map PyData.int)]
  | .ans w => [.str w]
def Pk.bytes : Pk → List Int
  | .tok w n e => hd (code w) :: two (num11 (n + 128 * e))
  | .frm n => hd 5 :: two (num11 n)
  | .dat m ns => hd (if m = 0 then 3 else 11) :: (ns ++ two (num16 ns))
  | .ans w => [hd (code w)]
/-- a tuple as it may be handed in: none, or a word and numbers or rows of numbers -/
def Shape (ds : List PyData) : Prop := ds = [] ∨ ∃ (w : Str) (args : List Arg), ds = .str w :: args.map Arg.d
def isTokD : List PyData → Bool
  | [.str w, x, y] => decide (w ∈ tokW) && (isNum x 0 127 && isNum y 0 15)
  | _ => false
def isFrmD : List PyData → Bool
  | [.str w, x] => decide (w = "frame") && isNum x 0 2047
  | _ => false
def isPcD : PyData → Bool
  | .tuple ds => decide (ds.length ≤ 64) && ds.all fun d => isNum d 0 255
  | _ => false
def isDatD : List PyData → Bool
  | [.str w, m, x] => decide (w = "data") && (isNum m 0 1 && isPcD x)
  | _ => false
def isAnsD : List PyData → Bool
  | [.str w] => decide (w ∈ ansW)
  | _ => false
theorem inV_strs (w : Str) (ws : List Str) : inV (.str w) (ws.map V.str) = decide (w ∈ ws) := by
  induction ws with
  | nil => rfl
  | cons x ws ih =>
    show (eqV (.str x) (.str w) || inV (.str w) (ws.map V.str)) = _
    rw [ih]
    by_cases e : x = w
    · subst e
      simp [eqV]
    · simp [eqV, e, Ne.symm e]
end My

namespace My
open PySem PySem.Spec PyProof.Rows L2
def Small (ds : List PyData) : Prop := ∀ ns : List Int, PyData.tuple (ns.map PyData.int) ∈ ds → ns.length ≤ 1000
def cutB (row : List Int) : List Int := (row.drop 1).take (row.length - 3)
/-- the packet of a word that might write a row -/
def wordD (w : Str) (row : List Int) : List PyData :=
  if w ∈ ansW then [.str w] else if row.length ≠ 3 then [] else
    let n := (row.getD 1 0 + 256 * row.getD 2 0) % 2048
    if w = "frame" then [.str w, .int n] else [.str w, .int (n % 128), .int (n / 128)]
def codeW : List Str := ["out", "ack", "frame", "in", "nak", "setup", "stall"]
def likelyD (row : List Int) : List PyData :=
  if row.length = 0 then [] else
    match codeW.find? (fun w => decide (row.getD 0 0 = hd (code w))) with
    | some w => wordD w row
    | none => if row.getD 0 0 = hd 3 then [.str "data", .int 0, .tuple ((cutB row).map PyData.int)] else
        if row.getD 0 0 = hd 11 then [.str "data", .int 1, .tuple ((cutB row).map PyData.int)] else []
/-! ### packets: the mathematics -/
theorem eqv_ints : ∀ as bs : List Int, PyData.eqvAll (as.map PyData.int) (bs.map PyData.int) = decide (as = bs)
  | [], [] => rfl
  | [], _ :: _ => rfl
  | _ :: _, [] => rfl
  | a :: as, b :: bs => by
    show (a == b && PyData.eqvAll (as.map PyData.int) (bs.map PyData.int)) = _
    rw [eqv_ints as bs]
    by_cases e : a = b <;> by_cases f : as = bs <;> simp [e, f]
theorem eqvT (as bs : List Int) : PyData.eqv (.tuple (as.map PyData.int)) (.tuple (bs.map PyData.int)) = decide (as = bs) := by
  show PyData.eqvAll _ _ = _
  exact eqv_ints as bs
theorem shapedT (ns : List Int) : SeqAt.shaped (.tuple (ns.map PyData.int)) = true := by
  have h1 := PySem.W.depthAll_ints ns
  have h2 : PyData.depth (.tuple (ns.map PyData.int)) ≤ 64 := by simp only [PyData.depth]; omega
  show (PyData.canLay0 (.tuple (ns.map PyData.int)) && decide (PyData.depth (.tuple (ns.map PyData.int)) ≤ 64)) = true
  rw [Bool.and_eq_true]
  exact ⟨by simp only [PyData.canLay0]; exact PySem.W.canLayAll0_ints ns, decide_eq_true h2⟩
theorem numOf_lt : ∀ l : List Int, Bit l → 0 ≤ numOf l ∧ numOf l < 2 ^ l.length
  | [], _ => ⟨by decide, by decide⟩
  | b :: l, h => by
    have ih := numOf_lt l fun x hx => h x (List.mem_cons_of_mem _ hx)
    have hb := h b List.mem_cons_self
    show 0 ≤ b + 2 * numOf l ∧ b + 2 * numOf l < 2 ^ (l.length + 1)
    rw [Int.pow_succ]
    omega
theorem numOf_append : ∀ a b : List Int, numOf (a ++ b) = numOf a + 2 ^ a.length * numOf b
  | [], b => by simp [numOf]
  | x :: a, b => by
    have ih := numOf_append a b
    show x + 2 * numOf (a ++ b) = x + 2 * numOf a + 2 ^ (a.length + 1) * numOf b
    rw [ih, Int.pow_succ, Int.mul_add]
    have : 2 * (2 ^ a.length * numOf b) = 2 ^ a.length * 2 * numOf b := by
      rw [Int.mul_comm (2 ^ a.length) 2, Int.mul_assoc]
    omega
theorem turned_lt (s m : Nat) : 0 ≤ numOf (bitsL s m).reverse ∧ numOf (bitsL s m).reverse < 2 ^ m := by
  have := numOf_lt (bitsL (s : Int) m).reverse (bitsL_bit _ _).rev
  rwa [List.length_reverse, bitsL_len] at this
theorem num11_lt {n : Int} (h0 : 0 ≤ n) (h1 : n ≤ 2047) : 0 ≤ num11 n ∧ num11 n < 65536 ∧ num11 n % 2048 = n := by
  have := turned_lt (sum5N n) 5
  unfold num11
  generalize numOf (bitsL (sum5N n) 5).reverse = x at *
  omega
theorem isNum_int {d : PyData} {lo hi : Int} (h : isNum d lo hi = true) : ∃ i, d = .int i ∧ lo ≤ i ∧ i ≤ hi := by
  cases d with
  | int i =>
    simp [isNum] at h
    exact ⟨i, rfl, h.1, h.2⟩
  | _ => cases h
theorem isPc_byt {d : PyData} (h : isPcD d = true) : ∃ ns : List Int, d = .tuple (ns.map PyData.int) ∧ ns.length ≤ 64 ∧ ns.all byteN = true := by
  cases d with
  | tuple ds =>
    simp only [isPcD, Bool.and_eq_true, decide_eq_true_eq] at h
    obtain ⟨h1, h2⟩ := h
    have : ∃ ns : List Int, ds = ns.map PyData.int := by
      clear h1
      induction ds with
      | nil => exact ⟨[], rfl⟩
      | cons d ds ih =>
        rw [List.all_cons, Bool.and_eq_true] at h2
        obtain ⟨i, rfl, _, _⟩ := isNum_int h2.1
        obtain ⟨ns, rfl⟩ := ih h2.2
        exact ⟨i :: ns, rfl⟩
    obtain ⟨ns, rfl⟩ := this
    rw [List.length_map] at h1
    refine ⟨ns, rfl, h1, ?_⟩
    rw [List.all_map] at h2
    exact h2
  | _ => cases h
theorem tok_of {ds : List PyData} (h : isTokD ds = true) : ∃ w n e, ds = (Pk.tok w n e).ds ∧ (Pk.tok w n e).ok := by
  unfold isTokD at h
  split at h
  · rename_i w x y
    simp only [Bool.and_eq_true, decide_eq_true_eq] at h
    obtain ⟨n, rfl, n0, n1⟩ := isNum_int h.2.1
    obtain ⟨e, rfl, e0, e1⟩ := isNum_int h.2.2
    exact ⟨w, n, e, rfl, h.1, n0, n1, e0, e1⟩
  · cases h
theorem frm_of {ds : List PyData} (h : isFrmD ds = true) : ∃ n, ds = (Pk.frm n).ds ∧ (Pk.frm n).ok := by
  unfold isFrmD at h
  split at h
  · rename_i w x
    simp only [Bool.and_eq_true, decide_eq_true_eq] at h
    obtain ⟨n, rfl, n0, n1⟩ := isNum_int h.2
    obtain ⟨rfl, _⟩ := h
    exact ⟨n, rfl, n0, n1⟩
  · cases h
theorem dat_of {ds : List PyData} (h : isDatD ds = true) : ∃ m ns, ds = (Pk.dat m ns).ds ∧ (Pk.dat m ns).ok := by
  unfold isDatD at h
  split at h
  · rename_i w x y
    simp only [Bool.and_eq_true, decide_eq_true_eq] at h
    obtain ⟨n, rfl, n0, n1⟩ := isNum_int h.2.1
    obtain ⟨ns, rfl, l1, l2⟩ := isPc_byt h.2.2
    obtain ⟨rfl, _⟩ := h
    exact ⟨n, ns, rfl, by omega, l1, l2⟩
  · cases h
theorem ans_of {ds : List PyData} (h : isAnsD ds = true) : ∃ w, ds = (Pk.ans w).ds ∧ (Pk.ans w).ok := by
  unfold isAnsD at h
  split at h
  · rename_i w
    exact ⟨w, rfl, show w ∈ ansW from of_decide_eq_true h⟩
  · cases h
theorem isPcD_ints (ns : List Int) : isPcD (.tuple (ns.map PyData.int)) = (decide (ns.length ≤ 64) && ns.all byteN) := by
  show (decide ((ns.map PyData.int).length ≤ 64) && (ns.map PyData.int).all fun d => isNum d 0 255) = _
  rw [List.length_map, List.all_map]
  rfl
/-- each packet passes its own look, and no earlier one -/
theorem ok_looks {k : Pk} (h : k.ok) : match k with
    | .tok _ _ _ => isTokD k.ds = true
    | .frm _ => isTokD k.ds = false ∧ isFrmD k.ds = true
    | .dat _ _ => isTokD k.ds = false ∧ isFrmD k.ds = false ∧ isDatD k.ds = true
    | .ans _ => isTokD k.ds = false ∧ isFrmD k.ds = false ∧ isDatD k.ds = false ∧ isAnsD k.ds = true := by
  cases k with
  | tok w n e =>
    obtain ⟨h1, h2, h3, h4, h5⟩ := h
    show (decide (w ∈ tokW) && ((decide (0 ≤ n) && decide (n ≤ 127)) && (decide (0 ≤ e) && decide (e ≤ 15)))) = true
    simp [h1, h2, h3, h4, h5]
  | frm n =>
    obtain ⟨h1, h2⟩ := h
    refine ⟨rfl, ?_⟩
    show (decide (("frame" : Str) = "frame") && (decide (0 ≤ n) && decide (n ≤ 2047))) = true
    simp [h1, h2]
  | dat m ns =>
    obtain ⟨h1, h2, h3⟩ := h
    refine ⟨?_, rfl, ?_⟩
    · show (decide (("data" : Str) ∈ tokW) && (isNum (.int m) 0 127 && isNum (.tuple (ns.map PyData.int)) 0 15)) = false
      rw [show decide (("data" : Str) ∈ tokW) = false by decide, Bool.false_and]
    · show (decide (("data" : Str) = "data") && ((decide (0 ≤ m) && decide (m ≤ 1)) && isPcD (.tuple (ns.map PyData.int)))) = true
      rw [isPcD_ints, h3]
      rcases h1 with rfl | rfl <;> simp [h2]
  | ans w =>
    refine ⟨rfl, rfl, rfl, ?_⟩
    show decide (w ∈ ansW) = true
    exact decide_eq_true h
theorem none_ok {ds : List PyData} (h1 : isTokD ds = false) (h2 : isFrmD ds = false) (h3 : isDatD ds = false) (h4 : isAnsD ds = false) : ∀ k : Pk, k.ok → k.ds ≠ ds := by
  intro k hk e
  have := ok_looks hk
  subst e
  cases k with
  | tok w n e => rw [show isTokD _ = true from this] at h1; cases h1
  | frm n => rw [this.2] at h2; cases h2
  | dat m ns => rw [this.2.2] at h3; cases h3
  | ans w => rw [this.2.2.2] at h4; cases h4
theorem ds_bytes {k k' : Pk} (h : k.ok) (h' : k'.ok) (e : k.ds = k'.ds) : k.bytes = k'.bytes := by
  cases k <;> cases k' <;> simp only [Pk.ds, List.cons.injEq, PyData.int.injEq, PyData.str.injEq, PyData.tuple.injEq, and_true, true_and, eq_self, reduceCtorEq, and_false, false_and] at e
  · obtain ⟨rfl, rfl, rfl⟩ := e
    rfl
  · subst e
    rfl
  · obtain ⟨rfl, e2⟩ := e
    have := (List.map_inj_right (fun a b h => PyData.int.inj h)).mp e2
    subst this
    rfl
  · subst e
    rfl
theorem likely_ok {k : Pk} (h : k.ok) : likelyD k.bytes = k.ds := by
  cases k with
  | tok w n e =>
    obtain ⟨hw, n0, n1, e0, e1⟩ := h
    have hx := num11_lt (n := n + 128 * e) (by omega) (by omega)
    show likelyD [hd (code w), num11 (n + 128 * e) % 256, num11 (n + 128 * e) / 256] = [.str w, .int n, .int e]
    generalize num11 (n + 128 * e) = N at hx
    have e3 : (N % 256 + 256 * (N / 256)) % 2048 = n + 128 * e := by omega
    have hf : codeW.find? (fun v => decide (hd (code w) = hd (code v))) = some w := by
      rcases (by simpa [tokW] using hw) with rfl | rfl | rfl <;> decide
    have na : w ∉ ansW := by
      rcases (by simpa [tokW] using hw) with rfl | rfl | rfl <;> decide
    have nf : w ≠ "frame" := by
      rcases (by simpa [tokW] using hw) with rfl | rfl | rfl <;> decide
    unfold likelyD
    rw [if_neg (by simp)]
    show (match codeW.find? (fun v => decide (hd (code w) = hd (code v))) with | some w' => _ | none => _) = _
    rw [hf]
    show wordD w [hd (code w), N % 256, N / 256] = _
    unfold wordD
    rw [if_neg na, if_neg (by simp)]
    show (if w = "frame" then _ else [PyData.str w, .int ((N % 256 + 256 * (N / 256)) % 2048 % 128), .int ((N % 256 + 256 * (N / 256)) % 2048 / 128)]) = _
    rw [if_neg nf, e3]
    congr 3
    · omega
    · congr 2
      omega
  | frm n =>
    obtain ⟨n0, n1⟩ := h
    have hx := num11_lt n0 n1
    show likelyD [hd 5, num11 n % 256, num11 n / 256] = [.str "frame", .int n]
    generalize num11 n = N at hx
    have e3 : (N % 256 + 256 * (N / 256)) % 2048 = n := by omega
    unfold likelyD
    rw [if_neg (by simp)]
    rw [show codeW.find? (fun v => decide ([hd 5, N % 256, N / 256].getD 0 0 = hd (code v))) = some "frame" from (by decide : codeW.find? (fun v => decide (hd 5 = hd (code v))) = some "frame")]
    show wordD "frame" [hd 5, N % 256, N / 256] = _
    unfold wordD
    rw [if_neg (by decide), if_neg (by simp)]
    show (if ("frame" : Str) = "frame" then [PyData.str "frame", .int ((N % 256 + 256 * (N / 256)) % 2048)] else [PyData.str "frame", .int ((N % 256 + 256 * (N / 256)) % 2048 % 128), .int ((N % 256 + 256 * (N / 256)) % 2048 / 128)]) = _
    rw [if_pos rfl, e3]
  | dat m ns =>
    obtain ⟨hm, hl, hb⟩ := h
    have hc : cutB (hd (if m = 0 then 3 else 11) :: (ns ++ two (num16 ns))) = ns := by
      unfold cutB two
      rw [List.drop_one, List.tail_cons]
      simp
    show likelyD (hd (if m = 0 then 3 else 11) :: (ns ++ two (num16 ns))) = [.str "data", .int m, .tuple (ns.map PyData.int)]
    unfold likelyD
    rw [if_neg (by simp), hc]
    show (match codeW.find? (fun v => decide (hd (if m = 0 then 3 else 11) = hd (code v))) with | some w' => _ | none => if hd (if m = 0 then 3 else 11) = hd 3 then _ else if hd (if m = 0 then 3 else 11) = hd 11 then _ else _) = _
    rcases hm with rfl | rfl
    · rw [show codeW.find? (fun v => decide (hd (if (0 : Int) = 0 then 3 else 11) = hd (code v))) = none by decide]
      rfl
    · rw [show codeW.find? (fun v => decide (hd (if (1 : Int) = 0 then 3 else 11) = hd (code v))) = none by decide]
      rfl
  | ans w =>
    show likelyD [hd (code w)] = [.str w]
    rcases (by simpa [ansW] using (show w ∈ ansW from h)) with rfl | rfl | rfl <;> rfl
theorem likely_shape (row : List Int) : Shape (likelyD row) := by
  have hw : ∀ w, Shape (wordD w row) := fun w => by
    unfold wordD
    split
    · exact .inr ⟨w, [], rfl⟩
    · split
      · exact .inl rfl
      · dsimp only
        split
        · exact .inr ⟨w, [.int _], rfl⟩
        · exact .inr ⟨w, [.int _, .int _], rfl⟩
  unfold likelyD
  split
  · exact .inl rfl
  · split
    · exact hw _
    · split
      · exact .inr ⟨"data", [.int 0, .byt (cutB row)], rfl⟩
      · split
        · exact .inr ⟨"data", [.int 1, .byt (cutB row)], rfl⟩
        · exact .inl rfl
theorem likely_small (row : List Int) (hl : row.length ≤ 1000) : Small (likelyD row) := by
  intro ns
  have hw : ∀ w, PyData.tuple (ns.map PyData.int) ∉ wordD w row := fun w h => by
    unfold wordD at h
    split at h
    · simp at h
    · split at h
      · simp at h
      · dsimp only at h
        split at h <;> simp at h
  have hc : (cutB row).length ≤ 1000 := by
    unfold cutB
    rw [List.length_take, List.length_drop]
    omega
  have hm : ns.map PyData.int = (cutB row).map PyData.int → ns.length ≤ 1000 := fun e => by
    have := congrArg List.length e
    rw [List.length_map, List.length_map] at this
    omega
  intro h
  unfold likelyD at h
  split at h
  · simp at h
  · split at h
    · exact absurd h (hw _)
    · split at h
      · simp at h
        exact hm h
      · split at h
        · simp at h
          exact hm h
        · simp at h
end My

namespace My
open PySem PySem.Spec PyProof.Rows L2
end My
namespace L2
open PySem PySem.Spec PyProof.Rows My
/-! ### data opened and made -/
theorem Dp.tupE {K : PySem.W.Frag} {H : Hp} {v : V} {ds : List PyData} (h : Dp K H v (.tuple ds)) : ∃ p xs, v = .ref p ∧ SqT K H p xs ∧ DpAll K H xs ds := by
  cases h with
  | tup hs ha => exact ⟨_, _, rfl, hs, ha⟩
theorem Dp.lstE {K : PySem.W.Frag} {H : Hp} {v : V} {ds : List PyData} (h : Dp K H v (.list ds)) : ∃ p xs, v = .ref p ∧ SqL K H p xs ∧ DpAll K H xs ds := by
  cases h with
  | lst hs ha => exact ⟨_, _, rfl, hs, ha⟩
theorem Dp.intE {K : PySem.W.Frag} {H : Hp} {v : V} {i : Int} (h : Dp K H v (.int i)) : v = .int i := by cases h; rfl
theorem Dp.blE {K : PySem.W.Frag} {H : Hp} {v : V} {i : Bool} (h : Dp K H v (.bool i)) : v = .bl i := by cases h; rfl
theorem Dp.strE {K : PySem.W.Frag} {H : Hp} {v : V} {i : Str} (h : Dp K H v (.str i)) : v = .str i := by cases h; rfl
theorem DpAll.consE {K : PySem.W.Frag} {H : Hp} {vs : List V} {d : PyData} {ds : List PyData} (h : DpAll K H vs (d :: ds)) : ∃ v r, vs = v :: r ∧ Dp K H v d ∧ DpAll K H r ds := by
  cases h with
  | cons h1 h2 => exact ⟨_, _, rfl, h1, h2⟩
theorem DpAll.nilE {K : PySem.W.Frag} {H : Hp} {vs : List V} (h : DpAll K H vs []) : vs = [] := by cases h; rfl
theorem DpAll.intsE {K : PySem.W.Frag} {H : Hp} : ∀ {vs : List V} {ns : List Int}, DpAll K H vs (ns.map PyData.int) → vs = ns.map V.int
  | vs, [], h => h.nilE
  | vs, n :: ns, h => by
    obtain ⟨v, r, rfl, h1, h2⟩ := DpAll.consE (d := .int n) (ds := ns.map PyData.int) h
    rw [h1.intE, DpAll.intsE h2]
    rfl
theorem Dp.intsE {K : PySem.W.Frag} {H : Hp} {v : V} {ns : List Int} (h : Dp K H v (.tuple (ns.map PyData.int))) : ∃ p, v = .ref p ∧ SqT K H p (ns.map V.int) := by
  obtain ⟨p, xs, rfl, h1, h2⟩ := h.tupE
  rw [h2.intsE] at h1
  exact ⟨p, rfl, h1⟩
theorem DpAll.app {K : PySem.W.Frag} {H : Hp} : ∀ {xs ys : List V} {ds es : List PyData}, DpAll K H xs ds → DpAll K H ys es → DpAll K H (xs ++ ys) (ds ++ es)
  | _, _, [], _, h, g => by
    cases h
    exact g
  | _, _, d :: ds, _, h, g => by
    cases h with
    | cons h1 h2 => exact .cons h1 (DpAll.app h2 g)
theorem DpAll.drop {K : PySem.W.Frag} {H : Hp} : ∀ {n : Nat} {xs : List V} {ds : List PyData}, DpAll K H xs ds → DpAll K H (xs.drop n) (ds.drop n)
  | 0, _, _, h => h
  | n + 1, _, [], h => by
    cases h
    exact .nil
  | n + 1, _, d :: ds, h => by
    cases h with
    | cons h1 h2 => exact DpAll.drop (n := n) h2
theorem DpAll.take {K : PySem.W.Frag} {H : Hp} : ∀ {n : Nat} {xs : List V} {ds : List PyData}, DpAll K H xs ds → DpAll K H (xs.take n) (ds.take n)
  | 0, _, _, _ => .nil
  | n + 1, _, [], h => by
    cases h
    exact .nil
  | n + 1, _, d :: ds, h => by
    cases h with
    | cons h1 h2 => exact .cons h1 (DpAll.take (n := n) h2)
/-- a new tuple -/
theorem Dp.newT {K : PySem.W.Frag} {H : Hp} {t : Addr} {xs : List V} {ds : List PyData} (ht : H t = none) (h : DpAll K H xs ds) : Dp K (upd H t (.tup xs)) (.ref t) (.tuple ds) :=
  .tup (SqT.of upd_same) (Ex.dpAll (Ex.new ht) _ _ h)
theorem Dp.newL {K : PySem.W.Frag} {H : Hp} {t : Addr} {xs : List V} {ds : List PyData} (ht : H t = none) (h : DpAll K H xs ds) : Dp K (upd H t (.lst xs)) (.ref t) (.list ds) :=
  .lst (SqL.of upd_same) (Ex.dpAll (Ex.new ht) _ _ h)
end L2
namespace My
open PySem PySem.Spec PyProof.Rows L2
/-! ### data without lists stands apart from the bag -/
mutual
def noL : PyData → Bool
  | .none => true
  | .bool _ => true
  | .int _ => true
  | .str _ => true
  | .list _ => false
  | .tuple ds => noLs ds
  | .dict _ => false
def noLs : List PyData → Bool
  | [] => true
  | d :: ds => noL d && noLs ds
end
theorem sqT_offL {K : PySem.W.Frag} {p : Addr} {l : List V} {H : Hp} {t : Addr} {xs : List V} (h1 : H p = some (.lst l)) (h : SqT K H t xs) : SqT K (wo [p] H) t xs := by
  have ne : ∀ o, H t = some o → (∀ l, o ≠ .lst l) → t ∉ [p] := fun o e no z => by
    rw [List.mem_singleton.mp z, h1] at e
    cases e
    exact no _ rfl
  rcases h with (e | ⟨o, e⟩) | e
  · exact .inl (.inl (by rw [wo_get (ne _ e fun l z => by cases z)]; exact e))
  · exact .inl (.inr ⟨o, by rw [wo_get (ne _ e fun l z => by cases z)]; exact e⟩)
  · exact .inr e
theorem Bag.isL {K : PySem.W.Frag} {p c : Addr} {cs : List Int} {H : Hp} (bag : Bag K c cs H p) : ∃ l, H p = some (.lst l) := by
  obtain ⟨i, s, k, h1, _⟩ := bag
  exact ⟨_, h1⟩
theorem sqT_offB {K : PySem.W.Frag} {p c : Addr} {cs : List Int} {H : Hp} {t : Addr} {xs : List V} (bag : Bag K c cs H p) (h : SqT K H t xs) : SqT K (wo [p] H) t xs := by
  obtain ⟨l, h1⟩ := bag.isL
  exact sqT_offL h1 h
end My
namespace L2
open PySem PySem.Spec PyProof.Rows My
mutual
theorem Dp.offL {K : PySem.W.Frag} {p : Addr} {l : List V} {H : Hp} (h1 : H p = some (.lst l)) : ∀ (d : PyData) (v : V), noL d = true → Dp K H v d → Dp K (wo [p] H) v d
  | .none, _, _, h => by cases h; exact .non
  | .bool b, _, _, h => by cases h; exact .bl b
  | .int i, _, _, h => by cases h; exact .int i
  | .str x, _, _, h => by cases h; exact .str x
  | .list ds, _, n, h => by unfold noL at n; exact Bool.noConfusion n
  | .tuple ds, _, n, h => by
    unfold noL at n
    cases h with
    | tup hs ha => exact .tup (sqT_offL h1 hs) (Dp.offLAll h1 ds _ n ha)
  | .dict _, _, _, h => by cases h
theorem Dp.offLAll {K : PySem.W.Frag} {p : Addr} {l : List V} {H : Hp} (h1 : H p = some (.lst l)) : ∀ (ds : List PyData) (vs : List V), noLs ds = true → DpAll K H vs ds → DpAll K (wo [p] H) vs ds
  | [], _, _, h => by cases h; exact .nil
  | d :: ds, _, n, h => by
    unfold noLs at n
    obtain ⟨n1, n2⟩ := Bool.and_eq_true_iff.mp n
    cases h with
    | cons h2 h3 => exact .cons (Dp.offL h1 d _ n1 h2) (Dp.offLAll h1 ds _ n2 h3)
end
theorem Dp.offAll' {K : PySem.W.Frag} {p c : Addr} {cs : List Int} {H : Hp} (bag : Bag K c cs H p) {ds : List PyData} {vs : List V} (n : noLs ds = true) (h : DpAll K H vs ds) : DpAll K (wo [p] H) vs ds := by
  obtain ⟨l, h1⟩ := bag.isL
  exact Dp.offLAll h1 ds vs n h
theorem Dp.off {K : PySem.W.Frag} {p c : Addr} {cs : List Int} {H : Hp} (bag : Bag K c cs H p) (d : PyData) (v : V) (n : noL d = true) (h : Dp K H v d) : Dp K (wo [p] H) v d := by
  obtain ⟨l, h1⟩ := bag.isL
  exact Dp.offL h1 d v n h
end L2
namespace My
open PySem PySem.Spec PyProof.Rows L2
theorem noLs_ints : ∀ ns : List Int, noLs (ns.map PyData.int) = true
  | [] => rfl
  | n :: ns => by
    show (noL (.int n) && noLs (ns.map PyData.int)) = true
    rw [noLs_ints ns]
    rfl
theorem noLs_all : ∀ {ds : List PyData}, (∀ d ∈ ds, noL d = true) → noLs ds = true
  | [], _ => rfl
  | d :: ds, h => by
    unfold noLs
    rw [h d (List.mem_cons_self), noLs_all fun x hx => h x (List.mem_cons_of_mem _ hx)]
    rfl
/-! ### comprehensions and walks whose range, list or tuple a call makes -/
theorem lcAt {ta : TA} {g : TG} {tt : TT} {te : TE} {vs : List Nat} {σ : L2.St} {H : Hp} {Q : VK} (S : Int → Hp → Prop) (ht : ∀ R : List V → Hp → Prop, (∀ n H0, S n H0 → R [.int n] H0) → ta σ H R)
    (k : ∀ n H0, S n H0 → tLc (iRng1 fun _ H' R => R [.int n] H') g tt te vs σ H0 Q) : tLc (iRng1 ta) g tt te vs σ H Q :=
  ht _ fun n H0 s => k n H0 s
theorem lcAtL {K : PySem.W.Frag} {tl : TE} {g : TG} {tt : TT} {te : TE} {vs : List Nat} {σ : L2.St} {H : Hp} {Q : VK} (S : Addr → Hp → Prop) (ht : ∀ R : VK, (∀ p H0, S p H0 → R (.ref p) H0) → tl σ H R)
    (k : ∀ p H0, S p H0 → tLc (iList K fun _ H' R => R (.ref p) H') g tt te vs σ H0 Q) : tLc (iList K tl) g tt te vs σ H Q :=
  ht _ fun p H0 s => k p H0 s
/-- what a comprehension made, as rows of what each of its items is -/
theorem Made.some {α : Type} {K : PySem.W.Frag} {H : Hp} {f : α → PyData} {G : α → Prop} : ∀ {n : Nat} {ys : List V}, Made n (fun _ v H => ∃ x, G x ∧ Dp K H v (f x)) ys H → ∃ xs : List α, xs.length = n ∧ (∀ x ∈ xs, G x) ∧ DpAll K H ys (xs.map f)
  | n, [], ⟨h1, _⟩ => ⟨[], h1, fun x hx => (List.not_mem_nil hx).elim, .nil⟩
  | n, y :: ys, ⟨h1, h2⟩ => by
    obtain ⟨v, e1, x, gx, dx⟩ := h2 0 (by rw [← h1]; simp)
    have e2 : y = v := by simpa using e1
    subst e2
    obtain ⟨xs, l1, g1, d1⟩ := Made.some (n := ys.length) (ys := ys) (f := f) (G := G) ⟨rfl, fun j hj => by
      obtain ⟨u, e3, r⟩ := h2 (j + 1) (by rw [← h1]; simp; omega)
      exact ⟨u, by simpa using e3, r⟩⟩
    refine ⟨x :: xs, by rw [← h1]; simp [l1], fun z hz => ?_, .cons dx d1⟩
    rcases List.mem_cons.mp hz with rfl | hz
    · exact gx
    · exact g1 z hz
/-! ### data that == may be asked of -/
theorem depth_tup (ds : List PyData) : PyData.depth (.tuple ds) = PyData.depthAll ds + 1 := by simp only [PyData.depth]
theorem depth_lst (ds : List PyData) : PyData.depth (.list ds) = PyData.depthAll ds + 1 := by simp only [PyData.depth]
theorem depthAll_le {n : Nat} : ∀ {ds : List PyData}, (∀ d ∈ ds, PyData.depth d ≤ n) → PyData.depthAll ds ≤ n
  | [], _ => by simp [PyData.depthAll]
  | d :: ds, h => by
    have := depthAll_le (n := n) (ds := ds) fun x hx => h x (List.mem_cons_of_mem _ hx)
    have h2 := h d (List.mem_cons_self)
    simp only [PyData.depthAll]
    omega
theorem canAll : ∀ {ds : List PyData}, (∀ d ∈ ds, PyData.canLay0 d = true) → PyData.canLayAll0 ds = true
  | [], _ => by simp only [PyData.canLayAll0]
  | d :: ds, h => by
    simp only [PyData.canLayAll0]
    rw [h d (List.mem_cons_self), canAll fun x hx => h x (List.mem_cons_of_mem _ hx)]
    rfl
def Shp (n : Nat) (d : PyData) : Prop := PyData.canLay0 d = true ∧ PyData.depth d ≤ n
theorem Shp.shaped {n : Nat} {d : PyData} (h : Shp n d) (hn : n ≤ 64) : SeqAt.shaped d = true := by
  show (PyData.canLay0 d && decide (PyData.depth d ≤ 64)) = true
  rw [h.1, decide_eq_true (Nat.le_trans h.2 hn)]
  rfl
theorem Shp.int (i : Int) : Shp 1 (.int i) := ⟨by simp only [PyData.canLay0], by simp only [PyData.depth]; omega⟩
theorem Shp.bool (i : Bool) : Shp 1 (.bool i) := ⟨by simp only [PyData.canLay0], by simp only [PyData.depth]; omega⟩
theorem Shp.str {i : Str} (h : i.cps.all (· < 0x110000) = true) : Shp 1 (.str i) := ⟨by simp only [PyData.canLay0]; exact h, by simp only [PyData.depth]; omega⟩
theorem Shp.mono {n m : Nat} {d : PyData} (h : Shp n d) (hn : n ≤ m) : Shp m d := ⟨h.1, Nat.le_trans h.2 hn⟩
theorem Shp.tup {n : Nat} {ds : List PyData} (h : ∀ d ∈ ds, Shp n d) : Shp (n + 1) (.tuple ds) :=
  ⟨by simp only [PyData.canLay0]; exact canAll fun d hd => (h d hd).1, by rw [depth_tup]; exact Nat.succ_le_succ (depthAll_le fun d hd => (h d hd).2)⟩
theorem Shp.lst {n : Nat} {ds : List PyData} (h : ∀ d ∈ ds, Shp n d) : Shp (n + 1) (.list ds) :=
  ⟨by simp only [PyData.canLay0]; exact canAll fun d hd => (h d hd).1, by rw [depth_lst]; exact Nat.succ_le_succ (depthAll_le fun d hd => (h d hd).2)⟩
theorem Shp.ints (ns : List Int) : Shp 2 (.tuple (ns.map PyData.int)) := Shp.tup fun d hd => by
  obtain ⟨i, _, rfl⟩ := List.mem_map.mp hd
  exact Shp.int i
theorem okTup (n : Nat) {ds : List PyData} (h : ds.length ≤ 1000) (g : ∀ d ∈ ds, okD n d) : okD (n + 1) (.tuple ds) := ⟨h, g⟩
theorem okLst (n : Nat) {ds : List PyData} (h : ds.length ≤ 1000) (g : ∀ d ∈ ds, okD n d) : okD (n + 1) (.list ds) := ⟨h, g⟩
theorem okInt (n : Nat) (i : Int) : okD n (.int i) := by cases n <;> trivial
theorem okBool (n : Nat) (i : Bool) : okD n (.bool i) := by cases n <;> trivial
theorem okStr (n : Nat) (i : Str) : okD n (.str i) := by cases n <;> trivial
theorem okIntsT (n : Nat) {ns : List Int} (h : ns.length ≤ 1000) : okD (n + 1) (.tuple (ns.map PyData.int)) := okTup n (by rw [List.length_map]; exact h) fun d hd => by
  obtain ⟨i, _, rfl⟩ := List.mem_map.mp hd
  exact okInt n i
theorem mem1 {α : Type} {P : α → Prop} {a : α} (h : P a) : ∀ x ∈ [a], P x := fun x hx => by rw [List.mem_singleton.mp hx]; exact h
theorem memC {α : Type} {P : α → Prop} {a : α} {l : List α} (h : P a) (g : ∀ x ∈ l, P x) : ∀ x ∈ a :: l, P x := fun x hx => by
  rcases List.mem_cons.mp hx with rfl | hx
  · exact h
  · exact g x hx
theorem mem0 {α : Type} {P : α → Prop} : ∀ x ∈ ([] : List α), P x := fun x hx => (List.not_mem_nil hx).elim
theorem iteY {c : Bool} {A B : Prop} (h : c = true) (a : A) : if c = true then A else B := by rw [if_pos h]; exact a
theorem iteN {c : Bool} {A B : Prop} (h : c = false) (b : B) : if c = true then A else B := by subst h; exact b
abbrev rInt1 : List V → Hp → VK → Prop := fun xs H Q => (∃ i, xs = [.int i] ∧ Q (.int i) H) ∨ ∃ k, xs = [.bl k] ∧ Q (.int (if k then 1 else 0)) H
theorem atH (x : V) (r : List V) : atI (x :: r) 0 = some x := at_of (j := 0) (by simp) rfl
theorem Bag.turnedX {K : PySem.W.Frag} {H H' : Hp} {B D c : Addr} {cs : List Int} (b : Bag K c cs (wo [D] H) B) (b' : Bag K c cs H' B) (e : Ex (wo [B] (wo [D] H)) (wo [B] (wo [D] H'))) : Bag K c cs (wo [D] H') B := by
  obtain ⟨i, s, k, h1, h2, h3, h4⟩ := b
  obtain ⟨i', s', k', h1', _, _, h4'⟩ := b'
  have nD : B ∉ [D] := fun z => by
    unfold wo at h1
    rw [if_pos z] at h1
    cases h1
  refine ⟨i', s', k', by rw [wo_get nD]; exact h1', ?_, h3, h4'⟩
  have o2 : ∀ x o, x ≠ B → wo [D] H x = some o → wo [D] H' x = some o := fun x o hx ho => by
    have := e x o (by rw [wo_get (by rw [List.mem_singleton]; exact hx)]; exact ho)
    rwa [wo_get (by rw [List.mem_singleton]; exact hx)] at this
  rcases h2 with (f | ⟨ob, f⟩) | f
  · refine .inl (.inl (o2 _ _ ?_ f))
    intro z
    subst z
    rw [h1] at f
    cases cs <;> simp at f
  · refine .inl (.inr ⟨ob, o2 _ _ ?_ f⟩)
    intro z
    subst z
    rw [h1] at f
    cases f
  · exact .inr f
/-- [e for i in range(n)], where e may change the objects of B; J is what holds of them; the new list is a list -/
theorem lcRB2 {ta : TA} {g : TG} {tt : TT} {te : TE} {vs : List Nat} {σ : L2.St} {H : Hp} {Q : VK} {n : Int} (i : Nat) (B : List Addr) (J : Hp → Prop) (P : Nat → V → Hp → Prop) (ht : ∀ R : List V → Hp → Prop, R [.int n] H → ta σ H R) (hn0 : 0 ≤ n) (hn : n ≤ 100000)
    (hP : ∀ j v H H', Ex H H' → P j v H → P j v H')
    (hw : ∀ x, wipe ((wipe σ vs).set i (some x)) vs = wipe σ vs) (hJ : J H)
    (he : ∀ (j : Nat) D H1 (Q1 : VK) acc, (j : Int) < n → H D = none → H1 D = some (.lst acc) → Ex (wo B H) (wo B (wo [D] H1)) → J (wo [D] H1) →
      (∀ v H2, H2 D = H1 D → Ex (wo B (wo [D] H1)) (wo B (wo [D] H2)) → J (wo [D] H2) → P j v (wo B (wo [D] H2)) → Q1 v H2) → te ((wipe σ vs).set i (some (.int (j : Nat)))) H1 Q1)
    (k : ∀ D H' ys, H D = none → Ex (wo B H) (wo B (wo [D] H')) → J (wo [D] H') → H' D = some (.lst ys) → Made n.toNat P ys (wo B (wo [D] H')) → Q (.ref D) H')
    (hg : g = gName i := by rfl) (htt : tt = tYes := by rfl) : tLc (iRng1 ta) g tt te vs σ H Q := by
  subst hg htt
  refine ht _ ⟨n, rfl, by omega, by omega, fun D hD => ?_⟩
  refine lc_range (lo := 0) (n := n.toNat) (fun j H' => Ex (wo B H) (wo B (wo [D] H')) ∧ J (wo [D] H') ∧ ∃ ys, H' D = some (.lst ys) ∧ Made j P ys (wo B (wo [D] H'))) ⟨?_, ?_, [], upd_same, rfl, fun j hj => absurd hj (Nat.not_lt_zero j)⟩ (fun j H' hj p => ?_) (fun H' p => ?_)
  · rw [wo_upd (List.mem_singleton.mpr rfl), wo_off hD]
    exact Same.refl _
  · rw [wo_upd (List.mem_singleton.mpr rfl), wo_off hD]
    exact hJ
  · obtain ⟨e, hj1, ys, hy, hm⟩ := p
    have e0 : (0 : Int) + (j : Nat) = (j : Nat) := Int.zero_add _
    rw [e0]
    refine ⟨hw _, ?_⟩
    simp only [tYes, if_true]
    refine he j D H' _ ys (by omega) hD hy e hj1 (fun v H2 hD2 e2 hj2 hv => ⟨ys, hD2.trans hy, ?_, ?_, ?_, ys ++ [v], upd_same, ?_⟩)
    · rw [hm.1]
      exact Nat.lt_of_lt_of_le (show j < 100000 by omega) (by decide)
    · rw [wo_upd (List.mem_singleton.mpr rfl)]
      exact e.trans e2
    · rw [wo_upd (List.mem_singleton.mpr rfl)]
      exact hj2
    · rw [wo_upd (List.mem_singleton.mpr rfl)]
      exact hm.more (fun j u hu => hP _ _ _ _ e2 hu) hv
  · obtain ⟨e, hj1, ys, hy, hm⟩ := p
    exact k D H' ys hD e hj1 hy hm
/-- an object that stands apart stays -/
theorem stay {B D : Addr} {H H' : Hp} {o : HO} (e : Ex (wo [B] H) (wo [B] H')) (hB : D ≠ B) (h : H D = some o) : H' D = some o := by
  have := e D o (by rw [wo_get (by rw [List.mem_singleton]; exact hB)]; exact h)
  rwa [wo_get (by rw [List.mem_singleton]; exact hB)] at this
/-- one turn of a comprehension by a call that turns the bag and makes data without lists -/
theorem turn_data {K : PySem.W.Frag} {B D c : Addr} {cs : List Int} {H3 H4 : Hp} {acc : List V} {v : V} {d : PyData} (DB : D ≠ B) (hD : H3 D = some (.lst acc)) (J : Bag K c cs (wo [D] H3) B) (bag : Bag K c cs H4 B) (e : Ex (wo [B] H3) (wo [B] H4))
    (n : noL d = true) (h : Dp K (wo [B] H4) v d) : H4 D = H3 D ∧ Ex (wo [B] (wo [D] H3)) (wo [B] (wo [D] H4)) ∧ Bag K c cs (wo [D] H4) B ∧ Dp K (wo [B] (wo [D] H4)) v d := by
  have h4 := stay e DB hD
  have key : Ex (wo [B] (wo [D] H3)) (wo [B] (wo [D] H4)) := by
    rw [wo_comm, wo_comm (H := H4)]
    exact e.wo
  refine ⟨h4.trans hD.symm, key, J.turnedX bag key, ?_⟩
  rw [wo_comm]
  exact Dp.offL (l := acc) (by rw [wo_get (by rw [List.mem_singleton]; exact DB)]; exact h4) d v n h
theorem up1 {a : V} : ([a] : List V).length ≤ sizeLine := (by decide : 1 ≤ sizeLine)
theorem up2 {a b : V} : ([a, b] : List V).length ≤ sizeLine := (by decide : 2 ≤ sizeLine)
theorem up3 {a b c : V} : ([a, b, c] : List V).length ≤ sizeLine := (by decide : 3 ≤ sizeLine)
theorem up4 {a b c d : V} : ([a, b, c, d] : List V).length ≤ sizeLine := (by decide : 4 ≤ sizeLine)
/-! ### displays evaluated whole -/
def EvD (K : PySem.W.Frag) (te : TE) (σ : L2.St) (d : PyData) : Prop := ∀ (H : Hp) (Q : VK), (∀ v H', Ex H H' → Dp K H' v d → Q v H') → te σ H Q
def EvDs (K : PySem.W.Frag) (ta : TA) (σ : L2.St) (ds : List PyData) : Prop := ∀ (H : Hp) (Q : List V → Hp → Prop), (∀ vs H', Ex H H' → DpAll K H' vs ds → Q vs H') → ta σ H Q
theorem evInt {K : PySem.W.Frag} {σ : L2.St} {i : Int} : EvD K (tC (.int i)) σ (.int i) := fun H Q q => q _ _ (Same.refl _) (.int i)
theorem evStr {K : PySem.W.Frag} {σ : L2.St} {i : Str} : EvD K (tC (.str i)) σ (.str i) := fun H Q q => q _ _ (Same.refl _) (.str i)
theorem evBl {K : PySem.W.Frag} {σ : L2.St} {i : Bool} : EvD K (tC (.bl i)) σ (.bool i) := fun H Q q => q _ _ (Same.refl _) (.bl i)
theorem evNil {K : PySem.W.Frag} {σ : L2.St} : EvDs K tNil σ [] := fun H Q q => q _ _ (Same.refl _) .nil
theorem evCons {K : PySem.W.Frag} {σ : L2.St} {te : TE} {ta : TA} {d : PyData} {ds : List PyData} (h : EvD K te σ d) (g : EvDs K ta σ ds) : EvDs K (tCons te ta) σ (d :: ds) := fun H Q q =>
  h H _ fun v H1 e1 d1 => g H1 _ fun vs H2 e2 d2 => q _ _ (Same.trans e1 e2) (.cons (Ex.dp e2 _ _ d1) d2)
theorem evTup {K : PySem.W.Frag} {σ : L2.St} {ta : TA} {ds : List PyData} (h : EvDs K ta σ ds) (hl : ds.length ≤ 1000) : EvD K (tTup ta) σ (.tuple ds) := fun H Q q =>
  h H _ fun vs H1 e1 d1 => ⟨Nat.le_trans (by rw [DpAll.len d1]; exact hl) (by decide : 1000 ≤ sizeLine), fun t ht => q _ _ (Same.trans e1 (Ex.new ht)) (Dp.newT ht d1)⟩
/-- a new list of data, that is ours -/
theorem evLst {K : PySem.W.Frag} {σ : L2.St} {ta : TA} {ds : List PyData} (h : EvDs K ta σ ds) (hl : ds.length ≤ 1000) {H : Hp} {Q : VK} (q : ∀ p xs H', H p = none → Ex H H' → H' p = some (.lst xs) → DpAll K H' xs ds → Q (.ref p) H') : tLst ta σ H Q :=
  h H _ fun vs H1 e1 d1 => ⟨Nat.le_trans (by rw [DpAll.len d1]; exact hl) (by decide : 1000 ≤ sizeLine), fun t ht => q _ _ _ (e1.free ht) (Same.trans e1 (Ex.new ht)) upd_same (Ex.dpAll (Ex.new ht) _ _ d1)⟩
/-- for .. in a list that a call makes -/
theorem forLC {K : PySem.W.Frag} {tl : TE} {g : TG} {tb : TS} {D : Ends} {σ : L2.St} {H : Hp} (S : Addr → List V → Hp → Prop) (Pv : Addr → List V → Nat → L2.St → Hp → Prop) (ht : ∀ R : VK, (∀ p xs H0, S p xs H0 → R (.ref p) H0) → tl σ H R) (hS : ∀ p xs H0, S p xs H0 → SqL K H0 p xs) (h0 : ∀ p xs H0, S p xs H0 → Pv p xs 0 σ H0)
    (hl : ∀ p xs j σ H, Pv p xs j σ H → SqL K H p xs) (hs : ∀ p xs j x σ H, xs[j]? = some x → Pv p xs j σ H → g x σ H fun σ2 H2 => tb { D with nx := Pv p xs (j + 1), ct := Pv p xs (j + 1), bk := D.nx } σ2 H2) (hd : ∀ p xs σ H, Pv p xs xs.length σ H → D.nx σ H) :
    tFor (iList K tl) g tb D σ H :=
  ht _ fun p xs H0 s => ⟨p, rfl, ⟨xs, hS p xs H0 s⟩, for_list (xs := xs) (Pv p xs) (h0 p xs H0 s) (fun j σ H _ q => hl p xs j σ H q) (fun j x σ H e q => hs p xs j x σ H e q) (hd p xs)⟩
theorem smallLen {n : Nat} (h : n ≤ 1000) : n ≤ sizeLine := Nat.le_trans h (by decide)
end My

namespace My
open PySem PySem.Spec PyProof.Rows L2
/-! ### in and not in a written dict, keys texts -/
structure KSet (K : PySem.W.Frag) (w : World) (d : Addr) (ks : List Str) : Prop where
  has : ∃ es n, K.lookup d = some ⟨.type "dict", none, .dict es n, #[]⟩ ∧ PySem.W.KeysLit w.params es.toList ∧ (d == sysModules) = false ∧ KeyOrd es.toList ks
theorem find_ord {x : Str} : ∀ {es : List DictEntry} {ks : List Str}, KeyOrd es ks → ((es.find? fun e => Value.isStrOf x e.key).map (·.val)).isSome = decide (x ∈ ks)
  | [], [], _ => by simp
  | e :: r, y :: ys, h => by
    obtain ⟨⟨t, h1⟩, h2⟩ := h
    have ih := find_ord (x := x) h2
    rw [List.find?_cons]
    have hk : Value.isStrOf x e.key = (y == x) := by rw [h1]; rfl
    rw [hk]
    by_cases c : y = x
    · subst c
      simp
    · have : (y == x) = false := by simpa using c
      rw [this]
      have c' : x ≠ y := fun z => c z.symm
      simp only [List.mem_cons, c', false_or]
      exact ih
  | [], _ :: _, h => h.elim
  | _ :: _, [], h => h.elim
def rInKD (K : PySem.W.Frag) (w : World) : R2 := fun x y H Q => ∃ p z ks, x = .str z ∧ y = .ref p ∧ KSet K w p ks ∧ Q (.bl (decide (z ∈ ks))) H
def rNotInKD (K : PySem.W.Frag) (w : World) : R2 := fun x y H Q => ∃ p z ks, x = .str z ∧ y = .ref p ∧ KSet K w p ks ∧ Q (.bl (!decide (z ∈ ks))) H
theorem op_inKD {X : Cx} : OpR X (compareOp .In) (rInKD X.K X.w) := by
  intro pins s σ H x y v u Q I rx ry h
  obtain ⟨p, z, ks, rfl, rfl, ⟨es, n, hl, hk, hs, ho⟩, q⟩ := h
  obtain rfl : u = Value.ref p := ry
  obtain ⟨t, rfl⟩ := rx
  have hm := PySem.W.mapOf_K (prog := X.prog) (w := X.w) I.kIn hl hk
  refine wpAny_in_of (strKind_is X.prog X.w z t) hs hm ?_
  have e : (findBy Value.isStrOf es z).isSome = decide (z ∈ ks) := by
    have := find_ord (x := z) ho
    unfold findBy
    obtain ⟨l⟩ := es
    rw [List.find?_toArray]
    exact this
  rw [e]
  exact ⟨.bl _, H, I.tok _, rfl, q⟩
theorem op_notInKD {X : Cx} : OpR X (compareOp .NotIn) (rNotInKD X.K X.w) := by
  intro pins s σ H x y v u Q I rx ry h
  obtain ⟨p, z, ks, rfl, rfl, ⟨es, n, hl, hk, hs, ho⟩, q⟩ := h
  obtain rfl : u = Value.ref p := ry
  obtain ⟨t, rfl⟩ := rx
  have hm := PySem.W.mapOf_K (prog := X.prog) (w := X.w) I.kIn hl hk
  refine wpAny_notIn_of (strKind_is X.prog X.w z t) hs hm ?_
  have e : (findBy Value.isStrOf es z).isSome = decide (z ∈ ks) := by
    have := find_ord (x := z) ho
    unfold findBy
    obtain ⟨l⟩ := es
    rw [List.find?_toArray]
    exact this
  rw [e]
  exact ⟨.bl _, H, I.tok _, rfl, q⟩
theorem KSet.kkeys {K : PySem.W.Frag} {w : World} {d : Addr} {ks : List Str} (h : KSet K w d ks) : KKeys K d ks := by
  obtain ⟨es, n, h1, _, h2, h3⟩ := h.has
  exact ⟨es, n, h1, h2, h3⟩
end My

namespace My
open PySem PySem.Spec PyProof.Rows L2
def topS (i : Nat) : Stmt := PySem.Challenge.pw_plugtree_k10_requests_as_bytes.main.body.getD i (.Pass ⟨0, 0, 0, 0⟩)
abbrev s_is_number : Stmt := topS 4
abbrev s_is_request : Stmt := topS 11
abbrev s_need_request : Stmt := topS 12
abbrev s_request_bytes : Stmt := topS 13
abbrev s_likely_request : Stmt := topS 14
abbrev s_read_request : Stmt := topS 15
abbrev s_asks : Stmt := topS 16
abbrev s__law_bag : Stmt := topS 18
abbrev s__law_pull : Stmt := topS 19
abbrev s__law_whole : Stmt := topS 20
abbrev s__law_same : Stmt := topS 21
abbrev s__law_one : Stmt := topS 22
abbrev s__law_forms : Stmt := topS 23
abbrev s__law_row : Stmt := topS 24
abbrev s__law_read : Stmt := topS 25
abbrev s__law_said : Stmt := topS 26
abbrev s_law : Stmt := topS 27
structure Ad where
  w : World
  f_is_number : Addr
  d_is_number : FuncData
  f_is_request : Addr
  d_is_request : FuncData
  f_need_request : Addr
  d_need_request : FuncData
  f_request_bytes : Addr
  d_request_bytes : FuncData
  f_likely_request : Addr
  d_likely_request : FuncData
  f_read_request : Addr
  d_read_request : FuncData
  f_asks : Addr
  d_asks : FuncData
  f__law_bag : Addr
  d__law_bag : FuncData
  f__law_pull : Addr
  d__law_pull : FuncData
  f__law_whole : Addr
  d__law_whole : FuncData
  f__law_same : Addr
  d__law_same : FuncData
  f__law_one : Addr
  d__law_one : FuncData
  f__law_forms : Addr
  d__law_forms : FuncData
  f__law_row : Addr
  d__law_row : FuncData
  f__law_read : Addr
  d__law_read : FuncData
  f__law_said : Addr
  d__law_said : FuncData
  f_law : Addr
  d_law : FuncData
  c_BusError : Addr
  c_BadRequest : Addr
  k_ROWS : Addr
  k_ROWS_0 : Addr
  k_ROWS_1 : Addr
  k_ROWS_2 : Addr
  k_ROWS_3 : Addr
  k_ROWS_4 : Addr
  k_ROWS_5 : Addr
  k_ROWS_6 : Addr
  k_ROWS_7 : Addr
  k_LENGTH : Tok
  k_PLACES : Addr
  k_HIGHEST : Addr
  k_ASKING : Addr
structure Txt (K : PySem.W.Frag) (mg : Str → Option Value) (a : Ad) : Prop where
  F_is_number : Fun K "is_number" "is_number" s_is_number a.f_is_number a.d_is_number
  g_is_number : mg "is_number" = some (.ref a.f_is_number)
  b_is_number : Binds K a.d_is_number ["value", "low", "high"] []
  F_is_request : Fun K "is_request" "is_request" s_is_request a.f_is_request a.d_is_request
  g_is_request : mg "is_request" = some (.ref a.f_is_request)
  b_is_request : Binds K a.d_is_request ["request"] []
  F_need_request : Fun K "need_request" "need_request" s_need_request a.f_need_request a.d_need_request
  g_need_request : mg "need_request" = some (.ref a.f_need_request)
  b_need_request : Binds K a.d_need_request ["request"] []
  F_request_bytes : Fun K "request_bytes" "request_bytes" s_request_bytes a.f_request_bytes a.d_request_bytes
  g_request_bytes : mg "request_bytes" = some (.ref a.f_request_bytes)
  b_request_bytes : Binds K a.d_request_bytes ["request"] []
  F_likely_request : Fun K "likely_request" "likely_request" s_likely_request a.f_likely_request a.d_likely_request
  g_likely_request : mg "likely_request" = some (.ref a.f_likely_request)
  b_likely_request : Binds K a.d_likely_request ["word", "row"] []
  F_read_request : Fun K "read_request" "read_request" s_read_request a.f_read_request a.d_read_request
  g_read_request : mg "read_request" = some (.ref a.f_read_request)
  b_read_request : Binds K a.d_read_request ["row"] []
  F_asks : Fun K "asks" "asks" s_asks a.f_asks a.d_asks
  g_asks : mg "asks" = some (.ref a.f_asks)
  b_asks : Binds K a.d_asks ["request"] []
  F__law_bag : Fun K "_law_bag" "_law_bag" s__law_bag a.f__law_bag a.d__law_bag
  g__law_bag : mg "_law_bag" = some (.ref a.f__law_bag)
  b__law_bag : Binds K a.d__law_bag ["_law_script"] []
  F__law_pull : Fun K "_law_pull" "_law_pull" s__law_pull a.f__law_pull a.d__law_pull
  g__law_pull : mg "_law_pull" = some (.ref a.f__law_pull)
  b__law_pull : Binds K a.d__law_pull ["_law_bag_here", "_law_upto"] []
  F__law_whole : Fun K "_law_whole" "_law_whole" s__law_whole a.f__law_whole a.d__law_whole
  g__law_whole : mg "_law_whole" = some (.ref a.f__law_whole)
  b__law_whole : Binds K a.d__law_whole ["_law_found"] []
  F__law_same : Fun K "_law_same" "_law_same" s__law_same a.f__law_same a.d__law_same
  g__law_same : mg "_law_same" = some (.ref a.f__law_same)
  b__law_same : Binds K a.d__law_same ["_law_found", "_law_due"] []
  F__law_one : Fun K "_law_one" "_law_one" s__law_one a.f__law_one a.d__law_one
  g__law_one : mg "_law_one" = some (.ref a.f__law_one)
  b__law_one : Binds K a.d__law_one ["_law_bag_here", "_law_row_here"] []
  F__law_forms : Fun K "_law_forms" "_law_forms" s__law_forms a.f__law_forms a.d__law_forms
  g__law_forms : mg "_law_forms" = some (.ref a.f__law_forms)
  b__law_forms : Binds K a.d__law_forms [] []
  F__law_row : Fun K "_law_row" "_law_row" s__law_row a.f__law_row a.d__law_row
  g__law_row : mg "_law_row" = some (.ref a.f__law_row)
  b__law_row : Binds K a.d__law_row ["_law_request"] []
  F__law_read : Fun K "_law_read" "_law_read" s__law_read a.f__law_read a.d__law_read
  g__law_read : mg "_law_read" = some (.ref a.f__law_read)
  b__law_read : Binds K a.d__law_read ["_law_row_here"] []
  F__law_said : Fun K "_law_said" "_law_said" s__law_said a.f__law_said a.d__law_said
  g__law_said : mg "_law_said" = some (.ref a.f__law_said)
  b__law_said : Binds K a.d__law_said ["_law_which", "_law_thing"] []
  F_law : Fun K "law" "law" s_law a.f_law a.d_law
  g_law : mg "law" = some (.ref a.f_law)
  b_law : Binds K a.d_law ["_law_script"] []
  gC_BusError : mg "BusError" = some (.ref a.c_BusError)
  gC_BadRequest : mg "BadRequest" = some (.ref a.c_BadRequest)
  xC_BadRequest : PySem.W.excIn K a.c_BadRequest [.type "ValueError", .type "Exception", .type "BaseException", .type "object"] "ValueError.__new__" = true
  kC_BadRequest : PySem.W.keepIn K (.ref a.c_BadRequest) = true
  bC_BadRequest : PySem.W.subIn K (.ref a.c_BadRequest) (.type "BaseException") = some true
  tC_BadRequest : PySem.W.typeIn K (.ref a.c_BadRequest) = some (.type "type")
  m_BadRequest_BusError : PySem.W.exmOne K (.ref a.c_BadRequest) (.ref a.c_BusError) = some true
  e_BadRequest : ExcC K a.c_BadRequest
  kit_BadRequest_BadRequest : PySem.W.kitOne K (.ref a.c_BadRequest) (.ref a.c_BadRequest) = some true
  g_ROWS : mg "ROWS" = some (.ref a.k_ROWS)
  t_ROWS : KSet K a.w a.k_ROWS [("device" : Str), ("settings" : Str), ("number" : Str), ("set" : Str), ("clear" : Str), ("port" : Str), ("reset" : Str), ("shut" : Str)]
  v_ROWS_0 : KDct K a.w a.k_ROWS ("device" : Str) (.ref a.k_ROWS_0)
  kt_ROWS_0 : KTup K a.k_ROWS_0 [.int 128, .int 6, .int 0, .int 1, .int 0, .int 0, .int 18, .int 0]
  v_ROWS_1 : KDct K a.w a.k_ROWS ("settings" : Str) (.ref a.k_ROWS_1)
  kt_ROWS_1 : KTup K a.k_ROWS_1 [.int 128, .int 6, .int 0, .int 2, .int 0, .int 0, .int 255, .int 0]
  v_ROWS_2 : KDct K a.w a.k_ROWS ("number" : Str) (.ref a.k_ROWS_2)
  kt_ROWS_2 : KTup K a.k_ROWS_2 [.int 0, .int 5, .int 0, .int 0, .int 0, .int 0, .int 0, .int 0]
  v_ROWS_3 : KDct K a.w a.k_ROWS ("set" : Str) (.ref a.k_ROWS_3)
  kt_ROWS_3 : KTup K a.k_ROWS_3 [.int 0, .int 9, .int 0, .int 0, .int 0, .int 0, .int 0, .int 0]
  v_ROWS_4 : KDct K a.w a.k_ROWS ("clear" : Str) (.ref a.k_ROWS_4)
  kt_ROWS_4 : KTup K a.k_ROWS_4 [.int 2, .int 1, .int 0, .int 0, .int 0, .int 0, .int 0, .int 0]
  v_ROWS_5 : KDct K a.w a.k_ROWS ("port" : Str) (.ref a.k_ROWS_5)
  kt_ROWS_5 : KTup K a.k_ROWS_5 [.int 163, .int 0, .int 0, .int 0, .int 0, .int 0, .int 2, .int 0]
  v_ROWS_6 : KDct K a.w a.k_ROWS ("reset" : Str) (.ref a.k_ROWS_6)
  kt_ROWS_6 : KTup K a.k_ROWS_6 [.int 35, .int 3, .int 4, .int 0, .int 0, .int 0, .int 0, .int 0]
  v_ROWS_7 : KDct K a.w a.k_ROWS ("shut" : Str) (.ref a.k_ROWS_7)
  kt_ROWS_7 : KTup K a.k_ROWS_7 [.int 35, .int 1, .int 1, .int 0, .int 0, .int 0, .int 0, .int 0]
  g_LENGTH : mg "LENGTH" = some (.int 8 a.k_LENGTH)
  g_PLACES : mg "PLACES" = some (.ref a.k_PLACES)
  t_PLACES : KSet K a.w a.k_PLACES [("number" : Str), ("set" : Str), ("clear" : Str), ("port" : Str), ("reset" : Str), ("shut" : Str)]
  v_PLACES_0 : KDct K a.w a.k_PLACES ("number" : Str) (.int 2)
  v_PLACES_1 : KDct K a.w a.k_PLACES ("set" : Str) (.int 2)
  v_PLACES_2 : KDct K a.w a.k_PLACES ("clear" : Str) (.int 4)
  v_PLACES_3 : KDct K a.w a.k_PLACES ("port" : Str) (.int 4)
  v_PLACES_4 : KDct K a.w a.k_PLACES ("reset" : Str) (.int 4)
  v_PLACES_5 : KDct K a.w a.k_PLACES ("shut" : Str) (.int 4)
  g_HIGHEST : mg "HIGHEST" = some (.ref a.k_HIGHEST)
  t_HIGHEST : KSet K a.w a.k_HIGHEST [("number" : Str), ("set" : Str), ("clear" : Str), ("port" : Str), ("reset" : Str), ("shut" : Str)]
  v_HIGHEST_0 : KDct K a.w a.k_HIGHEST ("number" : Str) (.int 15)
  v_HIGHEST_1 : KDct K a.w a.k_HIGHEST ("set" : Str) (.int 1)
  v_HIGHEST_2 : KDct K a.w a.k_HIGHEST ("clear" : Str) (.int 255)
  v_HIGHEST_3 : KDct K a.w a.k_HIGHEST ("port" : Str) (.int 4)
  v_HIGHEST_4 : KDct K a.w a.k_HIGHEST ("reset" : Str) (.int 4)
  v_HIGHEST_5 : KDct K a.w a.k_HIGHEST ("shut" : Str) (.int 4)
  g_ASKING : mg "ASKING" = some (.ref a.k_ASKING)
  t_ASKING : KTup K a.k_ASKING [.str ("device" : Str), .str ("settings" : Str), .str ("port" : Str)]
  n_all : mg "all" = none
  n_bool : mg "bool" = none
  n_int : mg "int" = none
  n_isinstance : mg "isinstance" = none
  n_len : mg "len" = none
  n_list : mg "list" = none
  n_range : mg "range" = none
  n_str : mg "str" = none
  n_tuple : mg "tuple" = none
/-! ### the promises -/
def sp_is_number (K : PySem.W.Frag) (_ : Ad) : Sp := fun vs H Q _ => ∃ (v : V) (d : PyData) (lo hi : Int), vs = [v, .int lo, .int hi] ∧ Dp K H v d ∧ (∀ b, d ≠ .bool b) ∧ Q (.bl (isNum d lo hi)) H
def sp__law_bag (K : PySem.W.Frag) (_ : Ad) : Sp := fun vs H Q _ => ∃ (p : Addr) (cs : List Int), vs = [.ref p] ∧ SqL K H p (cs.map V.int) ∧ cs.length ≤ 63 ∧ ∀ q c H', H q = none → Ex H H' → Bag K c cs H' q → Q (.ref q) H'
def sp__law_pull (K : PySem.W.Frag) (_ : Ad) : Sp := fun vs H Q _ => ∃ (p c : Addr) (cs : List Int) (u : Int), vs = [.ref p, .int u] ∧ Bag K c cs H p ∧ 0 < u ∧ u < 2 ^ 1000 ∧
  ∀ r H', 0 ≤ r → r < u → Bag K c cs H' p → (∀ b, b ≠ p → H' b = H b) → Q (.int r) H'
def sp__law_whole (K : PySem.W.Frag) (_ : Ad) : Sp := fun vs H Q _ => ∃ (v : V) (d : PyData), vs = [v] ∧ Dp K H v d ∧ Q (.bl (isInt d)) H
def sp_same (n : Nat) (K : PySem.W.Frag) : Sp := fun vs H Q _ => ∃ (v w : V) (d : PyData), vs = [v, w] ∧ Dp K H v d ∧ Dp K H w d ∧ okD n d ∧ ∀ H', Ex H H' → Q (.bl true) H'
def sp__law_same (K : PySem.W.Frag) (_ : Ad) : Sp := sp_same 4 K
def spLaw (K : PySem.W.Frag) : Sp := fun vs H Q _ => ∃ (p : Addr) (cs : List Int), vs = [.ref p] ∧ SqL K H p (cs.map V.int) ∧ cs.length ≤ 63 ∧ ∀ H', Q (.bl true) H'
def sp_law (K : PySem.W.Frag) (_ : Ad) : Sp := spLaw K
def sp__law_one (K : PySem.W.Frag) (_ : Ad) : Sp := fun vs H Q _ => ∃ (p c : Addr) (cs : List Int) (q : Addr) (xs : List V), vs = [.ref p, .ref q] ∧ Bag K c cs H p ∧ SqL K (wo [p] H) q xs ∧ 0 < xs.length ∧ xs.length ≤ 1000 ∧
  ∀ x H', x ∈ xs → Bag K c cs H' p → (∀ b, b ≠ p → H' b = H b) → Q x H'
structure Fm where
  w : Str
  most : Int
  row : List Int
  place : Int
  deriving DecidableEq
def formsL : List Fm := [⟨"device", 0, [128, 6, 0, 1, 0, 0, 18, 0], 0⟩, ⟨"settings", 0, [128, 6, 0, 2, 0, 0, 255, 0], 0⟩, ⟨"number", 15, [0, 5, 0, 0, 0, 0, 0, 0], 2⟩, ⟨"set", 1, [0, 9, 0, 0, 0, 0, 0, 0], 2⟩,
  ⟨"clear", 255, [2, 1, 0, 0, 0, 0, 0, 0], 4⟩, ⟨"port", 4, [163, 0, 0, 0, 0, 0, 2, 0], 4⟩, ⟨"reset", 4, [35, 3, 4, 0, 0, 0, 0, 0], 4⟩, ⟨"shut", 4, [35, 1, 1, 0, 0, 0, 0, 0], 4⟩]
def Fm.d (f : Fm) : PyData := .tuple [.str f.w, .int f.most, .tuple (f.row.map PyData.int), .int f.place]
def rqD (w : Str) (ns : List Int) : PyData := .tuple (.str w :: ns.map PyData.int)
/-- a row with one number put in -/
def putR (f : Fm) (n : Int) : List Int := f.row.take f.place.toNat ++ [n] ++ f.row.drop (f.place.toNat + 1)
def stepOf (f : Fm) (w : Str) (ns : List Int) : Option (List Int) :=
  if f.w = w then (match ns with
    | [] => if f.place = 0 then some f.row else none
    | [n] => if f.place = 0 then none else if 0 ≤ n ∧ n ≤ f.most then some (putR f n) else none
    | _ => none) else none
def rowOf (w : Str) (ns : List Int) : Option (List Int) := formsL.findSome? fun f => stepOf f w ns
def likelyF (f : Fm) (row : List Int) : List Int := if f.place = 0 then [] else [row.getD f.place.toNat 0]
def readF (row : List Int) (f : Fm) : Option (Str × List Int) := if rowOf f.w (likelyF f row) = some row then some (f.w, likelyF f row) else none
def readOf (row : List Int) : Option (Str × List Int) := if row.length = 8 then formsL.findSome? (readF row) else none
def askW : List Str := ["device", "settings", "port"]
def rowsW : List Str := ["device", "settings", "number", "set", "clear", "port", "reset", "shut"]
def placeW : List Str := ["number", "set", "clear", "port", "reset", "shut"]
def rowD : Option (List Int) → PyData
  | none => .str "bad"
  | some r => .tuple (r.map PyData.int)
def readD : Option (Str × List Int) → PyData
  | none => .str "bad"
  | some (w, ns) => rqD w ns
def sp_is_request (K : PySem.W.Frag) (_ : Ad) : Sp := fun vs H Q _ => ∃ (v : V) (w : Str) (ns : List Int), vs = [v] ∧ Dp K H v (rqD w ns) ∧ Q (.bl (rowOf w ns).isSome) H
def sp_need_request (K : PySem.W.Frag) (a : Ad) : Sp := fun vs H Q E => ∃ (v : V) (w : Str) (ns : List Int), vs = [v] ∧ Dp K H v (rqD w ns) ∧ ((rowOf w ns).isSome = true → Q .non H) ∧ ((rowOf w ns).isSome = false → E (.ref a.c_BadRequest) none H)
def sp_request_bytes (K : PySem.W.Frag) (a : Ad) : Sp := fun vs H Q E => ∃ (v : V) (w : Str) (ns : List Int), vs = [v] ∧ Dp K H v (rqD w ns) ∧ (∀ r, rowOf w ns = some r → ∀ t H', Ex H H' → SqT K H' t (r.map V.int) → Q (.ref t) H') ∧ (rowOf w ns = none → E (.ref a.c_BadRequest) none H)
def sp_likely_request (K : PySem.W.Frag) (_ : Ad) : Sp := fun vs H Q _ => ∃ (f : Fm) (p : Addr) (row : List Int), vs = [.str f.w, .ref p] ∧ f ∈ formsL ∧ SqT K H p (row.map V.int) ∧ row.length = 8 ∧ ∀ v H', Ex H H' → Dp K H' v (rqD f.w (likelyF f row)) → Q v H'
def sp_read_request (K : PySem.W.Frag) (a : Ad) : Sp := fun vs H Q E => ∃ (p : Addr) (row : List Int), vs = [.ref p] ∧ SqT K H p (row.map V.int) ∧ (∀ w ns, readOf row = some (w, ns) → ∀ v H', Ex H H' → Dp K H' v (rqD w ns) → Q v H') ∧ (readOf row = none → ∀ H', Ex H H' → E (.ref a.c_BadRequest) none H')
def sp_asks (K : PySem.W.Frag) (a : Ad) : Sp := fun vs H Q E => ∃ (v : V) (w : Str) (ns : List Int), vs = [v] ∧ Dp K H v (rqD w ns) ∧ ((rowOf w ns).isSome = true → Q (.bl (decide (w ∈ askW))) H) ∧ ((rowOf w ns).isSome = false → E (.ref a.c_BadRequest) none H)
def sp__law_forms (K : PySem.W.Frag) (_ : Ad) : Sp := fun vs H Q _ => vs = [] ∧ ∀ p xs H', Ex H H' → H p = none → SqL K H' p xs → DpAll K H' xs (formsL.map Fm.d) → Q (.ref p) H'
def sp__law_row (K : PySem.W.Frag) (_ : Ad) : Sp := fun vs H Q _ => ∃ (v : V) (w : Str) (ns : List Int), vs = [v] ∧ Dp K H v (rqD w ns) ∧ ∀ v' H', Ex H H' → Dp K H' v' (rowD (rowOf w ns)) → Q v' H'
def sp__law_read (K : PySem.W.Frag) (_ : Ad) : Sp := fun vs H Q _ => ∃ (p : Addr) (row : List Int), vs = [.ref p] ∧ SqT K H p (row.map V.int) ∧ ∀ v' H', Ex H H' → Dp K H' v' (readD (readOf row)) → Q v' H'
def saidD (w : Str) (ns : List Int) : PyData := if (rowOf w ns).isSome = true then .bool (decide (w ∈ askW)) else .str "bad"
def sp__law_said (K : PySem.W.Frag) (_ : Ad) : Sp := fun vs H Q _ => (∃ (v : V) (w : Str) (ns : List Int), vs = [.int 0, v] ∧ Dp K H v (rqD w ns) ∧ ∀ v' H', Ex H H' → Dp K H' v' (rowD (rowOf w ns)) → Q v' H') ∨
  (∃ (v : V) (w : Str) (ns : List Int), vs = [.int 2, v] ∧ Dp K H v (rqD w ns) ∧ ∀ v' H', Ex H H' → Dp K H' v' (saidD w ns) → Q v' H') ∨
  (∃ (p : Addr) (row : List Int), vs = [.int 1, .ref p] ∧ SqT K H p (row.map V.int) ∧ ∀ v' H', Ex H H' → Dp K H' v' (readD (readOf row)) → Q v' H')
/-! ### is_number -/
abbrev N_is_number : List Str := ["value", "low", "high"]
abbrev P_is_number : List Str := ["value", "low", "high"]
theorem sc_is_number : FnScope N_is_number P_is_number (defScope s_is_number) := ⟨rfl, rfl, rfl, by decide +kernel, rfl, by decide +kernel, by decide +kernel⟩
def t_is_number (K : PySem.W.Frag) (a : Ad) : TS :=
    (tRet (tAndV (tCB (rIsi K) (tCons (tVar 0) (tCons (tC (.ty "int")) tNil))) (tChain rLeI rLeI (tVar 1) (tVar 0) (tVar 2))))
/-! ### is_request -/
abbrev N_is_request : List Str := ["request", "word"]
abbrev P_is_request : List Str := ["request"]
theorem sc_is_request : FnScope N_is_request P_is_request (defScope s_is_request) := ⟨rfl, rfl, rfl, by decide +kernel, rfl, by decide +kernel, by decide +kernel⟩
def t_is_request (K : PySem.W.Frag) (a : Ad) : TS :=
    (tSeq (tIfS (tOr (tTest (tOp rEq (tCB (rLenQ K) (tCons (tVar 0) tNil)) (tC (.int 0)))) (tOr (tNot (tB (tCB (rIsi K) (tCons (tOp (rIxT K) (tVar 0) (tC (.int 0))) (tCons (tC (.ty "str")) tNil))))) (tTest (tOp (rNotInKD K a.w) (tOp (rIxT K) (tVar 0) (tC (.int 0))) (tC (.ref a.k_ROWS)))))) (tRet (tC (.bl false))) tNext)
    (tSeq (tAsg (tOp (rIxT K) (tVar 0) (tC (.int 0))) (gName 1))
    (tSeq (tIfS (tTest (tOp (rNotInKD K a.w) (tVar 1) (tC (.ref a.k_PLACES)))) (tRet (tOp rEq (tCB (rLenQ K) (tCons (tVar 0) tNil)) (tC (.int 1)))) tNext)
    (tRet (tAndV (tOp rEq (tCB (rLenQ K) (tCons (tVar 0) tNil)) (tC (.int 2))) (tCall (sp_is_number K a) [] E0 (tCons (tOp (rIxT K) (tVar 0) (tC (.int 1))) (tCons (tC (.int 0)) (tCons (tOp (rIxD K a.w) (tC (.ref a.k_HIGHEST)) (tVar 1)) tNil)))))))))
/-! ### need_request -/
abbrev N_need_request : List Str := ["request"]
abbrev P_need_request : List Str := ["request"]
theorem sc_need_request : FnScope N_need_request P_need_request (defScope s_need_request) := ⟨rfl, rfl, rfl, by decide +kernel, rfl, by decide +kernel, by decide +kernel⟩
def t_need_request (K : PySem.W.Frag) (a : Ad) (E : XK) : TS :=
    (tIfS (tNot (tB (tCall (sp_is_request K a) [] E0 (tCons (tVar 0) tNil)))) (tRaiseC a.c_BadRequest E) tNext)
/-! ### request_bytes -/
abbrev N_request_bytes : List Str := ["request", "word", "row"]
abbrev P_request_bytes : List Str := ["request"]
theorem sc_request_bytes : FnScope N_request_bytes P_request_bytes (defScope s_request_bytes) := ⟨rfl, rfl, rfl, by decide +kernel, rfl, by decide +kernel, by decide +kernel⟩
def t_request_bytes (K : PySem.W.Frag) (a : Ad) (E : XK) : TS :=
    (tSeq (tDrop (tCall (sp_need_request K a) [] E (tCons (tVar 0) tNil)))
    (tSeq (tAsg (tOp (rIxT K) (tVar 0) (tC (.int 0))) (gName 1))
    (tSeq (tAsg (tCB (rListOf K) (tCons (tOp (rIxD K a.w) (tC (.ref a.k_ROWS)) (tVar 1)) tNil)) (gName 2))
    (tSeq (tIfS (tTest (tOp (rInKD K a.w) (tVar 1) (tC (.ref a.k_PLACES)))) (tAsg (tOp (rIxT K) (tVar 0) (tC (.int 1))) (gSub (tVar 2) (tOp (rIxD K a.w) (tC (.ref a.k_PLACES)) (tVar 1)) rSetL)) tNext)
    (tRet (tCB (rTupleOf K) (tCons (tVar 2) tNil)))))))
/-! ### likely_request -/
abbrev N_likely_request : List Str := ["word", "row"]
abbrev P_likely_request : List Str := ["word", "row"]
theorem sc_likely_request : FnScope N_likely_request P_likely_request (defScope s_likely_request) := ⟨rfl, rfl, rfl, by decide +kernel, rfl, by decide +kernel, by decide +kernel⟩
def t_likely_request (K : PySem.W.Frag) (a : Ad) : TS :=
    (tSeq (tIfS (tTest (tOp (rInKD K a.w) (tVar 0) (tC (.ref a.k_PLACES)))) (tRet (tTup (tCons (tVar 0) (tCons (tOp (rIxT K) (tVar 1) (tOp (rIxD K a.w) (tC (.ref a.k_PLACES)) (tVar 0))) tNil)))) tNext)
    (tRet (tTup (tCons (tVar 0) tNil))))
/-! ### read_request -/
abbrev N_read_request : List Str := ["row", "word", "request"]
abbrev P_read_request : List Str := ["row"]
theorem sc_read_request : FnScope N_read_request P_read_request (defScope s_read_request) := ⟨rfl, rfl, rfl, by decide +kernel, rfl, by decide +kernel, by decide +kernel⟩
def t_read_request (K : PySem.W.Frag) (a : Ad) (E : XK) : TS :=
    (tSeq (tIfS (tTest (tOp rEq (tCB (rLenQ K) (tCons (tVar 0) tNil)) (tC (.int 8)))) (tFor (iKKeys K (tC (.ref a.k_ROWS))) (gName 1) (tSeq (tAsg (tCall (sp_likely_request K a) [] E0 (tCons (tVar 1) (tCons (tVar 0) tNil))) (gName 2))
    (tIfS (tAnd (tB (tCall (sp_is_request K a) [] E0 (tCons (tVar 2) tNil))) (tTest (tOp (rEqD K) (tCall (sp_request_bytes K a) [] E (tCons (tVar 2) tNil)) (tVar 0)))) (tRet (tVar 2)) tNext))) tNext)
    (tRaiseC a.c_BadRequest E))
/-! ### asks -/
abbrev N_asks : List Str := ["request"]
abbrev P_asks : List Str := ["request"]
theorem sc_asks : FnScope N_asks P_asks (defScope s_asks) := ⟨rfl, rfl, rfl, by decide +kernel, rfl, by decide +kernel, by decide +kernel⟩
def t_asks (K : PySem.W.Frag) (a : Ad) (E : XK) : TS :=
    (tSeq (tDrop (tCall (sp_need_request K a) [] E (tCons (tVar 0) tNil)))
    (tRet (tOp (rIn K false) (tOp (rIxT K) (tVar 0) (tC (.int 0))) (tC (.ref a.k_ASKING)))))
/-! ### _law_bag -/
abbrev N__law_bag : List Str := ["_law_script", "_law_cells", "_law_knot", "_law_cell"]
abbrev P__law_bag : List Str := ["_law_script"]
theorem sc__law_bag : FnScope N__law_bag P__law_bag (defScope s__law_bag) := ⟨rfl, rfl, rfl, by decide +kernel, rfl, by decide +kernel, by decide +kernel⟩
def t__law_bag (K : PySem.W.Frag) (a : Ad) : TS :=
    (tSeq (tAsg (tCB (rListOf K) (tCons (tSl (rSlL K) (tVar 0) tNoPart (tPart (tC (.int 63)))) tNil)) (gName 1))
    (tSeq (tAsg (tOp rAddI (tC (.int 17)) (tCB (rLenQ K) (tCons (tVar 1) tNil))) (gName 2))
    (tSeq (tFor (iList K (tVar 1)) (gName 3) (tAsg (tOp rModI (tOp rAddI (tOp rMulI (tVar 2) (tC (.int 1543))) (tVar 3)) (tC (.int 2147483629))) (gName 2)))
    (tRet (tLst (tCons (tVar 1) (tCons (tC (.int 0)) (tCons (tC (.int 0)) (tCons (tVar 2) tNil)))))))))
/-! ### _law_pull -/
abbrev N__law_pull : List Str := ["_law_bag_here", "_law_upto", "_law_seed", "_law_fold", "_law_twist", "_law_drawn"]
abbrev P__law_pull : List Str := ["_law_bag_here", "_law_upto"]
theorem sc__law_pull : FnScope N__law_pull P__law_pull (defScope s__law_pull) := ⟨rfl, rfl, rfl, by decide +kernel, rfl, by decide +kernel, by decide +kernel⟩
def t__law_pull (K : PySem.W.Frag) (a : Ad) : TS :=
    (tSeq (tIfS (tTest (tOp rLtI (tOp (rIxL K) (tVar 0) (tC (.int 2))) (tC (.int 2)))) (tSeq (tAsg (tOp rAddI (tOp (rIxL K) (tVar 0) (tC (.int 1))) (tC (.int 1))) (gSub (tVar 0) (tC (.int 1)) rSetL))
    (tSeq (tAsg (tOp rAddI (tOp (rIxL K) (tVar 0) (tC (.int 3))) (tOp rMulI (tOp (rIxL K) (tVar 0) (tC (.int 1))) (tC (.int 7919)))) (gName 2))
    (tSeq (tIfS (tTest (tOp rLeI (tOp (rIxL K) (tVar 0) (tC (.int 1))) (tCB (rLenQ K) (tCons (tOp (rIxL K) (tVar 0) (tC (.int 0))) tNil)))) (tAsg (tOp (rIxL K) (tOp (rIxL K) (tVar 0) (tC (.int 0))) (tOp rSubI (tOp (rIxL K) (tVar 0) (tC (.int 1))) (tC (.int 1)))) (gName 2)) tNext)
    (tSeq (tIfS (tOr (tTest (tOp rGtI (tOp (rIxL K) (tVar 0) (tC (.int 1))) (tCB (rLenQ K) (tCons (tOp (rIxL K) (tVar 0) (tC (.int 0))) tNil)))) (tTest (tOp rLtI (tVar 2) (tOp rPowI (tC (.int 10)) (tC (.int 18)))))) (tSeq (tAsg (tOp rModI (tOp rAddI (tOp rAddI (tOp rMulI (tVar 2) (tC (.int 48271))) (tOp rMulI (tOp (rIxL K) (tVar 0) (tC (.int 1))) (tC (.int 40692)))) (tOp (rIxL K) (tVar 0) (tC (.int 3)))) (tC (.int 2147483647))) (gName 3))
    (tSeq (tAsg (tOp rModI (tOp rAddI (tOp rMulI (tVar 3) (tVar 3)) (tOp (rIxL K) (tVar 0) (tC (.int 1)))) (tC (.int 998244353))) (gName 4))
    (tRet (tOp rModI (tOp rDivW (tOp rModI (tOp rAddI (tOp rMulI (tVar 4) (tC (.int 69621))) (tVar 3)) (tC (.int 2147483629))) (tC (.int 7))) (tVar 1))))) tNext)
    (tAsg (tVar 2) (gSub (tVar 0) (tC (.int 2)) rSetL)))))) tNext)
    (tSeq (tAsg (tOp rModI (tOp (rIxL K) (tVar 0) (tC (.int 2))) (tVar 1)) (gName 5))
    (tSeq (tAsg (tOp rDivW (tOp (rIxL K) (tVar 0) (tC (.int 2))) (tVar 1)) (gSub (tVar 0) (tC (.int 2)) rSetL))
    (tRet (tVar 5)))))
/-! ### _law_whole -/
abbrev N__law_whole : List Str := ["_law_found"]
abbrev P__law_whole : List Str := ["_law_found"]
theorem sc__law_whole : FnScope N__law_whole P__law_whole (defScope s__law_whole) := ⟨rfl, rfl, rfl, by decide +kernel, rfl, by decide +kernel, by decide +kernel⟩
def t__law_whole (K : PySem.W.Frag) (a : Ad) : TS :=
    (tRet (tAndV (tCB (rIsi K) (tCons (tVar 0) (tCons (tC (.ty "int")) tNil))) (tNotV (tCB (rIsi K) (tCons (tVar 0) (tCons (tC (.ty "bool")) tNil))))))
/-! ### _law_same -/
abbrev N__law_same : List Str := ["_law_found", "_law_due", "_law_spot"]
abbrev P__law_same : List Str := ["_law_found", "_law_due"]
theorem sc__law_same : FnScope N__law_same P__law_same (defScope s__law_same) := ⟨rfl, rfl, rfl, by decide +kernel, rfl, by decide +kernel, by decide +kernel⟩
def t__law_same (K : PySem.W.Frag) (a : Ad) (spR : Sp) : TS :=
    (tSeq (tIfS (tTest (tOp rIsN (tVar 1) (tC .non))) (tRet (tOp rIsN (tVar 0) (tC .non))) tNext)
    (tSeq (tIfS (tB (tCB (rIsi K) (tCons (tVar 1) (tCons (tC (.ty "bool")) tNil)))) (tRet (tAndV (tCB (rIsi K) (tCons (tVar 0) (tCons (tC (.ty "bool")) tNil))) (tOp rEq (tVar 0) (tVar 1)))) tNext)
    (tSeq (tIfS (tB (tCB (rIsi K) (tCons (tVar 1) (tCons (tC (.ty "int")) tNil)))) (tRet (tAndV (tCall (sp__law_whole K a) [] E0 (tCons (tVar 0) tNil)) (tOp rEq (tVar 0) (tVar 1)))) tNext)
    (tSeq (tIfS (tB (tCB (rIsi K) (tCons (tVar 1) (tCons (tC (.ty "str")) tNil)))) (tRet (tAndV (tCB (rIsi K) (tCons (tVar 0) (tCons (tC (.ty "str")) tNil))) (tOp rEq (tVar 0) (tVar 1)))) tNext)
    (tSeq (tIfS (tOr (tTest (tOp rNe (tCB (rIsi K) (tCons (tVar 1) (tCons (tC (.ty "list")) tNil))) (tCB (rIsi K) (tCons (tVar 0) (tCons (tC (.ty "list")) tNil))))) (tTest (tOp rNe (tCB (rIsi K) (tCons (tVar 1) (tCons (tC (.ty "tuple")) tNil))) (tCB (rIsi K) (tCons (tVar 0) (tCons (tC (.ty "tuple")) tNil)))))) (tRet (tC (.bl false))) tNext)
    (tSeq (tIfS (tTest (tOp rNe (tCB (rLenQ K) (tCons (tVar 0) tNil)) (tCB (rLenQ K) (tCons (tVar 1) tNil)))) (tRet (tC (.bl false))) tNext)
    (tRet (tCB (rAll K) (tCons (tLc (iRng1 (tCons (tCB (rLenQ K) (tCons (tVar 1) tNil)) tNil)) (gName 2) tYes (tCall spR [] E0 (tCons (tOp (rIx K) (tVar 0) (tVar 2)) (tCons (tOp (rIx K) (tVar 1) (tVar 2)) tNil))) [2]) tNil)))))))))
/-! ### _law_one -/
abbrev N__law_one : List Str := ["_law_bag_here", "_law_row_here"]
abbrev P__law_one : List Str := ["_law_bag_here", "_law_row_here"]
theorem sc__law_one : FnScope N__law_one P__law_one (defScope s__law_one) := ⟨rfl, rfl, rfl, by decide +kernel, rfl, by decide +kernel, by decide +kernel⟩
def t__law_one (K : PySem.W.Frag) (a : Ad) : TS :=
    (tRet (tOp (rIxL K) (tVar 1) (tCall (sp__law_pull K a) [] E0 (tCons (tVar 0) (tCons (tCB (rLenQ K) (tCons (tVar 1) tNil)) tNil)))))
/-! ### _law_forms -/
abbrev N__law_forms : List Str := ["_law_found"]
abbrev P__law_forms : List Str := []
theorem sc__law_forms : FnScope N__law_forms P__law_forms (defScope s__law_forms) := ⟨rfl, rfl, rfl, by decide +kernel, rfl, by decide +kernel, by decide +kernel⟩
def t__law_forms (K : PySem.W.Frag) (a : Ad) : TS :=
    (tSeq (tAsg (tLst (tCons (tTup (tCons (tC (.str ("device" : Str))) (tCons (tC (.int 0)) (tCons (tTup (tCons (tC (.int 128)) (tCons (tC (.int 6)) (tCons (tC (.int 0)) (tCons (tC (.int 1)) (tCons (tC (.int 0)) (tCons (tC (.int 0)) (tCons (tC (.int 18)) (tCons (tC (.int 0)) tNil))))))))) (tCons (tC (.int 0)) tNil))))) (tCons (tTup (tCons (tC (.str ("settings" : Str))) (tCons (tC (.int 0)) (tCons (tTup (tCons (tC (.int 128)) (tCons (tC (.int 6)) (tCons (tC (.int 0)) (tCons (tC (.int 2)) (tCons (tC (.int 0)) (tCons (tC (.int 0)) (tCons (tC (.int 255)) (tCons (tC (.int 0)) tNil))))))))) (tCons (tC (.int 0)) tNil))))) tNil))) (gName 0))
    (tSeq (tAsg (tOp rCat (tVar 0) (tLst (tCons (tTup (tCons (tC (.str ("number" : Str))) (tCons (tC (.int 15)) (tCons (tTup (tCons (tC (.int 0)) (tCons (tC (.int 5)) (tCons (tC (.int 0)) (tCons (tC (.int 0)) (tCons (tC (.int 0)) (tCons (tC (.int 0)) (tCons (tC (.int 0)) (tCons (tC (.int 0)) tNil))))))))) (tCons (tC (.int 2)) tNil))))) (tCons (tTup (tCons (tC (.str ("set" : Str))) (tCons (tC (.int 1)) (tCons (tTup (tCons (tC (.int 0)) (tCons (tC (.int 9)) (tCons (tC (.int 0)) (tCons (tC (.int 0)) (tCons (tC (.int 0)) (tCons (tC (.int 0)) (tCons (tC (.int 0)) (tCons (tC (.int 0)) tNil))))))))) (tCons (tC (.int 2)) tNil))))) tNil)))) (gName 0))
    (tSeq (tAsg (tOp rCat (tVar 0) (tLst (tCons (tTup (tCons (tC (.str ("clear" : Str))) (tCons (tC (.int 255)) (tCons (tTup (tCons (tC (.int 2)) (tCons (tC (.int 1)) (tCons (tC (.int 0)) (tCons (tC (.int 0)) (tCons (tC (.int 0)) (tCons (tC (.int 0)) (tCons (tC (.int 0)) (tCons (tC (.int 0)) tNil))))))))) (tCons (tC (.int 4)) tNil))))) (tCons (tTup (tCons (tC (.str ("port" : Str))) (tCons (tC (.int 4)) (tCons (tTup (tCons (tC (.int 163)) (tCons (tC (.int 0)) (tCons (tC (.int 0)) (tCons (tC (.int 0)) (tCons (tC (.int 0)) (tCons (tC (.int 0)) (tCons (tC (.int 2)) (tCons (tC (.int 0)) tNil))))))))) (tCons (tC (.int 4)) tNil))))) tNil)))) (gName 0))
    (tRet (tOp rCat (tVar 0) (tLst (tCons (tTup (tCons (tC (.str ("reset" : Str))) (tCons (tC (.int 4)) (tCons (tTup (tCons (tC (.int 35)) (tCons (tC (.int 3)) (tCons (tC (.int 4)) (tCons (tC (.int 0)) (tCons (tC (.int 0)) (tCons (tC (.int 0)) (tCons (tC (.int 0)) (tCons (tC (.int 0)) tNil))))))))) (tCons (tC (.int 4)) tNil))))) (tCons (tTup (tCons (tC (.str ("shut" : Str))) (tCons (tC (.int 4)) (tCons (tTup (tCons (tC (.int 35)) (tCons (tC (.int 1)) (tCons (tC (.int 1)) (tCons (tC (.int 0)) (tCons (tC (.int 0)) (tCons (tC (.int 0)) (tCons (tC (.int 0)) (tCons (tC (.int 0)) tNil))))))))) (tCons (tC (.int 4)) tNil))))) tNil))))))))
/-! ### _law_row -/
abbrev N__law_row : List Str := ["_law_request", "_law_word", "_law_most", "_law_row_here", "_law_place"]
abbrev P__law_row : List Str := ["_law_request"]
theorem sc__law_row : FnScope N__law_row P__law_row (defScope s__law_row) := ⟨rfl, rfl, rfl, by decide +kernel, rfl, by decide +kernel, by decide +kernel⟩
def t__law_row (K : PySem.W.Frag) (a : Ad) : TS :=
    (tSeq (tFor (iList K (tCall (sp__law_forms K a) [] E0 tNil)) (gTup K 4 (gCons (gName 1) (gCons (gName 2) (gCons (gName 3) (gCons (gName 4) gNil))))) (tIfS (tAnd (tTest (tOp rEq (tVar 1) (tOp (rIxT K) (tVar 0) (tC (.int 0))))) (tTest (tOp rEq (tCB (rLenQ K) (tCons (tVar 0) tNil)) (tOp rAddI (tC (.int 1)) (tCB rInt1 (tCons (tOp rGtI (tVar 4) (tC (.int 0))) tNil)))))) (tSeq (tIfS (tTest (tOp rEq (tVar 4) (tC (.int 0)))) (tRet (tVar 3)) tNext)
    (tIfS (tTest (tChain rLeI rLeI (tC (.int 0)) (tOp (rIxT K) (tVar 0) (tC (.int 1))) (tVar 2))) (tRet (tOp (rCatA K) (tOp (rCatA K) (tSl (rSlA K) (tVar 3) tNoPart (tPart (tVar 4))) (tTup (tCons (tOp (rIxT K) (tVar 0) (tC (.int 1))) tNil))) (tSl (rSlA K) (tVar 3) (tPart (tOp rAddI (tVar 4) (tC (.int 1)))) tNoPart))) tNext)) tNext))
    (tRet (tC (.str ("bad" : Str)))))
/-! ### _law_read -/
abbrev N__law_read : List Str := ["_law_row_here", "_law_word", "_law_most", "_law_form", "_law_place", "_law_request"]
abbrev P__law_read : List Str := ["_law_row_here"]
theorem sc__law_read : FnScope N__law_read P__law_read (defScope s__law_read) := ⟨rfl, rfl, rfl, by decide +kernel, rfl, by decide +kernel, by decide +kernel⟩
def t__law_read (K : PySem.W.Frag) (a : Ad) : TS :=
    (tSeq (tIfS (tTest (tOp rEq (tCB (rLenQ K) (tCons (tVar 0) tNil)) (tC (.int 8)))) (tFor (iList K (tCall (sp__law_forms K a) [] E0 tNil)) (gTup K 4 (gCons (gName 1) (gCons (gName 2) (gCons (gName 3) (gCons (gName 4) gNil))))) (tSeq (tAsg (tIf (tTest (tOp rEq (tVar 4) (tC (.int 0)))) (tTup (tCons (tVar 1) tNil)) (tTup (tCons (tVar 1) (tCons (tOp (rIxT K) (tVar 0) (tVar 4)) tNil)))) (gName 5))
    (tIfS (tTest (tOp (rEqD K) (tCall (sp__law_row K a) [] E0 (tCons (tVar 5) tNil)) (tVar 0))) (tRet (tVar 5)) tNext))) tNext)
    (tRet (tC (.str ("bad" : Str)))))
/-! ### _law_said -/
abbrev N__law_said : List Str := ["_law_which", "_law_thing", "_law_told", "e"]
abbrev P__law_said : List Str := ["_law_which", "_law_thing"]
theorem sc__law_said : FnScope N__law_said P__law_said (defScope s__law_said) := ⟨rfl, rfl, rfl, by decide +kernel, rfl, by decide +kernel, by decide +kernel⟩
def t__law_said (K : PySem.W.Frag) (a : Ad) : TS :=
    (tSeq (tAsg (tC .non) (gName 2))
    (tSeq (fun D σ H => (fun W => (tIfS (tTest (tOp rEq (tVar 0) (tC (.int 0)))) (tAsg (tCallS (sp_request_bytes K a) (WE W) (tCons (tVar 1) tNil)) (gName 2)) (tAsg (tIf (tTest (tOp rEq (tVar 0) (tC (.int 1)))) (tCallS (sp_read_request K a) (WE W) (tCons (tVar 1) tNil)) (tCallS (sp_asks K a) (WE W) (tCons (tVar 1) tNil))) (gName 2)))) (wAs K (.ref a.c_BusError) 3 (fun ae cls d => (tAsg (tIf (tB (tCB (rIsE2 K a.c_BadRequest ae cls d) (tCons (tVar 3) (tCons (tC (.ref a.c_BadRequest)) tNil)))) (tC (.str ("bad" : Str))) (tC (.str ("other" : Str)))) (gName 2))) (fun _ _ _ _ => False) D) D σ H)
    (tRet (tVar 2))))
/-! ### law -/
abbrev N_law : List Str := ["_law_script", "_law_bag_here", "_law_k", "_law_word", "_law_most", "_law_row_here", "_law_place", "_law_value", "_law_request", "_law_due", "_law_told", "_law_at", "_law_odd", "_law_some"]
abbrev P_law : List Str := ["_law_script"]
theorem sc_law : FnScope N_law P_law (defScope s_law) := ⟨rfl, rfl, rfl, by decide +kernel, rfl, by decide +kernel, by decide +kernel⟩
def t_law (K : PySem.W.Frag) (a : Ad) : TS :=
    (tSeq (tAsg (tCall (sp__law_bag K a) [] E0 (tCons (tVar 0) tNil)) (gName 1))
    (tSeq (tFor (iRng1 (tCons (tC (.int 8)) tNil)) (gName 2) (tSeq (tAsg (tCall (sp__law_one K a) [] E0 (tCons (tVar 1) (tCons (tCall (sp__law_forms K a) [] E0 tNil) tNil))) (gTup K 4 (gCons (gName 3) (gCons (gName 4) (gCons (gName 5) (gCons (gName 6) gNil))))))
    (tSeq (tAsg (tOp (rIxL K) (tLst (tCons (tCall (sp__law_pull K a) [] E0 (tCons (tVar 1) (tCons (tOp rAddI (tVar 4) (tC (.int 1))) tNil))) (tCons (tVar 4) (tCons (tC (.int 0)) (tCons (tOp rAddI (tVar 4) (tC (.int 1))) (tCons (tOp rSubI (tC (.int 0)) (tC (.int 1))) (tCons (tOp rPowI (tC (.int 10)) (tC (.int 20))) tNil))))))) (tCall (sp__law_pull K a) [] E0 (tCons (tVar 1) (tCons (tC (.int 6)) tNil)))) (gName 7))
    (tSeq (tAsg (tOp (rIxL K) (tLst (tCons (tTup (tCons (tVar 3) tNil)) (tCons (tTup (tCons (tVar 3) (tCons (tVar 7) tNil))) (tCons (tTup (tCons (tVar 3) (tCons (tVar 7) tNil))) (tCons (tTup (tCons (tVar 3) (tCons (tVar 7) (tCons (tC (.int 0)) tNil)))) (tCons (tTup (tCons (tC (.str ("give" : Str))) (tCons (tVar 7) tNil))) tNil)))))) (tCall (sp__law_pull K a) [] E0 (tCons (tVar 1) (tCons (tC (.int 5)) tNil)))) (gName 8))
    (tSeq (tAsg (tCall (sp__law_row K a) [] E0 (tCons (tVar 8) tNil)) (gName 9))
    (tSeq (tAsg (tIf (tTest (tOp (rEqD K) (tVar 9) (tC (.str ("bad" : Str))))) (tC (.str ("bad" : Str))) (tOp (rIn K false) (tVar 3) (tTup (tCons (tC (.str ("device" : Str))) (tCons (tC (.str ("settings" : Str))) (tCons (tC (.str ("port" : Str))) tNil)))))) (gName 10))
    (tSeq (tIfS (tNot (tB (tCall (sp__law_same K a) [] E0 (tCons (tLst (tCons (tCall (sp__law_said K a) [] E0 (tCons (tC (.int 0)) (tCons (tVar 8) tNil))) (tCons (tCall (sp__law_said K a) [] E0 (tCons (tC (.int 2)) (tCons (tVar 8) tNil))) tNil))) (tCons (tLst (tCons (tVar 9) (tCons (tVar 10) tNil))) tNil))))) (tRet (tC (.bl false))) tNext)
    (tSeq (tAsg (tCall (sp__law_pull K a) [] E0 (tCons (tVar 1) (tCons (tC (.int 8)) tNil))) (gName 11))
    (tSeq (tAsg (tOp (rIxL K) (tLst (tCons (tCall (sp__law_pull K a) [] E0 (tCons (tVar 1) (tCons (tC (.int 6)) tNil))) (tCons (tCall (sp__law_pull K a) [] E0 (tCons (tVar 1) (tCons (tC (.int 256)) tNil))) tNil))) (tCall (sp__law_pull K a) [] E0 (tCons (tVar 1) (tCons (tC (.int 2)) tNil)))) (gName 12))
    (tSeq (tAsg (tOp (rIxL K) (tLst (tCons (tVar 5) (tCons (tOp (rCatA K) (tOp (rCatA K) (tSl (rSlA K) (tVar 5) tNoPart (tPart (tVar 11))) (tTup (tCons (tVar 12) tNil))) (tSl (rSlA K) (tVar 5) (tPart (tOp rAddI (tVar 11) (tC (.int 1)))) tNoPart)) (tCons (tSl (rSlA K) (tVar 5) tNoPart (tPart (tVar 11))) (tCons (tOp (rCatA K) (tVar 5) (tTup (tCons (tC (.int 0)) tNil))) tNil))))) (tCall (sp__law_pull K a) [] E0 (tCons (tVar 1) (tCons (tC (.int 4)) tNil)))) (gName 13))
    (tIfS (tNot (tB (tCall (sp__law_same K a) [] E0 (tCons (tCall (sp__law_said K a) [] E0 (tCons (tC (.int 1)) (tCons (tVar 13) tNil))) (tCons (tCall (sp__law_read K a) [] E0 (tCons (tVar 13) tNil)) tNil))))) (tRet (tC (.bl false))) tNext)))))))))))
    (tRet (tC (.bl true)))))
end My

namespace My
open PySem PySem.Spec PyProof.Rows L2
section
variable {P : Program} {w : World} {K : PySem.W.Frag} {mg : Str → Option Value} {base : Heap} {a : Ad}
local macro_rules | `(tactic| walk_at "sm") => `(tactic| try simp only [tSeq, tAsg, tVar, tC, tOp, tUn, tRet, tRetN, tDrop, tIfS, tNext, tAnd, tOr, tNot, tB, tTest, tChain, tAndV, tOrV, tNotV, tIf, tCB, tCons, tNil, tCall, tCallS, tPar, rInt1, rInKD, rNotInKD, tLst, tTup, tSl, tNoPart, tPart,
  tAug, ipI, gName, gSub, gTup, gCons, gNil, rI0, rI, rU, rEq, rNe, rIsN, rNotN, rAddI, rSubI, rMulI, rModI, rDivW, rPowI, rShlI, rShrI, rAndI, rOrI, rXorI, rLtI, rLeI, rGtI, rGeI, rNegI, rIxL, rIxT, rLenQ, rListOf, rTupleOf, rSetL, tRevL, tRaiseC, rSlL,
  List.getElem?_cons_zero, List.getElem?_cons_succ, List.set_cons_zero, List.set_cons_succ, Option.some.injEq, V.int.injEq, V.bl.injEq, V.ref.injEq, V.str.injEq, exists_eq_left', exists_eq_left, exists_and_left, List.cons.injEq, and_true, true_and, List.append_nil, scal, Int.reduceToNat, if_true, if_false, Bool.false_eq_true])
local macro_rules | `(tactic| walk_at "bg") => `(tactic| repeat (first
  | refine ⟨_, SqL.of (by assumption), _, rfl, ?_⟩
  | refine ⟨_, SqL.of upd_same, _, rfl, ?_⟩
  | refine ⟨_, rfl, ?_⟩
  | refine ⟨_, (by assumption), _, rfl, ?_⟩
  | refine ⟨_, upd_same, _, rfl, ?_⟩
  | refine ⟨Or.inr ⟨by omega, by omega⟩, ?_⟩
  | refine ⟨Or.inl ⟨by omega, by omega⟩, ?_⟩
  | refine ⟨(show (0 : Int) < _ by omega), ?_⟩
  | refine ⟨_, .inl (SqL.of upd_same), ?_⟩
  | refine ⟨_, .inl (by assumption), ?_⟩))
local macro_rules | `(tactic| walk_at "ty") => `(tactic| try simp only [tyS, tyL, tyT, if_true, if_false, Bool.false_eq_true, reduceCtorEq, decide_false, decide_true, exists_eq_left', exists_eq_left, V.bl.injEq, and_true, true_and, Bool.not_true, Bool.not_false, decide_eq_true_eq, Bool.true_and, Bool.and_true])
theorem rd_is_number : RD (sp_is_number K a) (t_is_number K a) N_is_number := by
  rintro vs H Q E ⟨v, d, lo, hi, rfl, hd, nb, q⟩
  show t_is_number K a _ [some v, some (.int lo), some (.int hi)] H
  unfold t_is_number
  walk_at "sm"
  refine isi hd (by decide) ?_
  walk_at "sm"
  refine iteB (fun h => ?_) (fun h => ?_)
  · cases hd with
    | int i =>
      walk_at "sm"
      refine iteP (fun h1 => ?_) (fun h1 => ?_)
      · simpa only [isNum, decide_eq_true h1, Bool.true_and] using q
      · simpa only [isNum, decide_eq_false h1, Bool.false_and] using q
    | bl b => exact absurd rfl (nb b)
    | _ => exact Bool.noConfusion h
  · cases hd with
    | int i => exact Bool.noConfusion h
    | bl b => exact absurd rfl (nb b)
    | _ => exact q
theorem rd__law_bag : RD (sp__law_bag K a) (t__law_bag K a) N__law_bag := by
  rintro vs H Q E ⟨p, cs, rfl, hS, hl, q⟩
  show t__law_bag K a _ [some (.ref p), none, none, none] H
  unfold t__law_bag
  walk_at "sm"
  refine ⟨_, hS, fun p1 hp1 => ?_⟩
  rw [cutV_all (by rw [List.length_map]; omega)]
  refine ⟨_, .inl (SqL.of upd_same), fun p2 hp2 => ?_⟩
  refine ⟨_, .inl (SqL.of upd_same), ?_⟩
  have e0 : Ex H (upd (upd H p1 (.lst (cs.map V.int))) p2 (.lst (cs.map V.int))) := (Ex.new hp1).trans (Ex.new hp2)
  generalize hH2 : upd (upd H p1 (.lst (cs.map V.int))) p2 (.lst (cs.map V.int)) = H2 at e0
  have hS2 : H2 p2 = some (.lst (cs.map V.int)) := by rw [← hH2]; exact upd_same
  refine forL 3 (fun j σ H' => ∃ (k : Int) (x : Option V), σ = [some (.ref p), some (.ref p2), some (.int k), x] ∧ H' = H2 ∧ k.natAbs < 2147483629) (fun R r => ⟨_, rfl, r⟩) (SqL.of hS2) ⟨_, _, rfl, rfl, ?_⟩ ?hl ?hs ?hd
  · rw [List.length_map]
    omega
  case hl =>
    rintro j σ H' ⟨k, x, rfl, rfl, _⟩
    exact SqL.of hS2
  case hs =>
    rintro j x σ H' hj ⟨k, y, rfl, rfl, hk⟩
    rw [List.getElem?_map] at hj
    obtain ⟨b, hb1, rfl⟩ := Option.map_eq_some_iff.mp hj
    walk_at "sm"
    refine ⟨.inr ⟨by omega, by omega⟩, by omega, _, _, ⟨rfl, rfl⟩, ?_⟩
    omega
  case hd =>
    rintro σ H' ⟨k, x, rfl, rfl, hk⟩
    walk_at "sm"
    refine ⟨by show 4 ≤ sizeLine; decide, fun p3 hp3 => ?_⟩
    refine q p3 p2 _ ?_ (e0.trans (Ex.new hp3)) ⟨0, 0, k, upd_same, ?_, hl, by omega⟩
    · exact e0.free hp3
    · exact (Ex.new hp3).sqL (SqL.of hS2)
theorem rd__law_whole : RD (sp__law_whole K a) (t__law_whole K a) N__law_whole := by
  rintro vs H Q E ⟨v, d, rfl, hd, q⟩
  show t__law_whole K a _ [some v] H
  unfold t__law_whole
  walk_at "sm"
  refine isi hd (by decide) ?_
  walk_at "sm"
  refine iteB (fun h => ?_) (fun h => ?_)
  · refine isi hd (by decide) ?_
    walk_at "sm"
    cases hd <;> first | exact Bool.noConfusion h | exact q
  · cases hd <;> first | exact Bool.noConfusion h | exact q
end
end My

namespace My
open PySem PySem.Spec PyProof.Rows L2
section
variable {P : Program} {w : World} {K : PySem.W.Frag} {mg : Str → Option Value} {base : Heap} {a : Ad}
local macro_rules | `(tactic| walk_at "sm") => `(tactic| try simp only [tSeq, tAsg, tVar, tC, tOp, tUn, tRet, tRetN, tDrop, tIfS, tNext, tAnd, tOr, tNot, tB, tTest, tChain, tAndV, tOrV, tNotV, tIf, tCB, tCons, tNil, tCall, tCallS, tPar, rInt1, rInKD, rNotInKD, tLst, tTup, tSl, tNoPart, tPart,
  tAug, ipI, gName, gSub, gTup, gCons, gNil, rI0, rI, rU, rEq, rNe, rIsN, rNotN, rAddI, rSubI, rMulI, rModI, rDivW, rPowI, rShlI, rShrI, rAndI, rOrI, rXorI, rLtI, rLeI, rGtI, rGeI, rNegI, rIxL, rIxT, rLenQ, rListOf, rTupleOf, rSetL, tRevL, tRaiseC, rSlL,
  List.getElem?_cons_zero, List.getElem?_cons_succ, List.set_cons_zero, List.set_cons_succ, Option.some.injEq, V.int.injEq, V.bl.injEq, V.ref.injEq, V.str.injEq, exists_eq_left', exists_eq_left, exists_and_left, List.cons.injEq, and_true, true_and, List.append_nil, scal, Int.reduceToNat, if_true, if_false, Bool.false_eq_true])
local macro_rules | `(tactic| walk_at "bg") => `(tactic| repeat (first
  | refine ⟨_, SqL.of (by assumption), _, rfl, ?_⟩
  | refine ⟨_, SqL.of upd_same, _, rfl, ?_⟩
  | refine ⟨_, rfl, ?_⟩
  | refine ⟨_, (by assumption), _, rfl, ?_⟩
  | refine ⟨_, upd_same, _, rfl, ?_⟩
  | refine ⟨Or.inr ⟨by omega, by omega⟩, ?_⟩
  | refine ⟨Or.inl ⟨by omega, by omega⟩, ?_⟩
  | refine ⟨(show (0 : Int) < _ by omega), ?_⟩
  | refine ⟨_, .inl (SqL.of upd_same), ?_⟩
  | refine ⟨_, .inl (by assumption), ?_⟩))
local macro_rules | `(tactic| walk_at "ty") => `(tactic| try simp only [tyS, tyL, tyT, if_true, if_false, Bool.false_eq_true, reduceCtorEq, decide_false, decide_true, exists_eq_left', exists_eq_left, V.bl.injEq, and_true, true_and, Bool.not_true, Bool.not_false, decide_eq_true_eq, Bool.true_and, Bool.and_true])
theorem rd__law_pull : RD (sp__law_pull K a) (t__law_pull K a) N__law_pull := by
  rintro vs H Q E ⟨p, c, cs, u, rfl, ⟨i, s, k, hp, hS, hl, h0⟩, hu, hu2, q⟩
  show t__law_pull K a _ [some (.ref p), some (.int u), none, none, none, none] H
  unfold t__law_pull
  have at0 : ∀ i s k : Int, atI [V.ref c, .int i, .int s, .int k] 0 = some (.ref c) := fun _ _ _ => rfl
  have at1 : ∀ i s k : Int, atI [V.ref c, .int i, .int s, .int k] 1 = some (.int i) := fun _ _ _ => rfl
  have at2 : ∀ i s k : Int, atI [V.ref c, .int i, .int s, .int k] 2 = some (.int s) := fun _ _ _ => rfl
  have at3 : ∀ i s k : Int, atI [V.ref c, .int i, .int s, .int k] 3 = some (.int k) := fun _ _ _ => rfl
  have mod0 : ∀ z : Int, 0 ≤ z % u ∧ z % u < u := fun z => ⟨Int.emod_nonneg _ (by omega), Int.emod_lt_of_pos _ hu⟩
  -- the end: what is left of a number
  have fin : ∀ (H : Hp) (i s k : Int) x y z, H p = some (.lst [.ref c, .int i, .int s, .int k]) → SqL K H c (cs.map V.int) → 0 ≤ i → (∀ r H', 0 ≤ r → r < u → Bag K c cs H' p → (∀ b, b ≠ p → H' b = H b) → Q (.int r) H') →
      (tSeq (tAsg (tOp rModI (tOp (rIxL K) (tVar 0) (tC (.int 2))) (tVar 1)) (gName 5)) (tSeq (tAsg (tOp rDivW (tOp (rIxL K) (tVar 0) (tC (.int 2))) (tVar 1)) (gSub (tVar 0) (tC (.int 2)) rSetL)) (tRet (tVar 5))))
        { nx := fun _ H' => Q .non H', rt := Q } [some (.ref p), some (.int u), x, y, z, none] H := by
    intro H i s k x y z hp hS h0 q
    walk_at "sm"
    refine ⟨_, SqL.of hp, _, at2 _ _ _, _, rfl, hu, ?_⟩
    walk_at "sm"
    refine ⟨_, SqL.of hp, _, at2 _ _ _, _, rfl, cdivS hu hu2, _, hp, 2, rfl, ?_⟩
    exact q _ _ (mod0 _).1 (mod0 _).2 (bag_mk hp hS hl h0) upd_off
  walk_at "sm"
  walk_at "bg"
  refine iteP (fun h => ?_) (fun h => ?_)
  · walk_at "bg"
    have hS' := bag_ne hp hS
    walk_at "sm"
    have fin2 := fun (s' : Int) x y z (hz : 0 ≤ i + 1) => fin (upd H p (.lst [V.ref c, .int (i + 1), .int s', .int k])) (i + 1) s' k x y z upd_same (hS' _) hz (fun r H' r0 r1 hb he => q r H' r0 r1 hb (fun b hbp => (he b hbp).trans (upd_ne hbp)))
    have hp2 : (upd H p (.lst [V.ref c, .int (i + 1), .int s, .int k])) p = some (.lst [V.ref c, .int (i + 1), .int s, .int k]) := upd_same
    have hS2 := hS' (.lst [V.ref c, .int (i + 1), .int s, .int k])
    have bag2 : Bag K c cs (upd H p (.lst [V.ref c, .int (i + 1), .int s, .int k])) p := ⟨_, _, _, hp2, hS2, hl, by omega⟩
    have off2 : ∀ b, b ≠ p → (upd H p (.lst [V.ref c, .int (i + 1), .int s, .int k])) b = H b := fun b hb => upd_ne hb
    have eo : ∀ s', upd (upd H p (.lst [V.ref c, .int (i + 1), .int s, .int k])) p (.lst [V.ref c, .int (i + 1), .int s', .int k]) = upd H p (.lst [V.ref c, .int (i + 1), .int s', .int k]) := fun _ => upd_upd
    generalize upd H p (.lst [V.ref c, .int (i + 1), .int s, .int k]) = H2 at hp2 hS2 bag2 off2 eo ⊢
    have drawn : ∀ (seed : Int) (x : Option V), (tSeq (tAsg (tOp rModI (tOp rAddI (tOp rAddI (tOp rMulI (tVar 2) (tC (.int 48271))) (tOp rMulI (tOp (rIxL K) (tVar 0) (tC (.int 1))) (tC (.int 40692)))) (tOp (rIxL K) (tVar 0) (tC (.int 3)))) (tC (.int 2147483647))) (gName 3))
        (tSeq (tAsg (tOp rModI (tOp rAddI (tOp rMulI (tVar 3) (tVar 3)) (tOp (rIxL K) (tVar 0) (tC (.int 1)))) (tC (.int 998244353))) (gName 4))
        (tRet (tOp rModI (tOp rDivW (tOp rModI (tOp rAddI (tOp rMulI (tVar 4) (tC (.int 69621))) (tVar 3)) (tC (.int 2147483629))) (tC (.int 7))) (tVar 1)))))
        { nx := fun _ _ => False, rt := Q } [some (.ref p), some (.int u), some (.int seed), none, none, x] H2 := by
      intro seed x
      walk_at "sm"
      walk_at "bg"
      refine ⟨cdivS (by omega) (by omega), hu, ?_⟩
      exact q _ _ (mod0 _).1 (mod0 _).2 bag2 off2
    have after : ∀ seed : Int, (tSeq (tIfS (tOr (tTest (tOp rGtI (tOp (rIxL K) (tVar 0) (tC (.int 1))) (tCB (rLenQ K) (tCons (tOp (rIxL K) (tVar 0) (tC (.int 0))) tNil)))) (tTest (tOp rLtI (tVar 2) (tOp rPowI (tC (.int 10)) (tC (.int 18)))))) (tSeq (tAsg (tOp rModI (tOp rAddI (tOp rAddI (tOp rMulI (tVar 2) (tC (.int 48271))) (tOp rMulI (tOp (rIxL K) (tVar 0) (tC (.int 1))) (tC (.int 40692)))) (tOp (rIxL K) (tVar 0) (tC (.int 3)))) (tC (.int 2147483647))) (gName 3))
        (tSeq (tAsg (tOp rModI (tOp rAddI (tOp rMulI (tVar 3) (tVar 3)) (tOp (rIxL K) (tVar 0) (tC (.int 1)))) (tC (.int 998244353))) (gName 4))
        (tRet (tOp rModI (tOp rDivW (tOp rModI (tOp rAddI (tOp rMulI (tVar 4) (tC (.int 69621))) (tVar 3)) (tC (.int 2147483629))) (tC (.int 7))) (tVar 1))))) tNext) (tAsg (tVar 2) (gSub (tVar 0) (tC (.int 2)) rSetL)))
        { nx := (tSeq (tAsg (tOp rModI (tOp (rIxL K) (tVar 0) (tC (.int 2))) (tVar 1)) (gName 5)) (tSeq (tAsg (tOp rDivW (tOp (rIxL K) (tVar 0) (tC (.int 2))) (tVar 1)) (gSub (tVar 0) (tC (.int 2)) rSetL)) (tRet (tVar 5)))) { nx := fun _ H' => Q .non H', rt := Q }, rt := Q } [some (.ref p), some (.int u), some (.int seed), none, none, none] H2 := by
      intro seed
      have dr := drawn seed none
      have f2 := fin2 seed (some (.int seed)) none none (by omega)
      rw [← eo] at f2
      revert dr f2
      walk_at "sm"
      intro dr f2
      have lastly : ∀ R : Prop, R → (∃ x, H2 p = some (.lst x) ∧ ∃ x_1, ixN x.length 2 = some x_1 ∧ R) := fun R r => ⟨_, hp2, 2, rfl, r⟩
      refine ⟨_, SqL.of hp2, _, rfl, _, SqL.of hp2, _, rfl, c, rfl, _, .inl hS2, _, rfl, ?_⟩
      refine iteP (fun h1 => dr) (fun h1 => ?_)
      refine ⟨⟨by omega, by omega, by omega⟩, ?_⟩
      refine iteP (fun h1 => dr) (fun h1 => ?_)
      exact ⟨_, hp2, 2, rfl, f2⟩
    refine ⟨_, .inl hS2, ?_⟩
    refine iteP (fun h1 => ?_) (fun h1 => ?_)
    · rw [List.length_map] at h1
      obtain ⟨b, hb⟩ : ∃ b, cs[i.toNat]? = some b := ⟨_, List.getElem?_eq_getElem (by omega)⟩
      refine ⟨_, SqL.of hp2, _, rfl, _, SqL.of hp2, _, rfl, _, rfl, c, rfl, _, hS2, .int b, ?_, ?_⟩
      · refine at_of (j := i.toNat) (by omega) ?_
        rw [List.getElem?_map, hb]
        rfl
      · have := after b
        revert this
        walk_at "sm"
        exact id
    · have := after (k + (i + 1) * 7919)
      revert this
      walk_at "sm"
      exact id
  · have := fin H i s k none none none hp hS h0 q
    revert this
    walk_at "sm"
    exact id
end
end My

namespace My
open PySem PySem.Spec PyProof.Rows L2
section
variable {P : Program} {w : World} {K : PySem.W.Frag} {mg : Str → Option Value} {base : Heap} {a : Ad}
local macro_rules | `(tactic| walk_at "sm") => `(tactic| try simp only [tSeq, tAsg, tVar, tC, tOp, tUn, tRet, tRetN, tDrop, tIfS, tNext, tAnd, tOr, tNot, tB, tTest, tChain, tAndV, tOrV, tNotV, tIf, tCB, tCons, tNil, tCall, tCallS, tPar, rInt1, rInKD, rNotInKD, tLst, tTup, tSl, tNoPart, tPart,
  tAug, ipI, gName, gSub, gTup, gCons, gNil, rI0, rI, rU, rEq, rNe, rIsN, rNotN, rAddI, rSubI, rMulI, rModI, rDivW, rPowI, rShlI, rShrI, rAndI, rOrI, rXorI, rLtI, rLeI, rGtI, rGeI, rNegI, rIxL, rIxT, rLenQ, rListOf, rTupleOf, rSetL, tRevL, tRaiseC, rSlL,
  List.getElem?_cons_zero, List.getElem?_cons_succ, List.set_cons_zero, List.set_cons_succ, Option.some.injEq, V.int.injEq, V.bl.injEq, V.ref.injEq, V.str.injEq, exists_eq_left', exists_eq_left, exists_and_left, List.cons.injEq, and_true, true_and, List.append_nil, scal, Int.reduceToNat, if_true, if_false, Bool.false_eq_true])
local macro_rules | `(tactic| walk_at "bg") => `(tactic| repeat (first
  | refine ⟨_, SqL.of (by assumption), _, rfl, ?_⟩
  | refine ⟨_, SqL.of upd_same, _, rfl, ?_⟩
  | refine ⟨_, rfl, ?_⟩
  | refine ⟨_, (by assumption), _, rfl, ?_⟩
  | refine ⟨_, upd_same, _, rfl, ?_⟩
  | refine ⟨Or.inr ⟨by omega, by omega⟩, ?_⟩
  | refine ⟨Or.inl ⟨by omega, by omega⟩, ?_⟩
  | refine ⟨(show (0 : Int) < _ by omega), ?_⟩
  | refine ⟨_, .inl (SqL.of upd_same), ?_⟩
  | refine ⟨_, .inl (by assumption), ?_⟩))
local macro_rules | `(tactic| walk_at "ty") => `(tactic| try simp only [tyS, tyL, tyT, if_true, if_false, Bool.false_eq_true, reduceCtorEq, decide_false, decide_true, exists_eq_left', exists_eq_left, V.bl.injEq, and_true, true_and, Bool.not_true, Bool.not_false, decide_eq_true_eq, Bool.true_and, Bool.and_true])
/-- one level deeper: spR is what holds one level up -/
theorem rd__law_same (n : Nat) (spR : Sp) (hR : ∀ k, n = k + 1 → spR = sp_same k K) : RD (sp_same n K) (t__law_same K a spR) N__law_same := by
  rintro vs H Q E ⟨v, w, d, rfl, hv, hw, ok, q⟩
  show t__law_same K a _ _ [some v, some w, none] H
  unfold t__law_same
  cases d with
  | none =>
    cases hv
    cases hw
    walk_at "sm"
    walk_at "ty"
    exact q H (Same.refl _)
  | bool b =>
    cases id hv
    cases id hw
    walk_at "sm"
    walk_at "ty"
    refine isi hw (by decide) ?_
    walk_at "ty"
    refine isi hv (by decide) ?_
    walk_at "ty"
    exact q H (Same.refl _)
  | int i =>
    cases id hv
    cases id hw
    walk_at "sm"
    walk_at "ty"
    refine isi hw (by decide) ?_
    walk_at "ty"
    refine isi hw (by decide) ?_
    walk_at "ty"
    refine ⟨_, _, rfl, hv, ?_⟩
    walk_at "ty"
    exact q H (Same.refl _)
  | str x =>
    cases id hv
    cases id hw
    walk_at "sm"
    walk_at "ty"
    refine isi hw (by decide) ?_
    walk_at "ty"
    refine isi hw (by decide) ?_
    walk_at "ty"
    refine isi hw (by decide) ?_
    walk_at "ty"
    refine isi hv (by decide) ?_
    walk_at "ty"
    exact q H (Same.refl _)
  | dict _ => cases hv
  | list ds =>
    obtain ⟨f, xs, rfl, hx, ax⟩ : ∃ f xs, v = .ref f ∧ SqL K H f xs ∧ DpAll K H xs ds := by
      cases hv with
      | lst hs ha => exact ⟨_, _, rfl, hs, ha⟩
    obtain ⟨g, ys, rfl, hy, ay⟩ : ∃ f xs, w = .ref f ∧ SqL K H f xs ∧ DpAll K H xs ds := by
      cases hw with
      | lst hs ha => exact ⟨_, _, rfl, hs, ha⟩
    obtain ⟨hl, k, ek, hk⟩ := okD_len ok
    cases hR k ek
    walk_at "sm"
    walk_at "ty"
    refine isi hw (by decide) ?_
    walk_at "ty"
    refine isi hw (by decide) ?_
    walk_at "ty"
    refine isi hw (by decide) ?_
    walk_at "ty"
    refine isi hw (by decide) ?_
    refine isi hv (by decide) ?_
    walk_at "ty"
    refine isi hw (by decide) ?_
    refine isi hv (by decide) ?_
    walk_at "ty"
    have lx := DpAll.len ax
    have ly := DpAll.len ay
    refine ⟨_, .inl hx, _, .inl hy, iteNP (fun z => absurd (show (xs.length : Int) = ys.length by omega) z) (fun _ => ?_)⟩
    refine lcR (n := (ys.length : Int)) 2 (fun _ v _ => v = .bl true) (fun R r => ⟨_, rfl, _, _, rfl, .inl hy, r⟩) (by omega) (by omega) (fun _ _ _ _ _ h => h) (fun _ => rfl) (fun j D H1 Q1 hj hD hD1 e q' => ?_) (fun D H' zs hD e hz hm => ?_)
    · have hjd : j < ds.length := by omega
      obtain ⟨xj, x1, x2⟩ := DpAll.get ax (List.getElem?_eq_getElem hjd)
      obtain ⟨yj, y1, y2⟩ := DpAll.get ay (List.getElem?_eq_getElem hjd)
      have e1 : Ex H H1 := Same.trans e wo_ex
      refine ⟨_, rfl, _, rfl, .inl ⟨f, xs, (j : Nat), xj, rfl, rfl, e1.sqL hx, atI_nat x1, _, rfl, _, rfl, .inl ⟨g, ys, (j : Nat), yj, rfl, rfl, e1.sqL hy, atI_nat y1, ?_⟩⟩⟩
      exact ⟨xj, yj, _, rfl, e1.dp _ _ x2, e1.dp _ _ y2, hk _ (List.getElem_mem hjd), fun H' e' => q' _ _ e' rfl⟩
    · refine ⟨D, (List.range (ys.length : Int).toNat).map fun _ => true, rfl, SqL.of ?_, ?_⟩
      · rw [hz, Made.bls hm]
      · rw [all_true]
        exact q H' (e.trans wo_ex)
  | tuple ds =>
    obtain ⟨f, xs, rfl, hx, ax⟩ : ∃ f xs, v = .ref f ∧ SqT K H f xs ∧ DpAll K H xs ds := by
      cases hv with
      | tup hs ha => exact ⟨_, _, rfl, hs, ha⟩
    obtain ⟨g, ys, rfl, hy, ay⟩ : ∃ f xs, w = .ref f ∧ SqT K H f xs ∧ DpAll K H xs ds := by
      cases hw with
      | tup hs ha => exact ⟨_, _, rfl, hs, ha⟩
    obtain ⟨hl, k, ek, hk⟩ := okD_lenT ok
    cases hR k ek
    walk_at "sm"
    walk_at "ty"
    refine isi hw (by decide) ?_
    walk_at "ty"
    refine isi hw (by decide) ?_
    walk_at "ty"
    refine isi hw (by decide) ?_
    walk_at "ty"
    refine isi hw (by decide) ?_
    refine isi hv (by decide) ?_
    walk_at "ty"
    refine isi hw (by decide) ?_
    refine isi hv (by decide) ?_
    walk_at "ty"
    have lx := DpAll.len ax
    have ly := DpAll.len ay
    refine ⟨_, .inr hx, _, .inr hy, iteNP (fun z => absurd (show (xs.length : Int) = ys.length by omega) z) (fun _ => ?_)⟩
    refine lcR (n := (ys.length : Int)) 2 (fun _ v _ => v = .bl true) (fun R r => ⟨_, rfl, _, _, rfl, .inr hy, r⟩) (by omega) (by omega) (fun _ _ _ _ _ h => h) (fun _ => rfl) (fun j D H1 Q1 hj hD hD1 e q' => ?_) (fun D H' zs hD e hz hm => ?_)
    · have hjd : j < ds.length := by omega
      obtain ⟨xj, x1, x2⟩ := DpAll.get ax (List.getElem?_eq_getElem hjd)
      obtain ⟨yj, y1, y2⟩ := DpAll.get ay (List.getElem?_eq_getElem hjd)
      have e1 : Ex H H1 := Same.trans e wo_ex
      refine ⟨_, rfl, _, rfl, .inr <| .inl ⟨f, xs, (j : Nat), xj, rfl, rfl, e1.sqT hx, atI_nat x1, _, rfl, _, rfl, .inr <| .inl ⟨g, ys, (j : Nat), yj, rfl, rfl, e1.sqT hy, atI_nat y1, ?_⟩⟩⟩
      exact ⟨xj, yj, _, rfl, e1.dp _ _ x2, e1.dp _ _ y2, hk _ (List.getElem_mem hjd), fun H' e' => q' _ _ e' rfl⟩
    · refine ⟨D, (List.range (ys.length : Int).toNat).map fun _ => true, rfl, SqL.of ?_, ?_⟩
      · rw [hz, Made.bls hm]
      · rw [all_true]
        exact q H' (e.trans wo_ex)
end
end My

namespace My
open PySem PySem.Spec PyProof.Rows L2
section
variable {P : Program} {w : World} {K : PySem.W.Frag} {mg : Str → Option Value} {base : Heap} {a : Ad}
local macro_rules | `(tactic| walk_at "sm") => `(tactic| try simp only [tSeq, tAsg, tVar, tC, tOp, tUn, tRet, tRetN, tDrop, tIfS, tNext, tAnd, tOr, tNot, tB, tTest, tChain, tAndV, tOrV, tNotV, tIf, tCB, tCons, tNil, tCall, tCallS, tPar, rInt1, rInKD, rNotInKD, tLst, tTup, tSl, tNoPart, tPart,
  tAug, ipI, gName, gSub, gTup, gCons, gNil, rI0, rI, rU, rEq, rNe, rIsN, rNotN, rAddI, rSubI, rMulI, rModI, rDivW, rPowI, rShlI, rShrI, rAndI, rOrI, rXorI, rLtI, rLeI, rGtI, rGeI, rNegI, rIxL, rIxT, rLenQ, rListOf, rTupleOf, rSetL, tRevL, tRaiseC, rSlL,
  List.getElem?_cons_zero, List.getElem?_cons_succ, List.set_cons_zero, List.set_cons_succ, Option.some.injEq, V.int.injEq, V.bl.injEq, V.ref.injEq, V.str.injEq, exists_eq_left', exists_eq_left, exists_and_left, List.cons.injEq, and_true, true_and, List.append_nil, scal, Int.reduceToNat, if_true, if_false, Bool.false_eq_true])
local macro_rules | `(tactic| walk_at "bg") => `(tactic| repeat (first
  | refine ⟨_, SqL.of (by assumption), _, rfl, ?_⟩
  | refine ⟨_, SqL.of upd_same, _, rfl, ?_⟩
  | refine ⟨_, rfl, ?_⟩
  | refine ⟨_, (by assumption), _, rfl, ?_⟩
  | refine ⟨_, upd_same, _, rfl, ?_⟩
  | refine ⟨Or.inr ⟨by omega, by omega⟩, ?_⟩
  | refine ⟨Or.inl ⟨by omega, by omega⟩, ?_⟩
  | refine ⟨(show (0 : Int) < _ by omega), ?_⟩
  | refine ⟨_, .inl (SqL.of upd_same), ?_⟩
  | refine ⟨_, .inl (by assumption), ?_⟩))
local macro_rules | `(tactic| walk_at "ty") => `(tactic| try simp only [tyS, tyL, tyT, if_true, if_false, Bool.false_eq_true, reduceCtorEq, decide_false, decide_true, exists_eq_left', exists_eq_left, V.bl.injEq, and_true, true_and, Bool.not_true, Bool.not_false, decide_eq_true_eq, Bool.true_and, Bool.and_true])
theorem rd__law_one : RD (sp__law_one K a) (t__law_one K a) N__law_one := by
  rintro vs H Q E ⟨p, c, cs, t, xs, rfl, bag, hS, h0, h1, q⟩
  show t__law_one K a _ [some (.ref p), some (.ref t)] H
  unfold t__law_one
  walk_at "sm"
  refine ⟨xs, .inl (wo_ex.sqL hS), ?_⟩
  refine ⟨p, c, cs, _, rfl, bag, by omega, Int.lt_of_le_of_lt (show (xs.length : Int) ≤ 1000 by omega) (by decide), fun r H1 r0 r1 bag1 o1 => ?_⟩
  have hS1 : SqL K H1 t xs := wo_ex.sqL (Ex.sqL (off_wo o1) hS)
  refine ⟨_, _, rfl, hS1, xs[r.toNat]'(by omega), at_of (j := r.toNat) (by omega) (List.getElem?_eq_getElem _), q _ H1 (List.getElem_mem _) bag1 o1⟩
end
end My

namespace My
open PySem PySem.Spec PyProof.Rows L2
section
variable {P : Program} {w : World} {K : PySem.W.Frag} {mg : Str → Option Value} {base : Heap} {a : Ad}
local macro_rules | `(tactic| walk_at "sm") => `(tactic| try simp only [tSeq, tAsg, tVar, tC, tOp, tUn, tRet, tRetN, tDrop, tIfS, tNext, tAnd, tOr, tNot, tB, tTest, tChain, tAndV, tOrV, tNotV, tIf, tCB, tCons, tNil, tCall, tCallS, tPar, rInt1, rInKD, rNotInKD, tLst, tTup, tSl, tNoPart, tPart,
  tAug, ipI, gName, gSub, gTup, gCons, gNil, rI0, rI, rU, rEq, rNe, rIsN, rNotN, rAddI, rSubI, rMulI, rModI, rDivW, rPowI, rShlI, rShrI, rAndI, rOrI, rXorI, rLtI, rLeI, rGtI, rGeI, rNegI, rIxL, rIxT, rLenQ, rListOf, rTupleOf, rSetL, tRevL, tRaiseC, rSlL,
  List.getElem?_cons_zero, List.getElem?_cons_succ, List.set_cons_zero, List.set_cons_succ, Option.some.injEq, V.int.injEq, V.bl.injEq, V.ref.injEq, V.str.injEq, exists_eq_left', exists_eq_left, exists_and_left, List.cons.injEq, and_true, true_and, List.append_nil, scal, Int.reduceToNat, if_true, if_false, Bool.false_eq_true])
local macro_rules | `(tactic| walk_at "bg") => `(tactic| repeat (first
  | refine ⟨_, SqL.of (by assumption), _, rfl, ?_⟩
  | refine ⟨_, SqL.of upd_same, _, rfl, ?_⟩
  | refine ⟨_, rfl, ?_⟩
  | refine ⟨_, (by assumption), _, rfl, ?_⟩
  | refine ⟨_, upd_same, _, rfl, ?_⟩
  | refine ⟨Or.inr ⟨by omega, by omega⟩, ?_⟩
  | refine ⟨Or.inl ⟨by omega, by omega⟩, ?_⟩
  | refine ⟨(show (0 : Int) < _ by omega), ?_⟩
  | refine ⟨_, .inl (SqL.of upd_same), ?_⟩
  | refine ⟨_, .inl (by assumption), ?_⟩))
local macro_rules | `(tactic| walk_at "ty") => `(tactic| try simp only [tyS, tyL, tyT, if_true, if_false, Bool.false_eq_true, reduceCtorEq, decide_false, decide_true, exists_eq_left', exists_eq_left, V.bl.injEq, and_true, true_and, Bool.not_true, Bool.not_false, decide_eq_true_eq, Bool.true_and, Bool.and_true])
/-! ### the table of requests -/
theorem findSome_none {α β : Type} {G : α → Option β} : ∀ {l : List α}, (∀ g ∈ l, G g = none) → l.findSome? G = none
  | [], _ => rfl
  | g :: l, h => by
    rw [List.findSome?_cons, h g (List.mem_cons_self)]
    exact findSome_none fun x hx => h x (List.mem_cons_of_mem _ hx)
theorem findSome_uniq {β : Type} {G : Fm → Option β} {f : Fm} : ∀ {l : List Fm}, (l.map Fm.w).Nodup → f ∈ l → (∀ g ∈ l, g.w ≠ f.w → G g = none) → l.findSome? G = G f
  | [], _, h, _ => (List.not_mem_nil h).elim
  | g :: l, nd, h, hn => by
    rw [List.findSome?_cons]
    rw [List.map_cons, List.nodup_cons] at nd
    rcases List.mem_cons.mp h with rfl | h
    · cases e : G f with
      | some r => rfl
      | none => exact findSome_none fun x hx => hn x (List.mem_cons_of_mem _ hx) fun z => nd.1 (z ▸ List.mem_map_of_mem hx)
    · rw [hn g (List.mem_cons_self) fun z => nd.1 (z ▸ List.mem_map_of_mem h)]
      exact findSome_uniq nd.2 h fun x hx => hn x (List.mem_cons_of_mem _ hx)
theorem formsL_nd : (formsL.map Fm.w).Nodup := by decide +kernel
theorem rowOf_f {f : Fm} (hf : f ∈ formsL) (ns : List Int) : rowOf f.w ns = stepOf f f.w ns :=
  findSome_uniq formsL_nd hf fun g _ h => by unfold stepOf; rw [if_neg h]
theorem formsW : formsL.map Fm.w = rowsW := rfl
theorem rowOf_no {w : Str} (h : w ∉ rowsW) (ns : List Int) : rowOf w ns = none := findSome_none fun g hg => by
  unfold stepOf
  rw [if_neg fun z => h (by rw [← z, ← formsW]; exact List.mem_map_of_mem hg)]
theorem of_word {w : Str} (h : w ∈ rowsW) : ∃ f ∈ formsL, f.w = w := by
  rw [← formsW] at h
  obtain ⟨f, hf, e⟩ := List.mem_map.mp h
  exact ⟨f, hf, e⟩
theorem in_rows {f : Fm} (hf : f ∈ formsL) : f.w ∈ rowsW := by
  rw [← formsW]
  exact List.mem_map_of_mem hf
theorem in_place : ∀ f ∈ formsL, (f.w ∈ placeW ↔ f.place ≠ 0) ∧ 0 ≤ f.place ∧ f.place < 8 ∧ f.row.length = 8 ∧ 0 ≤ f.most := by decide +kernel
theorem kplace (T : Txt K mg a) {f : Fm} (hf : f ∈ formsL) (hp : f.place ≠ 0) : KDct K a.w a.k_PLACES f.w (.int f.place) ∧ KDct K a.w a.k_HIGHEST f.w (.int f.most) := by
  simp only [formsL, List.mem_cons, List.not_mem_nil, or_false] at hf
  rcases hf with rfl | rfl | rfl | rfl | rfl | rfl | rfl | rfl
  · exact absurd rfl hp
  · exact absurd rfl hp
  · exact ⟨T.v_PLACES_0, T.v_HIGHEST_0⟩
  · exact ⟨T.v_PLACES_1, T.v_HIGHEST_1⟩
  · exact ⟨T.v_PLACES_2, T.v_HIGHEST_2⟩
  · exact ⟨T.v_PLACES_3, T.v_HIGHEST_3⟩
  · exact ⟨T.v_PLACES_4, T.v_HIGHEST_4⟩
  · exact ⟨T.v_PLACES_5, T.v_HIGHEST_5⟩
theorem krow (T : Txt K mg a) {f : Fm} (hf : f ∈ formsL) : ∃ p, KDct K a.w a.k_ROWS f.w (.ref p) ∧ KTup K p (f.row.map V.int) := by
  simp only [formsL, List.mem_cons, List.not_mem_nil, or_false] at hf
  rcases hf with rfl | rfl | rfl | rfl | rfl | rfl | rfl | rfl
  · exact ⟨_, T.v_ROWS_0, T.kt_ROWS_0⟩
  · exact ⟨_, T.v_ROWS_1, T.kt_ROWS_1⟩
  · exact ⟨_, T.v_ROWS_2, T.kt_ROWS_2⟩
  · exact ⟨_, T.v_ROWS_3, T.kt_ROWS_3⟩
  · exact ⟨_, T.v_ROWS_4, T.kt_ROWS_4⟩
  · exact ⟨_, T.v_ROWS_5, T.kt_ROWS_5⟩
  · exact ⟨_, T.v_ROWS_6, T.kt_ROWS_6⟩
  · exact ⟨_, T.v_ROWS_7, T.kt_ROWS_7⟩
theorem rq_open {H : Hp} {v : V} {w : Str} {ns : List Int} (h : Dp K H v (rqD w ns)) : ∃ p, v = .ref p ∧ SqT K H p (.str w :: ns.map V.int) := by
  obtain ⟨p, xs, rfl, h1, h2⟩ := h.tupE
  obtain ⟨v1, r1, rfl, a1, h3⟩ := h2.consE
  have e := DpAll.intsE (ns := ns) h3
  cases a1.strE
  subst e
  exact ⟨p, rfl, h1⟩
theorem rq_mk {H : Hp} {p : Addr} {w : Str} {ns : List Int} (h : SqT K H p (.str w :: ns.map V.int)) : Dp K H (.ref p) (rqD w ns) := .tup h (.cons (.str w) (DpAll.ints ns))
theorem rd_is_request (T : Txt K mg a) : RD (sp_is_request K a) (t_is_request K a) N_is_request := by
  rintro vs H Q E ⟨v, w, ns, rfl, hd, q⟩
  obtain ⟨p, rfl, hS⟩ := rq_open hd
  show t_is_request K a _ [some (.ref p), none] H
  unfold t_is_request
  walk_at "sm"
  refine ⟨_, .inr hS, iteN (decide_eq_false (by simp; omega)) ⟨_, hS, _, atH _ _, isi (.str w) (by decide) ⟨true, rfl, iteF ⟨_, hS, _, atH _ _, _, _, rfl, rfl, rowsW, T.t_ROWS, ?_⟩⟩⟩⟩
  refine iteB (fun c => ?_) (fun c => ?_)
  · rw [rowOf_no (by simpa using c)] at q
    exact q
  · have c : w ∈ rowsW := by simpa using c
    obtain ⟨f, hf, rfl⟩ := of_word c
    rw [rowOf_f hf] at q
    obtain ⟨ip, p0, p8, _, _⟩ := in_place f hf
    refine ⟨_, hS, _, atH _ _, _, _, rfl, rfl, placeW, T.t_PLACES, ?_⟩
    refine iteB (fun c2 => ?_) (fun c2 => ?_)
    · have c2 : f.place = 0 := Decidable.byContradiction fun z => by
        have := ip.mpr z
        rw [decide_eq_true this] at c2
        exact Bool.noConfusion c2
      refine ⟨_, .inr hS, ?_⟩
      have e : (stepOf f f.w ns).isSome = decide (((V.str f.w :: ns.map V.int).length : Int) = 1) := by
        unfold stepOf
        rw [if_pos rfl]
        rcases ns with _ | ⟨n, _ | ⟨m, ns⟩⟩
        · rw [if_pos c2]
          rfl
        · simp [c2]
        · simp
          omega
      rw [e] at q
      exact q
    · have c2 : f.place ≠ 0 := ip.mp (by simpa using c2)
      refine ⟨_, .inr hS, ?_⟩
      rcases ns with _ | ⟨n, _ | ⟨m, ns⟩⟩
      · refine iteN (decide_eq_false (by simp)) ?_
        have e : stepOf f f.w [] = none := by
          unfold stepOf
          rw [if_pos rfl]
          exact if_neg c2
        rw [e] at q
        exact q
      · refine iteY (decide_eq_true (by simp)) ?_
        refine ⟨_, hS, _, rfl, _, _, _, rfl, rfl, (kplace T hf c2).2, ?_⟩
        refine ⟨_, _, _, _, rfl, .int n, (fun b z => nomatch z), ?_⟩
        have e : (stepOf f f.w [n]).isSome = isNum (.int n) 0 f.most := by
          unfold stepOf isNum
          rw [if_pos rfl]
          dsimp only
          rw [if_neg c2]
          by_cases h1 : 0 ≤ n <;> by_cases h2 : n ≤ f.most <;> simp [h1, h2, c2]
        rw [e] at q
        exact q
      · refine iteN (decide_eq_false (by simp; omega)) ?_
        have e : stepOf f f.w (n :: m :: ns) = none := by
          unfold stepOf
          rw [if_pos rfl]
        rw [e] at q
        exact q
theorem rd_need_request : RDX (sp_need_request K a) (t_need_request K a) N_need_request := by
  rintro vs H Q E ⟨v, w, ns, rfl, hd, q1, q2⟩
  show t_need_request K a E _ [some v] H
  unfold t_need_request
  walk_at "sm"
  refine ⟨v, w, ns, rfl, hd, _, rfl, iteB (fun h => q2 (by simpa using h)) (fun h => q1 (by simpa using h))⟩
theorem rd_asks (T : Txt K mg a) : RDX (sp_asks K a) (t_asks K a) N_asks := by
  rintro vs H Q E ⟨v, w, ns, rfl, hd, q1, q2⟩
  obtain ⟨p, rfl, hS⟩ := rq_open hd
  show t_asks K a E _ [some (.ref p)] H
  unfold t_asks
  walk_at "sm"
  refine ⟨_, w, ns, rfl, hd, fun h => ?_, q2⟩
  refine ⟨_, hS, _, atH _ _, ?_⟩
  refine ⟨_, askW.map V.str, rfl, .inr (T.t_ASKING.sq H), rfl, by decide, ?_⟩
  rw [inV_strs]
  exact q1 h
/-- where a first answer stands -/
theorem findSome_at {α β : Type} {G : α → Option β} {r : β} : ∀ {l : List α} {j : Nat} {g : α}, (∀ i x, i < j → l[i]? = some x → G x = none) → l[j]? = some g → G g = some r → l.findSome? G = some r
  | [], j, g, _, h, _ => by simp at h
  | x :: l, 0, g, _, h, e => by
    have : x = g := by simpa using h
    subst this
    rw [List.findSome?_cons, e]
  | x :: l, j + 1, g, hn, h, e => by
    rw [List.findSome?_cons, hn 0 x (by omega) rfl]
    exact findSome_at (j := j) (fun i y hi hy => hn (i + 1) y (by omega) (by simpa using hy)) (by simpa using h) e
theorem findSome_all {α β : Type} {G : α → Option β} {l : List α} (h : ∀ i x, i < l.length → l[i]? = some x → G x = none) : l.findSome? G = none := findSome_none fun g hg => by
  obtain ⟨i, hi, e⟩ := List.getElem_of_mem hg
  exact h i g hi (by rw [List.getElem?_eq_getElem hi, e])
theorem form_at {j : Nat} {x : Str} (h : rowsW[j]? = some x) : ∃ f, formsL[j]? = some f ∧ f ∈ formsL ∧ f.w = x := by
  rw [← formsW, List.getElem?_map] at h
  obtain ⟨f, e1, e2⟩ := Option.map_eq_some_iff.mp h
  exact ⟨f, e1, List.mem_of_getElem? e1, e2⟩
theorem set_put {f : Fm} {n : Int} (h0 : 0 ≤ f.place) (h8 : f.place < 8) (hl : f.row.length = 8) : (f.row.map V.int).set f.place.toNat (V.int n) = (putR f n).map V.int := by
  unfold putR
  rw [← List.map_set, List.set_eq_take_append_cons_drop, if_pos (by omega)]
  simp
theorem rd_request_bytes (T : Txt K mg a) : RDX (sp_request_bytes K a) (t_request_bytes K a) N_request_bytes := by
  rintro vs H Q E ⟨v, w, ns, rfl, hd, q1, q2⟩
  obtain ⟨p, rfl, hS⟩ := rq_open hd
  show t_request_bytes K a E _ [some (.ref p), none, none] H
  unfold t_request_bytes
  walk_at "sm"
  refine ⟨_, w, ns, rfl, hd, fun h => ?_, fun h => q2 (by simpa using h)⟩
  have hw : w ∈ rowsW := Decidable.byContradiction fun z => by
    rw [rowOf_no z] at h
    exact Bool.noConfusion h
  obtain ⟨f, hf, rfl⟩ := of_word hw
  obtain ⟨ip, p0, p8, hl, _⟩ := in_place f hf
  obtain ⟨pr, k1, k2⟩ := krow T hf
  rw [rowOf_f hf] at q1 h
  refine ⟨_, hS, _, atH _ _, ?_⟩
  refine ⟨_, _, _, rfl, rfl, k1, _, rfl, _, .inr (k2.sq H), fun l hl' => ?_⟩
  have e1 := Ex.new hl' (o := .lst (f.row.map V.int))
  refine ⟨_, _, rfl, rfl, placeW, T.t_PLACES, iteB (fun c => ?_) (fun c => ?_)⟩
  · have c2 : f.place ≠ 0 := ip.mp (by simpa using c)
    unfold stepOf at q1 h
    rw [if_pos rfl] at q1 h
    rcases ns with _ | ⟨n, _ | ⟨m, ns⟩⟩
    · dsimp only at h
      rw [if_neg c2] at h
      exact Bool.noConfusion h
    · dsimp only at h q1
      rw [if_neg c2] at h q1
      by_cases c3 : 0 ≤ n ∧ n ≤ f.most
      · rw [if_pos c3] at q1
        refine ⟨_, Ex.sqT e1 hS, _, rfl, _, _, _, rfl, rfl, (kplace T hf c2).1, ?_⟩
        dsimp only
        refine ⟨_, _, rfl, upd_same, f.place.toNat, ?_, _, .inl ⟨SqL.of upd_same, fun t ht => ?_⟩⟩
        · unfold ixN
          rw [if_pos p0, if_pos (by rw [List.length_map]; omega)]
        · refine q1 _ rfl t _ (Same.trans (e1.mut hl') (Ex.new ht)) (SqT.of ?_)
          rw [upd_same, set_put p0 p8 hl]
      · rw [if_neg c3] at h
        exact Bool.noConfusion h
    · exact Bool.noConfusion h
  · have c2 : f.place = 0 := Decidable.byContradiction fun z => by
      have := ip.mpr z
      rw [decide_eq_true this] at c
      exact Bool.noConfusion c
    unfold stepOf at q1 h
    rw [if_pos rfl] at q1 h
    rcases ns with _ | ⟨n, _ | ⟨m, ns⟩⟩
    · dsimp only at q1
      rw [if_pos c2] at q1
      refine ⟨_, .inl ⟨SqL.of upd_same, fun t ht => ?_⟩⟩
      exact q1 _ rfl t _ (Same.trans e1 (Ex.new ht)) (SqT.of upd_same)
    · dsimp only at h
      rw [if_pos c2] at h
      exact Bool.noConfusion h
    · exact Bool.noConfusion h
theorem rd_likely_request (T : Txt K mg a) : RD (sp_likely_request K a) (t_likely_request K a) N_likely_request := by
  rintro vs H Q E ⟨f, p, row, rfl, hf, hS, hl, q⟩
  obtain ⟨ip, p0, p8, _, _⟩ := in_place f hf
  show t_likely_request K a _ [some (.str f.w), some (.ref p)] H
  unfold t_likely_request
  walk_at "sm"
  refine ⟨placeW, T.t_PLACES, iteB (fun c => ?_) (fun c => ?_)⟩
  · have c2 : f.place ≠ 0 := ip.mp (by simpa using c)
    refine ⟨_, _, _, rfl, rfl, (kplace T hf c2).1, _, _, rfl, hS, .int (row.getD f.place.toNat 0), at_of (j := f.place.toNat) (by omega) ?_, up2, fun t ht => q _ _ (Ex.new ht) ?_⟩
    · rw [List.getElem?_map, List.getElem?_eq_getElem (by omega), List.getD_eq_getElem?_getD, List.getElem?_eq_getElem (by omega)]
      rfl
    · unfold likelyF
      rw [if_neg c2]
      exact rq_mk (SqT.of upd_same)
  · have c2 : f.place = 0 := Decidable.byContradiction fun z => by
      have := ip.mpr z
      rw [decide_eq_true this] at c
      exact Bool.noConfusion c
    refine ⟨up1, fun t ht => q _ _ (Ex.new ht) ?_⟩
    unfold likelyF
    rw [if_pos c2]
    exact rq_mk (SqT.of upd_same)
theorem forKK {tl : TE} {g : TG} {tb : TS} {D : Ends} {σ : L2.St} {H : Hp} {d : Addr} {ks : List Str} (i : Nat) (Pv : Nat → L2.St → Hp → Prop) (ht : ∀ R : VK, R (.ref d) H → tl σ H R) (hK : KKeys K d ks) (h0 : Pv 0 σ H)
    (hs : ∀ j x σ H, ks[j]? = some x → Pv j σ H → tb { D with nx := Pv (j + 1), ct := Pv (j + 1), bk := D.nx } (σ.set i (some (.str x))) H) (hd : ∀ σ H, Pv ks.length σ H → D.nx σ H)
    (hg : g = gName i := by rfl) : tFor (iKKeys K tl) g tb D σ H := by
  subst hg
  refine ht _ ⟨d, ks, rfl, hK, fun j m σ H => m = ks.length - j ∧ j ≤ ks.length ∧ Pv j σ H, ⟨ks.length, by simp, Nat.zero_le _, h0⟩, ?_⟩
  rintro j m σ H ⟨rfl, hj, p⟩
  by_cases hlt : j < ks.length
  · refine .inr ⟨hlt, Pv (j + 1), fun σ' H' p' => ⟨ks.length - (j + 1), by omega, rfl, hlt, p'⟩, fun x H' y => ?_⟩
    obtain ⟨rfl, x', hx, rfl⟩ := y
    exact hs j x' σ _ hx p
  · have e : j = ks.length := by omega
    subst e
    exact .inl ⟨Nat.le_refl _, hd σ H p⟩
theorem rd_read_request (T : Txt K mg a) : RDX (sp_read_request K a) (t_read_request K a) N_read_request := by
  rintro vs H Q E ⟨p, row, rfl, hS, q1, q2⟩
  show t_read_request K a E _ [some (.ref p), none, none] H
  unfold t_read_request
  walk_at "sm"
  refine ⟨_, .inr hS, ?_⟩
  rw [List.length_map]
  refine iteP (fun c => ?_) (fun c => ?_)
  · have hl : row.length = 8 := by omega
    have er : readOf row = formsL.findSome? (readF row) := if_pos hl
    rw [er] at q1 q2
    refine forKK 1 (fun j σ H' => (∃ x y, σ = [some (.ref p), x, y]) ∧ Ex H H' ∧ ∀ i g, i < j → formsL[i]? = some g → readF row g = none) (fun R r => r) (ks := rowsW) T.t_ROWS.kkeys ⟨⟨_, _, rfl⟩, Same.refl _, fun i g hi => absurd hi (by omega)⟩ ?_ ?_
    · rintro j x σ H1 hx ⟨⟨x1, x2, rfl⟩, e1, hn⟩
      obtain ⟨f, hf1, hf, rfl⟩ := form_at hx
      have hS1 := Ex.sqT e1 hS
      walk_at "sm"
      refine ⟨f, p, row, rfl, hf, hS1, hl, fun v H2 e2 d2 => ?_⟩
      refine ⟨v, _, _, rfl, d2, _, rfl, ?_⟩
      have next : ∀ H3, Ex H2 H3 → readF row f = none → (∃ x y, [some (V.ref p), some (.str f.w), some v] = [some (.ref p), x, y]) ∧ Ex H H3 ∧ ∀ i g, i < j + 1 → formsL[i]? = some g → readF row g = none := by
        intro H3 e3 hno
        refine ⟨⟨_, _, rfl⟩, Same.trans e1 (Same.trans e2 e3), fun i g hi hg => ?_⟩
        by_cases hij : i = j
        · subst hij
          rw [hf1] at hg
          cases hg
          exact hno
        · exact hn i g (by omega) hg
      cases er2 : rowOf f.w (likelyF f row) with
      | none =>
        refine iteN rfl ⟨⟨_, rfl⟩, Same.trans e1 e2, ?_⟩
        refine (next H2 (Same.refl _) ?_).2.2
        unfold readF
        rw [if_neg (by rw [er2]; exact fun z => nomatch z)]
      | some r =>
        refine iteY rfl ⟨v, _, _, rfl, d2, fun r' hr' t H3 e3 h3 => ?_, fun z => nomatch er2.symm.trans z⟩
        rw [er2] at hr'
        cases hr'
        refine ⟨_, _, Dp.intsT h3, Dp.intsT (Ex.sqT (Same.trans e2 e3) hS1), shapedT _, shapedT _, ?_⟩
        rw [eqvT]
        refine ⟨_, rfl, iteP (fun c3 => ?_) (fun c3 => ?_)⟩
        · subst c3
          refine q1 f.w (likelyF f r) (findSome_at (fun i x hi hx => hn i x hi hx) hf1 ?_) v H3 (Same.trans e1 (Same.trans e2 e3)) (Ex.dp e3 _ _ d2)
          unfold readF
          rw [if_pos er2]
        · refine ⟨⟨_, rfl⟩, Same.trans e1 (Same.trans e2 e3), ?_⟩
          refine (next H3 e3 ?_).2.2
          unfold readF
          rw [if_neg (by rw [er2]; exact fun z => c3 (Option.some.inj z))]
    · rintro σ H1 ⟨⟨x1, x2, rfl⟩, e1, hn⟩
      refine q2 (findSome_all fun i x hi hx => hn i x hi hx) H1 e1
  · exact q2 (if_neg fun z => c (by omega)) H (Same.refl _)
end
end My

namespace My
open PySem PySem.Spec PyProof.Rows L2
section
variable {P : Program} {w : World} {K : PySem.W.Frag} {mg : Str → Option Value} {base : Heap} {a : Ad}
local macro_rules | `(tactic| walk_at "sm") => `(tactic| try simp only [tSeq, tAsg, tVar, tC, tOp, tUn, tRet, tRetN, tDrop, tIfS, tNext, tAnd, tOr, tNot, tB, tTest, tChain, tAndV, tOrV, tNotV, tIf, tCB, tCons, tNil, tCall, tCallS, tPar, rInt1, rInKD, rNotInKD, tLst, tTup, tSl, tNoPart, tPart,
  tAug, ipI, gName, gSub, gTup, gCons, gNil, rI0, rI, rU, rEq, rNe, rIsN, rNotN, rAddI, rSubI, rMulI, rModI, rDivW, rPowI, rShlI, rShrI, rAndI, rOrI, rXorI, rLtI, rLeI, rGtI, rGeI, rNegI, rIxL, rIxT, rLenQ, rListOf, rTupleOf, rSetL, tRevL, tRaiseC, rSlL,
  List.getElem?_cons_zero, List.getElem?_cons_succ, List.set_cons_zero, List.set_cons_succ, Option.some.injEq, V.int.injEq, V.bl.injEq, V.ref.injEq, V.str.injEq, exists_eq_left', exists_eq_left, exists_and_left, List.cons.injEq, and_true, true_and, List.append_nil, scal, Int.reduceToNat, if_true, if_false, Bool.false_eq_true])
local macro_rules | `(tactic| walk_at "bg") => `(tactic| repeat (first
  | refine ⟨_, SqL.of (by assumption), _, rfl, ?_⟩
  | refine ⟨_, SqL.of upd_same, _, rfl, ?_⟩
  | refine ⟨_, rfl, ?_⟩
  | refine ⟨_, (by assumption), _, rfl, ?_⟩
  | refine ⟨_, upd_same, _, rfl, ?_⟩
  | refine ⟨Or.inr ⟨by omega, by omega⟩, ?_⟩
  | refine ⟨Or.inl ⟨by omega, by omega⟩, ?_⟩
  | refine ⟨(show (0 : Int) < _ by omega), ?_⟩
  | refine ⟨_, .inl (SqL.of upd_same), ?_⟩
  | refine ⟨_, .inl (by assumption), ?_⟩))
local macro_rules | `(tactic| walk_at "ty") => `(tactic| try simp only [tyS, tyL, tyT, if_true, if_false, Bool.false_eq_true, reduceCtorEq, decide_false, decide_true, exists_eq_left', exists_eq_left, V.bl.injEq, and_true, true_and, Bool.not_true, Bool.not_false, decide_eq_true_eq, Bool.true_and, Bool.and_true])
theorem rd__law_forms : RD (sp__law_forms K a) (t__law_forms K a) N__law_forms := by
  rintro vs H Q E ⟨rfl, q⟩
  show t__law_forms K a _ [none] H
  unfold t__law_forms
  have row8 : ∀ {a b c d e f g h : Int} {σ : L2.St}, EvD K (tTup (tCons (tC (.int a)) (tCons (tC (.int b)) (tCons (tC (.int c)) (tCons (tC (.int d)) (tCons (tC (.int e)) (tCons (tC (.int f)) (tCons (tC (.int g)) (tCons (tC (.int h)) tNil))))))))) σ (.tuple ([a, b, c, d, e, f, g, h].map PyData.int)) :=
    evTup (evCons evInt (evCons evInt (evCons evInt (evCons evInt (evCons evInt (evCons evInt (evCons evInt (evCons evInt evNil)))))))) (by show 8 ≤ 1000; decide)
  have form : ∀ (w : Str) (m : Int) (te : TE) (ns : List Int) (p : Int) (σ : L2.St), EvD K te σ (.tuple (ns.map PyData.int)) → EvD K (tTup (tCons (tC (.str w)) (tCons (tC (.int m)) (tCons te (tCons (tC (.int p)) tNil))))) σ (Fm.d ⟨w, m, ns, p⟩) :=
    fun w m te ns p σ h => evTup (evCons evStr (evCons evInt (evCons h (evCons evInt evNil)))) (by show 4 ≤ 1000; decide)
  have two : ∀ {f g : Fm} {t u : TE} {σ : L2.St}, EvD K t σ f.d → EvD K u σ g.d → EvDs K (tCons t (tCons u tNil)) σ [f.d, g.d] := fun h1 h2 => evCons h1 (evCons h2 evNil)
  dsimp only [tSeq, tAsg, gName]
  refine evLst (two (form _ _ _ _ _ _ row8) (form _ _ _ _ _ _ row8)) (by show 2 ≤ 1000; decide) fun p0 xs0 H0 n0 e0 h0 d0 => ?_
  dsimp only [tOp, tVar, List.set_cons_zero, List.getElem?_cons_zero]
  refine ⟨_, rfl, evLst (two (form _ _ _ _ _ _ row8) (form _ _ _ _ _ _ row8)) (by show 2 ≤ 1000; decide) fun p1 xs1 H1 n1 e1 h1 d1 => ?_⟩
  have l0 := DpAll.len d0
  have l1 := DpAll.len d1
  refine ⟨_, _, _, _, rfl, rfl, e1 _ _ h0, h1, by rw [l0, l1]; decide, fun p2 hp2 => ?_⟩
  have d2 := Ex.dpAll (Ex.new hp2 (o := .lst (xs0 ++ xs1))) _ _ (DpAll.app (Ex.dpAll e1 _ _ d0) d1)
  have h2 : upd H1 p2 (.lst (xs0 ++ xs1)) p2 = some (.lst (xs0 ++ xs1)) := upd_same
  have e2 := Same.trans e0 (Same.trans e1 (Ex.new hp2 (o := .lst (xs0 ++ xs1))))
  generalize upd H1 p2 (.lst (xs0 ++ xs1)) = H2 at d2 h2 e2 ⊢
  refine ⟨_, rfl, evLst (two (form _ _ _ _ _ _ row8) (form _ _ _ _ _ _ row8)) (by show 2 ≤ 1000; decide) fun p3 xs3 H3 n3 e3 h3 d3 => ?_⟩
  have l2 := DpAll.len d2
  have l3 := DpAll.len d3
  refine ⟨_, _, _, _, rfl, rfl, e3 _ _ h2, h3, by rw [l2, l3]; decide, fun p4 hp4 => ?_⟩
  have d4 := Ex.dpAll (Ex.new hp4 (o := .lst (xs0 ++ xs1 ++ xs3))) _ _ (DpAll.app (Ex.dpAll e3 _ _ d2) d3)
  have h4 : upd H3 p4 (.lst (xs0 ++ xs1 ++ xs3)) p4 = some (.lst (xs0 ++ xs1 ++ xs3)) := upd_same
  have e4 := Same.trans e2 (Same.trans e3 (Ex.new hp4 (o := .lst (xs0 ++ xs1 ++ xs3))))
  generalize upd H3 p4 (.lst (xs0 ++ xs1 ++ xs3)) = H4 at d4 h4 e4 ⊢
  dsimp only [tRet, tOp, tVar, List.getElem?_cons_zero]
  refine ⟨_, rfl, evLst (two (form _ _ _ _ _ _ row8) (form _ _ _ _ _ _ row8)) (by show 2 ≤ 1000; decide) fun p5 xs5 H5 n5 e5 h5 d5 => ?_⟩
  have l4 := DpAll.len d4
  have l5 := DpAll.len d5
  refine ⟨_, _, _, _, rfl, rfl, e5 _ _ h4, h5, by rw [l4, l5]; decide, fun p6 hp6 => ?_⟩
  have e6 := Same.trans e4 (Same.trans e5 (Ex.new hp6 (o := .lst (xs0 ++ xs1 ++ xs3 ++ xs5))))
  refine q p6 _ _ e6 ((Same.trans e4 e5).free hp6) (SqL.of upd_same) ?_
  exact Ex.dpAll (Ex.new hp6) _ _ (DpAll.app (Ex.dpAll e5 _ _ d4) d5)
theorem fm_open {H : Hp} {v : V} {f : Fm} (h : Dp K H v f.d) : ∃ p t, v = .ref p ∧ SqT K H p [.str f.w, .int f.most, .ref t, .int f.place] ∧ SqT K H t (f.row.map V.int) := by
  obtain ⟨p, xs, rfl, h1, h2⟩ := h.tupE
  obtain ⟨v1, r1, rfl, a1, h2⟩ := h2.consE
  obtain ⟨v2, r2, rfl, a2, h2⟩ := h2.consE
  obtain ⟨v3, r3, rfl, a3, h2⟩ := h2.consE
  obtain ⟨v4, r4, rfl, a4, h2⟩ := h2.consE
  cases h2.nilE
  cases a1.strE
  cases a2.intE
  cases a4.intE
  obtain ⟨t, rfl, b1⟩ := a3.intsE
  exact ⟨p, t, rfl, h1, b1⟩
theorem rd__law_row : RD (sp__law_row K a) (t__law_row K a) N__law_row := by
  rintro vs H Q E ⟨v, w, ns, rfl, hd, q⟩
  obtain ⟨p, rfl, hS⟩ := rq_open hd
  show t__law_row K a _ [some (.ref p), none, none, none, none] H
  unfold t__law_row
  dsimp only [tSeq]
  refine forLC (fun l xs H0 => Ex H H0 ∧ SqL K H0 l xs ∧ DpAll K H0 xs (formsL.map Fm.d)) (fun l xs j σ H' => (∃ x1 x2 x3 x4, σ = [some (.ref p), x1, x2, x3, x4]) ∧ (Ex H H' ∧ SqL K H' l xs ∧ DpAll K H' xs (formsL.map Fm.d)) ∧ ∀ i g, i < j → formsL[i]? = some g → stepOf g w ns = none) ?ht (fun _ _ _ h => h.2.1) (fun _ _ _ h => ⟨⟨_, _, _, _, rfl⟩, h, fun i g hi => absurd hi (by omega)⟩) (fun _ _ _ _ _ h => h.2.1.2.1) ?hs ?hd
  case ht =>
    intro R r
    walk_at "sm"
    exact ⟨rfl, fun l xs H1 e1 hl h1 d1 => r l xs H1 ⟨e1, h1, d1⟩⟩
  case hd =>
    rintro l xs σ H' ⟨⟨x1, x2, x3, x4, rfl⟩, ⟨e1, h1, d1⟩, hn⟩
    walk_at "sm"
    have : rowOf w ns = none := findSome_all fun i x hi hx => hn i x (by rw [DpAll.len d1, List.length_map]; exact hi) hx
    rw [this] at q
    exact q _ H' e1 (.str "bad")
  case hs =>
    rintro l xs j x σ H1 hx ⟨⟨x1, x2, x3, x4, rfl⟩, ⟨e1, h1, d1⟩, hn⟩
    have hj : j < formsL.length := by
      have := (List.getElem?_eq_some_iff.mp hx).1
      rw [DpAll.len d1, List.length_map] at this
      exact this
    have hf1 : formsL[j]? = some formsL[j] := List.getElem?_eq_getElem hj
    have hf := List.getElem_mem hj
    generalize formsL[j] = f at hf1 hf
    obtain ⟨v', hv1, hv2⟩ := DpAll.get d1 (show (formsL.map Fm.d)[j]? = some f.d by rw [List.getElem?_map, hf1]; rfl)
    rw [hx] at hv1
    cases hv1
    obtain ⟨pf, t, rfl, hF, hT⟩ := fm_open hv2
    obtain ⟨ip, p0, p8, hl8, hm⟩ := in_place f hf
    have hS1 := Ex.sqT e1 hS
    have next : stepOf f w ns = none → (Ex H H1 ∧ SqL K H1 l xs ∧ DpAll K H1 xs (formsL.map Fm.d)) ∧ ∀ i g, i < j + 1 → formsL[i]? = some g → stepOf g w ns = none := by
      intro hno
      refine ⟨⟨e1, h1, d1⟩, fun i g hi hg => ?_⟩
      by_cases hij : i = j
      · subst hij
        rw [hf1] at hg
        cases hg
        exact hno
      · exact hn i g (by omega) hg
    have good : ∀ r, stepOf f w ns = some r → ∀ v' H', Ex H1 H' → Dp K H' v' (.tuple (r.map PyData.int)) → Q v' H' := by
      intro r hr v' H' e' d'
      have : rowOf w ns = some r := findSome_at (fun i x hi hx => hn i x hi hx) hf1 hr
      rw [this] at q
      exact q v' H' (Same.trans e1 e') d'
    refine ⟨_, _, rfl, hF, rfl, _, _, rfl, _, _, rfl, _, _, rfl, _, _, rfl, rfl, ?_⟩
    walk_at "sm"
    refine ⟨_, hS1, _, atH _ _, rfl, iteP (fun c => ?_) (fun c => ?_)⟩
    · have c : f.w = w := V.str.inj c
      subst c
      refine ⟨_, .inr hS1, .inr ?_⟩
      have st : ∀ ns : List Int, stepOf f f.w ns = (match ns with
        | [] => if f.place = 0 then some f.row else none
        | [n] => if f.place = 0 then none else if 0 ≤ n ∧ n ≤ f.most then some (putR f n) else none
        | _ => none) := fun ns => if_pos rfl
      by_cases z : f.place = 0
      · rcases ns with _ | ⟨n, ns⟩
        · refine iteY (decide_eq_true (by simp [z])) (iteY (decide_eq_true z) ?_)
          refine good f.row ?_ _ _ (Same.refl _) (Dp.intsT hT)
          rw [st]
          exact if_pos z
        · refine iteN (decide_eq_false (by simp [z]; omega)) ?_
          have hno : stepOf f f.w (n :: ns) = none := by
            rw [st]
            cases ns with
            | nil => exact if_pos z
            | cons m ns => rfl
          exact ⟨⟨_, rfl⟩, (next hno).1, (next hno).2⟩
      · have zp : (0 : Int) < f.place := by omega
        rcases ns with _ | ⟨n, _ | ⟨m, ns⟩⟩
        · refine iteN (decide_eq_false (by simp [zp])) ?_
          have hno : stepOf f f.w [] = none := by
            rw [st]
            exact if_neg z
          exact ⟨⟨_, rfl⟩, (next hno).1, (next hno).2⟩
        · refine iteY (decide_eq_true (by simp [zp])) (iteN (decide_eq_false z) ?_)
          refine ⟨_, hS1, _, rfl, _, rfl, iteP (fun c1 => ?_) (fun c1 => ?_)⟩
          · refine ⟨_, rfl, iteP (fun c2 => ?_) (fun c2 => ?_)⟩
            · have hr : stepOf f f.w [n] = some (putR f n) := by
                rw [st]
                dsimp only
                rw [if_neg z, if_pos ⟨c1, c2⟩]
              refine slT_go hT fun t1 H2 e2 h2 => ⟨_, Ex.sqT e2 hS1, _, rfl, up1, fun u hu => ?_⟩
              rw [cut_take p0] at h2
              refine catT_go (Ex.sqT (Ex.new hu) h2) (SqT.of upd_same) (by rw [List.length_take, List.length_map, hl8]; show _ + 1 ≤ _; omega) fun t3 H3 e3 h3 => ?_
              have e23 := Same.trans e2 (Same.trans (Ex.new hu) e3)
              refine slT_go (Ex.sqT e23 hT) fun t4 H4 e4 h4 => ?_
              rw [cut_drop (show 0 ≤ f.place + 1 by omega)] at h4
              refine catT_go (Ex.sqT e4 h3) h4 (by rw [List.length_append, List.length_take, List.length_drop, List.length_map, hl8]; show _ + 1 + _ ≤ _; omega) fun t5 H5 e5 h5 => ?_
              refine good _ hr _ _ (Same.trans e23 (Same.trans e4 e5)) (Dp.intsT ?_)
              have ee : (f.place + 1).toNat = f.place.toNat + 1 := by omega
              rw [ee] at h5
              unfold putR
              simpa using h5
            · have hno : stepOf f f.w [n] = none := by
                rw [st]
                dsimp only
                rw [if_neg z, if_neg fun y => c2 y.2]
              exact ⟨⟨_, rfl⟩, (next hno).1, (next hno).2⟩
          · have hno : stepOf f f.w [n] = none := by
              rw [st]
              dsimp only
              rw [if_neg z, if_neg fun y => c1 y.1]
            exact ⟨⟨_, rfl⟩, (next hno).1, (next hno).2⟩
        · refine iteN (decide_eq_false (by simp [zp]; omega)) ?_
          have hno : stepOf f f.w (n :: m :: ns) = none := by rw [st]
          exact ⟨⟨_, rfl⟩, (next hno).1, (next hno).2⟩
    · have hno : stepOf f w ns = none := by
        unfold stepOf
        rw [if_neg fun z => c (by rw [z])]
      exact ⟨⟨_, rfl⟩, (next hno).1, (next hno).2⟩
theorem rd__law_read : RD (sp__law_read K a) (t__law_read K a) N__law_read := by
  rintro vs H Q E ⟨p, row, rfl, hS, q⟩
  show t__law_read K a _ [some (.ref p), none, none, none, none, none] H
  unfold t__law_read
  walk_at "sm"
  refine ⟨_, .inr hS, ?_⟩
  rw [List.length_map]
  have fin : ∀ H' σ, Ex H H' → readOf row = none → tRet (tC (.str ("bad" : Str))) { nx := fun _ H' => Q .non H', rt := Q } σ H' := by
    intro H' σ e' hn
    walk_at "sm"
    rw [hn] at q
    exact q _ H' e' (.str _)
  refine iteP (fun c => ?_) (fun c => ?_)
  · have hl : row.length = 8 := by omega
    have er : readOf row = formsL.findSome? (readF row) := if_pos hl
    refine forLC (fun l xs H0 => Ex H H0 ∧ SqL K H0 l xs ∧ DpAll K H0 xs (formsL.map Fm.d)) (fun l xs j σ H' => (∃ x1 x2 x3 x4 x5, σ = [some (.ref p), x1, x2, x3, x4, x5]) ∧ (Ex H H' ∧ SqL K H' l xs ∧ DpAll K H' xs (formsL.map Fm.d)) ∧ ∀ i g, i < j → formsL[i]? = some g → readF row g = none) ?ht (fun _ _ _ h => h.2.1) (fun _ _ _ h => ⟨⟨_, _, _, _, _, rfl⟩, h, fun i g hi => absurd hi (by omega)⟩) (fun _ _ _ _ _ h => h.2.1.2.1) ?hs ?hd
    case ht =>
      intro R r
      walk_at "sm"
      exact ⟨rfl, fun l xs H1 e1 hl h1 d1 => r l xs H1 ⟨e1, h1, d1⟩⟩
    case hd =>
      rintro l xs σ H' ⟨⟨x1, x2, x3, x4, x5, rfl⟩, ⟨e1, h1, d1⟩, hn⟩
      exact fin H' [some (.ref p), x1, x2, x3, x4, x5] e1 (er.trans (findSome_all fun i x hi hx => hn i x (by rw [DpAll.len d1, List.length_map]; exact hi) hx))
    case hs =>
      rintro l xs j x σ H1 hx ⟨⟨x1, x2, x3, x4, x5, rfl⟩, ⟨e1, h1, d1⟩, hn⟩
      have hj : j < formsL.length := by
        have := (List.getElem?_eq_some_iff.mp hx).1
        rw [DpAll.len d1, List.length_map] at this
        exact this
      have hf1 : formsL[j]? = some formsL[j] := List.getElem?_eq_getElem hj
      have hf := List.getElem_mem hj
      generalize formsL[j] = f at hf1 hf
      obtain ⟨v', hv1, hv2⟩ := DpAll.get d1 (show (formsL.map Fm.d)[j]? = some f.d by rw [List.getElem?_map, hf1]; rfl)
      rw [hx] at hv1
      cases hv1
      obtain ⟨pf, t, rfl, hF, hT⟩ := fm_open hv2
      obtain ⟨ip, p0, p8, hl8, hm⟩ := in_place f hf
      have hS1 := Ex.sqT e1 hS
      refine ⟨_, _, rfl, hF, rfl, _, _, rfl, _, _, rfl, _, _, rfl, _, _, rfl, rfl, ?_⟩
      have tail : ∀ (v : V) H2, Ex H1 H2 → Dp K H2 v (rqD f.w (likelyF f row)) → (tIfS (tTest (tOp (rEqD K) (tCall (sp__law_row K a) [] E0 (tCons (tVar 5) tNil)) (tVar 0))) (tRet (tVar 5)) tNext)
          { nx := fun σ H' => (∃ x1 x2 x3 x4 x5, σ = [some (.ref p), x1, x2, x3, x4, x5]) ∧ (Ex H H' ∧ SqL K H' l xs ∧ DpAll K H' xs (formsL.map Fm.d)) ∧ ∀ i g, i < j + 1 → formsL[i]? = some g → readF row g = none,
            rt := Q, bk := tRet (tC (.str ("bad" : Str))) { nx := fun _ H' => Q .non H', rt := Q },
            ct := fun σ H' => (∃ x1 x2 x3 x4 x5, σ = [some (.ref p), x1, x2, x3, x4, x5]) ∧ (Ex H H' ∧ SqL K H' l xs ∧ DpAll K H' xs (formsL.map Fm.d)) ∧ ∀ i g, i < j + 1 → formsL[i]? = some g → readF row g = none }
          [some (.ref p), some (.str f.w), some (.int f.most), some (.ref t), some (.int f.place), some v] H2 := by
        intro v H2 e2 d2
        walk_at "sm"
        refine ⟨v, _, _, rfl, d2, fun v3 H3 e3 d3 => ?_⟩
        refine ⟨_, _, d3, Dp.intsT (Ex.sqT (Same.trans e2 e3) hS1), ?_, shapedT _, ?_⟩
        · cases rowOf f.w (likelyF f row) with
          | none => exact (Shp.str (by decide +kernel)).shaped (by decide)
          | some r => exact shapedT r
        have e13 := Same.trans e1 (Same.trans e2 e3)
        have hev : PyData.eqv (rowD (rowOf f.w (likelyF f row))) (.tuple (row.map PyData.int)) = decide (rowOf f.w (likelyF f row) = some row) := by
          cases h : rowOf f.w (likelyF f row) with
          | none => rfl
          | some r =>
            show PyData.eqv (.tuple (r.map PyData.int)) _ = _
            rw [eqvT]
            simp
        rw [hev]
        refine ⟨_, rfl, iteP (fun c3 => ?_) (fun c3 => ?_)⟩
        · have : readOf row = some (f.w, likelyF f row) := er.trans (findSome_at (fun i x hi hx => hn i x hi hx) hf1 (if_pos c3))
          rw [this] at q
          exact q v H3 e13 (Ex.dp e3 _ _ d2)
        · refine ⟨⟨_, rfl⟩, ⟨e13, Ex.sqL (Same.trans e2 e3) h1, Ex.dpAll (Same.trans e2 e3) _ _ d1⟩, fun i g hi hg => ?_⟩
          by_cases hij : i = j
          · subst hij
            rw [hf1] at hg
            cases hg
            exact if_neg c3
          · exact hn i g (by omega) hg
      revert tail
      walk_at "sm"
      intro tail
      refine iteP (fun c => ?_) (fun c => ?_)
      · refine ⟨up1, fun u hu => tail _ _ (Ex.new hu) ?_⟩
        have e0 : likelyF f row = [] := if_pos c
        rw [e0]
        exact rq_mk (SqT.of upd_same)
      · refine ⟨_, hS1, .int (row.getD f.place.toNat 0), at_of (j := f.place.toNat) (by omega) ?_, up2, fun u hu => tail _ _ (Ex.new hu) ?_⟩
        · rw [List.getElem?_map, List.getElem?_eq_getElem (by omega), List.getD_eq_getElem?_getD, List.getElem?_eq_getElem (by omega)]
          rfl
        · have e0 : likelyF f row = [row.getD f.place.toNat 0] := if_neg c
          rw [e0]
          exact rq_mk (SqT.of upd_same)
  · have fn := fin H [some (.ref p), none, none, none, none, none] (Same.refl _) (if_neg fun z => c (by omega))
    revert fn
    walk_at "sm"
    exact id
theorem rd__law_said (T : Txt K mg a) : RD (sp__law_said K a) (t__law_said K a) N__law_said := by
  rintro vs H Q E (⟨v, w, ns, rfl, hd, q⟩ | ⟨v, w, ns, rfl, hd, q⟩ | ⟨p, row, rfl, hS, q⟩)
  · show t__law_said K a _ [some (.int 0), some v, none, none] H
    unfold t__law_said
    walk_at "sm"
    refine ⟨v, w, ns, rfl, hd, fun r hr t H' e' h' => ?_, fun hno => ?_⟩
    · rw [hr] at q
      exact q _ H' e' (Dp.intsT h')
    · refine ⟨true, T.m_BadRequest_BusError, fun _ a0 ha0 => ?_, fun z => Bool.noConfusion z⟩
      walk_at "sm"
      refine ⟨rfl, rfl, _, _, true, rfl, fun u r => r, T.kit_BadRequest_BadRequest, _, rfl, iteT ?_⟩
      rw [hno] at q
      exact q _ H (Same.refl _) (.str _)
  · show t__law_said K a _ [some (.int 2), some v, none, none] H
    unfold t__law_said
    walk_at "sm"
    refine ⟨v, w, ns, rfl, hd, fun hr => ?_, fun hno => ?_⟩
    · refine q _ H (Same.refl _) ?_
      unfold saidD
      rw [if_pos hr]
      exact .bl _
    · refine ⟨true, T.m_BadRequest_BusError, fun _ a0 ha0 => ?_, fun z => Bool.noConfusion z⟩
      walk_at "sm"
      refine ⟨rfl, rfl, _, _, true, rfl, fun u r => r, T.kit_BadRequest_BadRequest, _, rfl, iteT ?_⟩
      refine q _ H (Same.refl _) ?_
      unfold saidD
      rw [if_neg (by rw [hno]; decide)]
      exact .str _
  · show t__law_said K a _ [some (.int 1), some (.ref p), none, none] H
    unfold t__law_said
    walk_at "sm"
    refine ⟨p, row, rfl, hS, fun w ns hr v H' e' h' => ?_, fun hno H' e' => ?_⟩
    · rw [hr] at q
      exact q _ H' e' h'
    · refine ⟨true, T.m_BadRequest_BusError, fun _ a0 ha0 => ?_, fun z => Bool.noConfusion z⟩
      walk_at "sm"
      refine ⟨rfl, rfl, _, _, true, rfl, fun u r => r, T.kit_BadRequest_BadRequest, _, rfl, iteT ?_⟩
      rw [hno] at q
      exact q _ H' e' (.str _)
theorem sqL_off {p l : Addr} {H : Hp} {xs : List V} (h : l ≠ p) (s : SqL K H l xs) : SqL K (wo [p] H) l xs := by
  have g : wo [p] H l = H l := wo_get (by rw [List.mem_singleton]; exact h)
  rcases s with (e | ⟨o, e⟩) | e
  · exact .inl (.inl (by rw [g]; exact e))
  · exact .inl (.inr ⟨o, by rw [g]; exact e⟩)
  · exact .inr e
theorem noL_fm (f : Fm) : noL f.d = true := by
  unfold Fm.d
  simp only [noL, noLs, noLs_ints]
  rfl
theorem noL_rq (w : Str) (ns : List Int) : noL (rqD w ns) = true := by
  unfold rqD
  simp only [noL, noLs, noLs_ints]
  rfl
theorem rowOf_len {w : Str} {ns r : List Int} (h : rowOf w ns = some r) : r.length = 8 := by
  obtain ⟨f, hf, e⟩ := List.exists_of_findSome?_eq_some h
  obtain ⟨_, p0, p8, hl, _⟩ := in_place f hf
  unfold stepOf at e
  split at e
  · split at e
    · split at e
      · cases e
        exact hl
      · cases e
    · split at e
      · cases e
      · split at e
        · cases e
          unfold putR
          rw [List.length_append, List.length_append, List.length_take, List.length_drop, hl]
          show min f.place.toNat 8 + 1 + _ = 8
          omega
        · cases e
    · cases e
  · cases e
theorem okd_row (n : Nat) {w : Str} {ns : List Int} : okD (n + 1) (rowD (rowOf w ns)) := by
  cases h : rowOf w ns with
  | none => exact okStr _ _
  | some r => exact okIntsT n (by rw [rowOf_len h]; decide)
theorem okd_said (n : Nat) {w : Str} {ns : List Int} : okD (n + 1) (saidD w ns) := by
  unfold saidD
  split
  · exact okBool _ _
  · exact okStr _ _
theorem okd_read (n : Nat) {row : List Int} : okD (n + 1) (readD (readOf row)) := by
  cases h : readOf row with
  | none => exact okStr _ _
  | some r =>
    obtain ⟨w, ns⟩ := r
    have hl : ns.length ≤ 1 := by
      unfold readOf at h
      split at h
      · obtain ⟨f, hf, e⟩ := List.exists_of_findSome?_eq_some h
        unfold readF at e
        split at e
        · cases e
          unfold likelyF
          split
          · exact Nat.zero_le _
          · exact Nat.le_refl _
        · cases e
      · cases h
    refine okTup n (by rw [List.length_cons, List.length_map]; omega) (memC (okStr _ _) fun d hd => ?_)
    obtain ⟨i, _, rfl⟩ := List.mem_map.mp hd
    exact okInt _ _
theorem give_no : ("give" : Str) ∉ rowsW := by decide +kernel
theorem shaped_row (w : Str) (ns : List Int) : SeqAt.shaped (rowD (rowOf w ns)) = true := by
  cases rowOf w ns with
  | none => exact (Shp.str (by decide +kernel)).shaped (by decide)
  | some r => exact shapedT r
theorem eqv_bad (w : Str) (ns : List Int) : PyData.eqv (rowD (rowOf w ns)) (.str "bad") = decide ((rowOf w ns).isSome = false) := by
  cases rowOf w ns with
  | none => rfl
  | some r => rfl
theorem seqA {te : TE} {g : TG} {b : TS} {D : Ends} {σ : L2.St} {H : Hp} (h : te σ H fun v H1 => g v σ H1 fun σ2 H2 => b D σ2 H2) : tSeq (tAsg te g) b D σ H := h
theorem seqI {c : TT} {t u b : TS} {D : Ends} {σ : L2.St} {H : Hp} (h : c σ H fun x H1 => if x = true then t { D with nx := b D } σ H1 else u { D with nx := b D } σ H1) : tSeq (tIfS c t u) b D σ H := h
section
variable {B c : Addr} {cs : List Int} {H : Hp} {Q : VK} {s0 s2 s5 s6 s7 s8 s9 s10 s11 s12 s13 : Option V}
theorem st_form {s3 s4 : Option V} (bag : Bag K c cs H B) (k : ∀ (v : V) (f : Fm) H', f ∈ formsL → Bag K c cs H' B → Ex (wo [B] H) (wo [B] H') → Dp K (wo [B] H') v f.d → Q v H') :
    (tCall (sp__law_one K a) [] E0 (tCons (tVar 1) (tCons (tCall (sp__law_forms K a) [] E0 tNil) tNil))) [s0, some (.ref B), s2, s3, s4, s5, s6, s7, s8, s9, s10, s11, s12, s13] H Q := by
  walk_at "sm"
  refine ⟨rfl, fun l xs H1 e1 n1 h1 d1 => ?_⟩
  have lB : l ≠ B := fun z => bag.there (z ▸ n1)
  have bag1 := bag.mono e1
  have hlen : xs.length = 8 := by rw [DpAll.len d1]; rfl
  refine ⟨B, c, cs, l, xs, rfl, bag1, sqL_off lB h1, by omega, by omega, fun x H2 hx bag2 o2 => ?_⟩
  obtain ⟨i, hi, ei⟩ := List.getElem_of_mem hx
  have hif : i < formsL.length := by rw [hlen] at hi; exact hi
  obtain ⟨v', hv1, hv2⟩ := DpAll.get d1 (show (formsL.map Fm.d)[i]? = some formsL[i].d by rw [List.getElem?_map, List.getElem?_eq_getElem hif]; rfl)
  rw [List.getElem?_eq_getElem hi, ei] at hv1
  cases hv1
  exact k x formsL[i] H2 (List.getElem_mem _) bag2 (Same.trans e1.wo (off_wo o2)) (Ex.dp (off_wo o2) _ _ (Dp.off bag1 _ _ (noL_fm _) hv2))
theorem st_value {s3 : Option V} {m : Int} (bag : Bag K c cs H B) (m0 : 0 ≤ m) (m1 : m ≤ 255) (k : ∀ (n : Int) H', Bag K c cs H' B → Ex (wo [B] H) (wo [B] H') → Q (.int n) H') :
    (tOp (rIxL K) (tLst (tCons (tCall (sp__law_pull K a) [] E0 (tCons (tVar 1) (tCons (tOp rAddI (tVar 4) (tC (.int 1))) tNil))) (tCons (tVar 4) (tCons (tC (.int 0)) (tCons (tOp rAddI (tVar 4) (tC (.int 1))) (tCons (tOp rSubI (tC (.int 0)) (tC (.int 1))) (tCons (tOp rPowI (tC (.int 10)) (tC (.int 20))) tNil))))))) (tCall (sp__law_pull K a) [] E0 (tCons (tVar 1) (tCons (tC (.int 6)) tNil)))) [s0, some (.ref B), s2, s3, some (.int m), s5, s6, s7, s8, s9, s10, s11, s12, s13] H Q := by
  walk_at "sm"
  refine ⟨B, c, cs, _, rfl, bag, by omega, Int.lt_of_lt_of_le (show m + 1 < 300 by omega) (by decide), fun x H1 x0 x1 bag1 o1 => ⟨cpow (by decide) (by decide) (by decide) (by decide), by show 6 ≤ sizeLine; decide, fun l hl => ?_⟩⟩
  have lB : l ≠ B := fun z => bag1.there (z ▸ hl)
  refine ⟨B, c, cs, _, rfl, bag1.mono (Ex.new hl), by decide, by decide, fun i H2 i0 i1 bag2 o2 => ?_⟩
  obtain ⟨n, hn1, hn2⟩ := atI_ints (ns := [x, m, 0, m + 1, 0 - 1, 10 ^ 20]) i0 i1
  exact ⟨_, _, rfl, SqL.of ((o2 _ lB).trans upd_same), _, hn2, k n H2 bag2 (Same.trans (off_wo o1) (Same.trans (Ex.new hl).wo (off_wo o2)))⟩
theorem st_request {s4 : Option V} {w : Str} {n : Int} (bag : Bag K c cs H B) (k : ∀ (v : V) (w' : Str) (ns : List Int) H', (w' = w ∨ w' = "give") → Bag K c cs H' B → Ex (wo [B] H) (wo [B] H') → Dp K (wo [B] H') v (rqD w' ns) → Q v H') :
    (tOp (rIxL K) (tLst (tCons (tTup (tCons (tVar 3) tNil)) (tCons (tTup (tCons (tVar 3) (tCons (tVar 7) tNil))) (tCons (tTup (tCons (tVar 3) (tCons (tVar 7) tNil))) (tCons (tTup (tCons (tVar 3) (tCons (tVar 7) (tCons (tC (.int 0)) tNil)))) (tCons (tTup (tCons (tC (.str ("give" : Str))) (tCons (tVar 7) tNil))) tNil)))))) (tCall (sp__law_pull K a) [] E0 (tCons (tVar 1) (tCons (tC (.int 5)) tNil)))) [s0, some (.ref B), s2, some (.str w), s4, s5, s6, some (.int n), s8, s9, s10, s11, s12, s13] H Q := by
  have ev : ∀ H Q, (∀ p xs H', H p = none → Ex H H' → H' p = some (.lst xs) → DpAll K H' xs [rqD w [], rqD w [n], rqD w [n], rqD w [n, 0], rqD "give" [n]] → Q (.ref p) H') →
      (tLst (tCons (tTup (tCons (tVar 3) tNil)) (tCons (tTup (tCons (tVar 3) (tCons (tVar 7) tNil))) (tCons (tTup (tCons (tVar 3) (tCons (tVar 7) tNil))) (tCons (tTup (tCons (tVar 3) (tCons (tVar 7) (tCons (tC (.int 0)) tNil)))) (tCons (tTup (tCons (tC (.str ("give" : Str))) (tCons (tVar 7) tNil))) tNil)))))) [s0, some (.ref B), s2, some (.str w), s4, s5, s6, some (.int n), s8, s9, s10, s11, s12, s13] H Q := fun H Q q =>
    have vw : EvD K (tVar 3) [s0, some (.ref B), s2, some (.str w), s4, s5, s6, some (.int n), s8, s9, s10, s11, s12, s13] (.str w) := fun H Q q => ⟨_, rfl, q _ _ (Same.refl _) (.str _)⟩
    have vn : EvD K (tVar 7) [s0, some (.ref B), s2, some (.str w), s4, s5, s6, some (.int n), s8, s9, s10, s11, s12, s13] (.int n) := fun H Q q => ⟨_, rfl, q _ _ (Same.refl _) (.int _)⟩
    evLst (evCons (evTup (evCons vw evNil) (by show 1 ≤ 1000; decide)) (evCons (evTup (evCons vw (evCons vn evNil)) (by show 2 ≤ 1000; decide)) (evCons (evTup (evCons vw (evCons vn evNil)) (by show 2 ≤ 1000; decide))
      (evCons (evTup (evCons vw (evCons vn (evCons evInt evNil))) (by show 3 ≤ 1000; decide)) (evCons (evTup (evCons evStr (evCons vn evNil)) (by show 2 ≤ 1000; decide)) evNil))))) (by show 5 ≤ 1000; decide) q
  refine ev H _ fun l xs H1 n1 e1 h1 d1 => ?_
  have lB : l ≠ B := fun z => bag.there (z ▸ n1)
  have bag1 := bag.mono e1
  walk_at "sm"
  refine ⟨B, c, cs, 5, rfl, bag1, by decide, by decide, fun i H2 i0 i1 bag2 o2 => ?_⟩
  have hlen : xs.length = 5 := DpAll.len d1
  have d2 := Ex.dpAll (off_wo o2) _ _ (Dp.offAll' bag1 (ds := [rqD w [], rqD w [n], rqD w [n], rqD w [n, 0], rqD "give" [n]]) (noLs_all (memC (noL_rq _ _) (memC (noL_rq _ _) (memC (noL_rq _ _) (memC (noL_rq _ _) (mem1 (noL_rq _ _))))))) d1)
  have go : ∀ (j : Nat) (w' : Str) (ns : List Int), [rqD w [], rqD w [n], rqD w [n], rqD w [n, 0], rqD "give" [n]][j]? = some (rqD w' ns) → i = j → (w' = w ∨ w' = "give") → ∃ x, atI xs i = some x ∧ Q x H2 := by
    intro j w' ns hj hij hw
    obtain ⟨v, e1', e2'⟩ := DpAll.get d2 hj
    subst hij
    exact ⟨v, atI_nat e1', k v w' ns H2 hw bag2 (Same.trans e1.wo (off_wo o2)) e2'⟩
  refine ⟨xs, _, rfl, SqL.of ((o2 _ lB).trans h1), ?_⟩
  have : i = 0 ∨ i = 1 ∨ i = 2 ∨ i = 3 ∨ i = 4 := by omega
  rcases this with h | h | h | h | h
  · exact go 0 _ _ rfl h (.inl rfl)
  · exact go 1 _ _ rfl h (.inl rfl)
  · exact go 2 _ _ rfl h (.inl rfl)
  · exact go 3 _ _ rfl h (.inl rfl)
  · exact go 4 _ _ rfl h (.inr rfl)
theorem st_told {s4 : Option V} {w w' : Str} {ns : List Int} {v9 : V} (hw : w' = w ∨ w' = "give") (h9 : Dp K H v9 (rowD (rowOf w' ns))) (k : ∀ (v : V) H', Ex H H' → Dp K H' v (saidD w' ns) → Q v H') :
    (tIf (tTest (tOp (rEqD K) (tVar 9) (tC (.str ("bad" : Str))))) (tC (.str ("bad" : Str))) (tOp (rIn K false) (tVar 3) (tTup (tCons (tC (.str ("device" : Str))) (tCons (tC (.str ("settings" : Str))) (tCons (tC (.str ("port" : Str))) tNil)))))) [s0, some (.ref B), s2, some (.str w), s4, s5, s6, s7, s8, some v9, s10, s11, s12, s13] H Q := by
  walk_at "sm"
  refine ⟨_, _, h9, .str "bad", shaped_row _ _, (Shp.str (by decide +kernel)).shaped (by decide), ?_⟩
  rw [eqv_bad]
  refine ⟨_, rfl, iteP (fun c => ?_) (fun c => ?_)⟩
  · refine k _ H (Same.refl _) ?_
    unfold saidD
    rw [c, if_neg (by decide)]
    exact .str _
  · have c : (rowOf w' ns).isSome = true := by
      cases h : (rowOf w' ns).isSome with
      | true => rfl
      | false => exact absurd h c
    have hw : w' = w := by
      rcases hw with h | h
      · exact h
      · rw [h, rowOf_no give_no] at c
        exact Bool.noConfusion c
    subst hw
    refine ⟨up3, fun t ht => ⟨_, askW.map V.str, rfl, .inr (SqT.of upd_same), rfl, by decide, ?_⟩⟩
    rw [inV_strs]
    refine k _ _ (Ex.new ht) ?_
    unfold saidD
    rw [if_pos c]
    exact .bl _
theorem st_same {s3 s4 : Option V} {w' : Str} {ns : List Int} {v8 v9 v10 : V} {Q : Bool → Hp → Prop} (h8 : Dp K H v8 (rqD w' ns)) (h9 : Dp K H v9 (rowD (rowOf w' ns))) (h10 : Dp K H v10 (saidD w' ns)) (k : ∀ H', Ex H H' → Q false H') :
    (tNot (tB (tCall (sp__law_same K a) [] E0 (tCons (tLst (tCons (tCall (sp__law_said K a) [] E0 (tCons (tC (.int 0)) (tCons (tVar 8) tNil))) (tCons (tCall (sp__law_said K a) [] E0 (tCons (tC (.int 2)) (tCons (tVar 8) tNil))) tNil))) (tCons (tLst (tCons (tVar 9) (tCons (tVar 10) tNil))) tNil))))) [s0, some (.ref B), s2, s3, s4, s5, s6, s7, some v8, some v9, some v10, s11, s12, s13] H Q := by
  walk_at "sm"
  refine .inl ⟨v8, w', ns, rfl, h8, fun a1 H1 e1 d1 => ?_⟩
  refine .inr (.inl ⟨v8, w', ns, rfl, Ex.dp e1 _ _ h8, fun a2 H2 e2 d2 => ⟨up2, fun r1 hr1 => ⟨up2, fun r2 hr2 => ?_⟩⟩⟩)
  have n1 := Ex.new hr1 (o := .lst [a1, a2])
  have n2 := Ex.new hr2 (o := .lst [v9, v10])
  have e12 := Same.trans (Same.trans e1 e2) n1
  have f2 := Dp.newL hr2 (.cons (Ex.dp e12 _ _ h9) (.cons (Ex.dp e12 _ _ h10) .nil))
  have f1 := Ex.dp n2 _ _ (Dp.newL hr1 (.cons (Ex.dp e2 _ _ d1) (.cons d2 .nil)))
  refine ⟨_, _, _, rfl, f1, f2, okLst 3 (by show 2 ≤ 1000; decide) (memC (okd_row 2) (mem1 (okd_said 2))), fun H' e' => ⟨true, rfl, ?_⟩⟩
  exact k H' (Same.trans e12 (Same.trans n2 e'))
theorem st_pull {s3 s4 : Option V} (bag : Bag K c cs H B) (k : ∀ (n : Int) H', 0 ≤ n → n < 8 → Bag K c cs H' B → Ex (wo [B] H) (wo [B] H') → Q (.int n) H') :
    (tCall (sp__law_pull K a) [] E0 (tCons (tVar 1) (tCons (tC (.int 8)) tNil))) [s0, some (.ref B), s2, s3, s4, s5, s6, s7, s8, s9, s10, s11, s12, s13] H Q := by
  walk_at "sm"
  exact ⟨B, c, cs, 8, rfl, bag, by decide, by decide, fun i H2 i0 i1 bag2 o2 => k i H2 i0 i1 bag2 (off_wo o2)⟩
theorem st_odd {s3 s4 : Option V} (bag : Bag K c cs H B) (k : ∀ (n : Int) H', Bag K c cs H' B → Ex (wo [B] H) (wo [B] H') → Q (.int n) H') :
    (tOp (rIxL K) (tLst (tCons (tCall (sp__law_pull K a) [] E0 (tCons (tVar 1) (tCons (tC (.int 6)) tNil))) (tCons (tCall (sp__law_pull K a) [] E0 (tCons (tVar 1) (tCons (tC (.int 256)) tNil))) tNil))) (tCall (sp__law_pull K a) [] E0 (tCons (tVar 1) (tCons (tC (.int 2)) tNil)))) [s0, some (.ref B), s2, s3, s4, s5, s6, s7, s8, s9, s10, s11, s12, s13] H Q := by
  walk_at "sm"
  refine ⟨B, c, cs, _, rfl, bag, by decide, by decide, fun x H1 x0 x1 bag1 o1 => ?_⟩
  refine ⟨B, c, cs, _, rfl, bag1, by decide, by decide, fun y H2 y0 y1 bag2 o2 => ⟨up2, fun l hl => ?_⟩⟩
  have lB : l ≠ B := fun z => bag2.there (z ▸ hl)
  refine ⟨B, c, cs, _, rfl, bag2.mono (Ex.new hl), by decide, by decide, fun i H3 i0 i1 bag3 o3 => ?_⟩
  obtain ⟨n, hn1, hn2⟩ := atI_ints (ns := [x, y]) i0 i1
  exact ⟨_, _, rfl, SqL.of ((o3 _ lB).trans upd_same), _, hn2, k n H3 bag3 (Same.trans (off_wo o1) (Same.trans (off_wo o2) (Same.trans (Ex.new hl).wo (off_wo o3))))⟩
theorem st_some {s3 s4 : Option V} {t : Addr} {row : List Int} {at_ odd : Int} (bag : Bag K c cs H B) (hT : SqT K H t (row.map V.int)) (h8 : row.length = 8) (a0 : 0 ≤ at_) (k : ∀ (u : Addr) (row' : List Int) H', Bag K c cs H' B → Ex (wo [B] H) (wo [B] H') → SqT K (wo [B] H') u (row'.map V.int) → Q (.ref u) H') :
    (tOp (rIxL K) (tLst (tCons (tVar 5) (tCons (tOp (rCatA K) (tOp (rCatA K) (tSl (rSlA K) (tVar 5) tNoPart (tPart (tVar 11))) (tTup (tCons (tVar 12) tNil))) (tSl (rSlA K) (tVar 5) (tPart (tOp rAddI (tVar 11) (tC (.int 1)))) tNoPart)) (tCons (tSl (rSlA K) (tVar 5) tNoPart (tPart (tVar 11))) (tCons (tOp (rCatA K) (tVar 5) (tTup (tCons (tC (.int 0)) tNil))) tNil))))) (tCall (sp__law_pull K a) [] E0 (tCons (tVar 1) (tCons (tC (.int 4)) tNil)))) [s0, some (.ref B), s2, s3, s4, some (.ref t), s6, s7, s8, s9, s10, some (.int at_), some (.int odd), s13] H Q := by
  walk_at "sm"
  refine slT_go hT fun t1 H1 e1 h1 => ⟨up1, fun u hu => ?_⟩
  rw [cut_take a0] at h1
  refine catT_go (Ex.sqT (Ex.new hu) h1) (SqT.of upd_same) (by rw [List.length_take, List.length_map, h8]; show _ + 1 ≤ _; omega) fun t2 H2 e2 h2 => ?_
  have e02 := Same.trans e1 (Same.trans (Ex.new hu) e2)
  refine slT_go (Ex.sqT e02 hT) fun t3 H3 e3 h3 => ?_
  rw [cut_drop (show 0 ≤ at_ + 1 by omega)] at h3
  refine catT_go (Ex.sqT e3 h2) h3 (by rw [List.length_append, List.length_take, List.length_drop, List.length_map, h8]; show _ + 1 + _ ≤ _; omega) fun t4 H4 e4 h4 => ?_
  have e04 := Same.trans e02 (Same.trans e3 e4)
  refine slT_go (Ex.sqT e04 hT) fun t5 H5 e5 h5 => ⟨up1, fun u2 hu2 => ?_⟩
  rw [cut_take a0] at h5
  have e06 := Same.trans e04 (Same.trans e5 (Ex.new hu2 (o := .tup [.int 0])))
  refine catT_go (Ex.sqT e06 hT) (SqT.of upd_same) (by rw [List.length_map, h8]; decide) fun t7 H7 e7 h7 => ⟨up4, fun l hl => ?_⟩
  have e07 : Ex H H7 := Same.trans e06 e7
  have bag7 := bag.mono e07
  have lB : l ≠ B := fun z => bag7.there (z ▸ hl)
  have bag8 := bag7.mono (Ex.new hl (o := .lst [.ref t, .ref t4, .ref t5, .ref t7]))
  refine ⟨B, c, cs, 4, rfl, bag8, by decide, by decide, fun i H9 i0 i1 bag9 o9 => ⟨_, _, rfl, SqL.of ((o9 _ lB).trans upd_same), ?_⟩⟩
  have e47 : Ex H4 H7 := Same.trans e5 (Same.trans (Ex.new hu2) e7)
  have e57 : Ex H5 H7 := Same.trans (Ex.new hu2) e7
  have en := Same.trans e07.wo (Same.trans (Ex.new hl (o := .lst [.ref t, .ref t4, .ref t5, .ref t7])).wo (off_wo o9))
  have go : ∀ (u : Addr) (r : List Int), SqT K H7 u (r.map V.int) → Q (.ref u) H9 := fun u r hr =>
    k u r H9 bag9 en (Ex.sqT (Same.trans (Ex.new hl (o := .lst [.ref t, .ref t4, .ref t5, .ref t7])).wo (off_wo o9)) (sqT_offB bag7 hr))
  have : i = 0 ∨ i = 1 ∨ i = 2 ∨ i = 3 := by omega
  rcases this with h | h | h | h
  · subst h
    exact ⟨_, rfl, go t row (Ex.sqT e07 hT)⟩
  · subst h
    exact ⟨_, rfl, go t4 (row.take at_.toNat ++ [odd] ++ row.drop (at_ + 1).toNat) (by simpa using Ex.sqT e47 h4)⟩
  · subst h
    exact ⟨_, rfl, go t5 (row.take at_.toNat) (by simpa using Ex.sqT e57 h5)⟩
  · subst h
    exact ⟨_, rfl, go t7 (row ++ [0]) (by simpa using h7)⟩
theorem st_same2 {s3 s4 : Option V} {u : Addr} {row : List Int} {Q : Bool → Hp → Prop} (h : SqT K H u (row.map V.int)) (k : ∀ H', Ex H H' → Q false H') :
    (tNot (tB (tCall (sp__law_same K a) [] E0 (tCons (tCall (sp__law_said K a) [] E0 (tCons (tC (.int 1)) (tCons (tVar 13) tNil))) (tCons (tCall (sp__law_read K a) [] E0 (tCons (tVar 13) tNil)) tNil))))) [s0, some (.ref B), s2, s3, s4, s5, s6, s7, s8, s9, s10, s11, s12, some (.ref u)] H Q := by
  walk_at "sm"
  refine .inr (.inr ⟨u, row, rfl, h, fun v1 H1 e1 d1 => ?_⟩)
  refine ⟨u, row, rfl, Ex.sqT e1 h, fun v2 H2 e2 d2 => ?_⟩
  refine ⟨_, _, _, rfl, Ex.dp e2 _ _ d1, d2, okd_read 3, fun H' e' => ⟨true, rfl, ?_⟩⟩
  exact k H' (Same.trans e1 (Same.trans e2 e'))
end
theorem rd_law : RD (sp_law K a) (t_law K a) N_law := by
  rintro vs H Q E ⟨p, cs, rfl, hS, hl, q⟩
  show t_law K a _ [some (.ref p), none, none, none, none, none, none, none, none, none, none, none, none, none] H
  unfold t_law
  dsimp only [tSeq]
  refine (show tAsg _ _ _ _ _ from ?_)
  dsimp only [tAsg, tCall, tCons, tVar, tNil, gName, List.getElem?_cons_zero, List.append_nil]
  refine ⟨_, rfl, p, cs, rfl, hS, hl, fun B c H1 hB e bag => ?_⟩
  refine forR (n := 8) 2 (fun j σ H' => (∃ x2 x3 x4 x5 x6 x7 x8 x9 x10 x11 x12 x13, σ = [some (.ref p), some (.ref B), x2, x3, x4, x5, x6, x7, x8, x9, x10, x11, x12, x13]) ∧ Bag K c cs H' B) (fun R r => r) (by decide) (by decide) ⟨⟨_, _, _, _, _, _, _, _, _, _, _, _, rfl⟩, bag⟩ ?hs ?hd
  case hd =>
    rintro σ H' ⟨⟨x2, x3, x4, x5, x6, x7, x8, x9, x10, x11, x12, x13, rfl⟩, bag⟩
    walk_at "sm"
    exact q H'
  case hs =>
    rintro j σ H hj ⟨⟨x2, x3, x4, x5, x6, x7, x8, x9, x10, x11, x12, x13, rfl⟩, bag⟩
    refine seqA (st_form bag fun v f H1 hf bag1 e1 d1 => ?_)
    obtain ⟨pf, t, rfl, hF, hT⟩ := fm_open d1
    obtain ⟨ip, p0, p8, hl8, hm0⟩ := in_place f hf
    have hm : f.most ≤ 255 := (show ∀ f ∈ formsL, f.most ≤ 255 by decide +kernel) f hf
    refine ⟨_, _, rfl, wo_ex.sqT hF, rfl, _, _, rfl, _, _, rfl, _, _, rfl, _, _, rfl, rfl, ?_⟩
    dsimp only [List.set_cons_zero, List.set_cons_succ]
    refine seqA (st_value bag1 hm0 hm fun n H2 bag2 e2 => ?_)
    dsimp only [gName, List.set_cons_zero, List.set_cons_succ]
    refine seqA (st_request bag2 fun v8 w' ns H3 hw bag3 e3 d3 => ?_)
    dsimp only [gName, List.set_cons_zero, List.set_cons_succ]
    refine seqA ?_
    refine (show (tCall (sp__law_row K a) [] E0 (tCons (tVar 8) tNil)) _ _ _ from ⟨_, rfl, ⟨v8, w', ns, rfl, Ex.dp wo_ex _ _ d3, fun v9 H4 e4 d4 => ?_⟩⟩)
    dsimp only [gName, List.set_cons_zero, List.set_cons_succ]
    refine seqA (st_told hw d4 fun v10 H5 e5 d5 => ?_)
    dsimp only [gName, List.set_cons_zero, List.set_cons_succ]
    refine seqI (st_same (Ex.dp (Same.trans e4 e5) _ _ (Ex.dp wo_ex _ _ d3)) (Ex.dp e5 _ _ d4) d5 fun H6 e6 => iteF ?_)
    have e36 : Ex H3 H6 := Same.trans e4 (Same.trans e5 e6)
    have bag6 := bag3.mono e36
    dsimp only [tNext]
    refine seqA (st_pull bag6 fun at_ H7 a0 a1 bag7 e7 => ?_)
    dsimp only [gName, List.set_cons_zero, List.set_cons_succ]
    refine seqA (st_odd bag7 fun odd H8 bag8 e8 => ?_)
    dsimp only [gName, List.set_cons_zero, List.set_cons_succ]
    have e18 : Ex (wo [B] H1) (wo [B] H8) := Same.trans e2 (Same.trans e3 (Same.trans e36.wo (Same.trans e7 e8)))
    refine seqA (st_some bag8 (wo_ex.sqT (Ex.sqT e18 hT)) hl8 a0 fun u row' H9 bag9 e9 h9 => ?_)
    dsimp only [gName, List.set_cons_zero, List.set_cons_succ]
    refine (show (tNot (tB (tCall (sp__law_same K a) [] E0 (tCons (tCall (sp__law_said K a) [] E0 (tCons (tC (.int 1)) (tCons (tVar 13) tNil))) (tCons (tCall (sp__law_read K a) [] E0 (tCons (tVar 13) tNil)) tNil))))) _ _ _ from st_same2 (wo_ex.sqT h9) fun H10 e10 => iteF ?_)
    exact ⟨⟨_, _, _, _, _, _, _, _, _, _, _, _, rfl⟩, bag9.mono e10⟩
end
end My

namespace My
open PySem PySem.Spec PyProof.Rows L2
section
variable {P : Program} {w : World} {K : PySem.W.Frag} {mg : Str → Option Value} {base : Heap} {a : Ad}
theorem ok_is_number (T : Txt K mg a)
    (rd : RD (sp_is_number K a) (t_is_number K a) N_is_number) :
    FnOk P a.w K mg base CX0 1 a.f_is_number a.d_is_number P_is_number (sp_is_number K a) := by
  have nd := sc_is_number.nd
  refine T.F_is_number.ok sc_is_number (fun vs H Q E h => by first | (obtain ⟨rfl, _⟩ := h; rfl; done) | (obtain ⟨_, rfl, _⟩ := h; rfl; done) | (obtain ⟨_, _, rfl, _⟩ := h; rfl; done) | (obtain ⟨_, _, _, rfl, _⟩ := h; rfl; done) | (obtain ⟨_, _, _, _, rfl, _⟩ := h; rfl; done) | (obtain ⟨_, _, _, _, _, rfl, _⟩ := h; rfl; done) | (obtain ⟨_, _, _, _, _, _, rfl, _⟩ := h; rfl; done) | (obtain ⟨_, _, _, _, _, _, _, rfl, _⟩ := h; rfl; done) | (obtain ⟨_, _, _, _, _, _, _, _, rfl, _⟩ := h; rfl; done) | (rcases h with ⟨_, rfl, _⟩ | ⟨_, rfl, _⟩ <;> rfl; done) | (rcases h with ⟨_, rfl, _⟩ | ⟨_, _, rfl, _⟩ <;> rfl; done) | (rcases h with ⟨_, rfl, _⟩ | ⟨_, _, _, rfl, _⟩ <;> rfl; done) | (rcases h with ⟨_, rfl, _⟩ | ⟨_, _, _, _, rfl, _⟩ <;> rfl; done) | (rcases h with ⟨_, rfl, _⟩ | ⟨_, _, _, _, _, rfl, _⟩ <;> rfl; done) | (rcases h with ⟨_, rfl, _⟩ | ⟨_, _, _, _, _, _, rfl, _⟩ <;> rfl; done) | (rcases h with ⟨_, _, rfl, _⟩ | ⟨_, rfl, _⟩ <;> rfl; done) | (rcases h with ⟨_, _, rfl, _⟩ | ⟨_, _, rfl, _⟩ <;> rfl; done) | (rcases h with ⟨_, _, rfl, _⟩ | ⟨_, _, _, rfl, _⟩ <;> rfl; done) | (rcases h with ⟨_, _, rfl, _⟩ | ⟨_, _, _, _, rfl, _⟩ <;> rfl; done) | (rcases h with ⟨_, _, rfl, _⟩ | ⟨_, _, _, _, _, rfl, _⟩ <;> rfl; done) | (rcases h with ⟨_, _, rfl, _⟩ | ⟨_, _, _, _, _, _, rfl, _⟩ <;> rfl; done) | (rcases h with ⟨_, _, _, rfl, _⟩ | ⟨_, rfl, _⟩ <;> rfl; done) | (rcases h with ⟨_, _, _, rfl, _⟩ | ⟨_, _, rfl, _⟩ <;> rfl; done) | (rcases h with ⟨_, _, _, rfl, _⟩ | ⟨_, _, _, rfl, _⟩ <;> rfl; done) | (rcases h with ⟨_, _, _, rfl, _⟩ | ⟨_, _, _, _, rfl, _⟩ <;> rfl; done) | (rcases h with ⟨_, _, _, rfl, _⟩ | ⟨_, _, _, _, _, rfl, _⟩ <;> rfl; done) | (rcases h with ⟨_, _, _, rfl, _⟩ | ⟨_, _, _, _, _, _, rfl, _⟩ <;> rfl; done) | (rcases h with ⟨_, _, _, _, rfl, _⟩ | ⟨_, rfl, _⟩ <;> rfl; done) | (rcases h with ⟨_, _, _, _, rfl, _⟩ | ⟨_, _, rfl, _⟩ <;> rfl; done) | (rcases h with ⟨_, _, _, _, rfl, _⟩ | ⟨_, _, _, rfl, _⟩ <;> rfl; done) | (rcases h with ⟨_, _, _, _, rfl, _⟩ | ⟨_, _, _, _, rfl, _⟩ <;> rfl; done) | (rcases h with ⟨_, _, _, _, rfl, _⟩ | ⟨_, _, _, _, _, rfl, _⟩ <;> rfl; done) | (rcases h with ⟨_, _, _, _, rfl, _⟩ | ⟨_, _, _, _, _, _, rfl, _⟩ <;> rfl; done) | (rcases h with ⟨_, _, _, _, _, rfl, _⟩ | ⟨_, rfl, _⟩ <;> rfl; done) | (rcases h with ⟨_, _, _, _, _, rfl, _⟩ | ⟨_, _, rfl, _⟩ <;> rfl; done) | (rcases h with ⟨_, _, _, _, _, rfl, _⟩ | ⟨_, _, _, rfl, _⟩ <;> rfl; done) | (rcases h with ⟨_, _, _, _, _, rfl, _⟩ | ⟨_, _, _, _, rfl, _⟩ <;> rfl; done) | (rcases h with ⟨_, _, _, _, _, rfl, _⟩ | ⟨_, _, _, _, _, rfl, _⟩ <;> rfl; done) | (rcases h with ⟨_, _, _, _, _, rfl, _⟩ | ⟨_, _, _, _, _, _, rfl, _⟩ <;> rfl; done) | (rcases h with ⟨_, _, _, _, _, _, rfl, _⟩ | ⟨_, rfl, _⟩ <;> rfl; done) | (rcases h with ⟨_, _, _, _, _, _, rfl, _⟩ | ⟨_, _, rfl, _⟩ <;> rfl; done) | (rcases h with ⟨_, _, _, _, _, _, rfl, _⟩ | ⟨_, _, _, rfl, _⟩ <;> rfl; done) | (rcases h with ⟨_, _, _, _, _, _, rfl, _⟩ | ⟨_, _, _, _, rfl, _⟩ <;> rfl; done) | (rcases h with ⟨_, _, _, _, _, _, rfl, _⟩ | ⟨_, _, _, _, _, rfl, _⟩ <;> rfl; done) | (rcases h with ⟨_, _, _, _, _, _, rfl, _⟩ | ⟨_, _, _, _, _, _, rfl, _⟩ <;> rfl; done) | (rcases h with ⟨_, rfl, _⟩ | ⟨_, _, rfl, _⟩ <;> rfl) | (rcases h with ⟨_, rfl, _⟩ | ⟨_, rfl, _⟩ <;> rfl) | (rcases h with h | h | h <;> (first | (obtain ⟨rfl, _⟩ := h; rfl; done) | (obtain ⟨_, rfl, _⟩ := h; rfl; done) | (obtain ⟨_, _, rfl, _⟩ := h; rfl; done) | (obtain ⟨_, _, _, rfl, _⟩ := h; rfl; done) | (obtain ⟨_, _, _, _, rfl, _⟩ := h; rfl; done) | (obtain ⟨_, _, _, _, _, rfl, _⟩ := h; rfl; done) | (obtain ⟨_, _, _, _, _, _, rfl, _⟩ := h; rfl; done) | (obtain ⟨_, _, _, _, _, _, _, rfl, _⟩ := h; rfl; done) | (obtain ⟨_, _, _, _, _, _, _, _, rfl, _⟩ := h; rfl; done)))) (fun cdv A outer s H vs Q E hr h => ⟨t_is_number K a, ?_, rd vs H Q E h⟩)
  exact (pss_one (ps_ret (pe_and (pe_callB call_isi (by rfl) T.n_isinstance (by decide +kernel) (pa_cons (pv 0) (pa_cons (pe_bltn (v := .ty "int") rfl T.n_int (by decide +kernel) rfl) pa_nil))) (pe_one (pe_chain op_le op_le (pv 1) (pv 0) (pv 2))))))
theorem ok_is_request (T : Txt K mg a)
    (G_is_number : FnOk P a.w K mg base CX0 1 a.f_is_number a.d_is_number P_is_number (sp_is_number K a))
    (rd : RD (sp_is_request K a) (t_is_request K a) N_is_request) :
    FnOk P a.w K mg base CX0 2 a.f_is_request a.d_is_request P_is_request (sp_is_request K a) := by
  have nd := sc_is_request.nd
  refine T.F_is_request.ok sc_is_request (fun vs H Q E h => by first | (obtain ⟨rfl, _⟩ := h; rfl; done) | (obtain ⟨_, rfl, _⟩ := h; rfl; done) | (obtain ⟨_, _, rfl, _⟩ := h; rfl; done) | (obtain ⟨_, _, _, rfl, _⟩ := h; rfl; done) | (obtain ⟨_, _, _, _, rfl, _⟩ := h; rfl; done) | (obtain ⟨_, _, _, _, _, rfl, _⟩ := h; rfl; done) | (obtain ⟨_, _, _, _, _, _, rfl, _⟩ := h; rfl; done) | (obtain ⟨_, _, _, _, _, _, _, rfl, _⟩ := h; rfl; done) | (obtain ⟨_, _, _, _, _, _, _, _, rfl, _⟩ := h; rfl; done) | (rcases h with ⟨_, rfl, _⟩ | ⟨_, rfl, _⟩ <;> rfl; done) | (rcases h with ⟨_, rfl, _⟩ | ⟨_, _, rfl, _⟩ <;> rfl; done) | (rcases h with ⟨_, rfl, _⟩ | ⟨_, _, _, rfl, _⟩ <;> rfl; done) | (rcases h with ⟨_, rfl, _⟩ | ⟨_, _, _, _, rfl, _⟩ <;> rfl; done) | (rcases h with ⟨_, rfl, _⟩ | ⟨_, _, _, _, _, rfl, _⟩ <;> rfl; done) | (rcases h with ⟨_, rfl, _⟩ | ⟨_, _, _, _, _, _, rfl, _⟩ <;> rfl; done) | (rcases h with ⟨_, _, rfl, _⟩ | ⟨_, rfl, _⟩ <;> rfl; done) | (rcases h with ⟨_, _, rfl, _⟩ | ⟨_, _, rfl, _⟩ <;> rfl; done) | (rcases h with ⟨_, _, rfl, _⟩ | ⟨_, _, _, rfl, _⟩ <;> rfl; done) | (rcases h with ⟨_, _, rfl, _⟩ | ⟨_, _, _, _, rfl, _⟩ <;> rfl; done) | (rcases h with ⟨_, _, rfl, _⟩ | ⟨_, _, _, _, _, rfl, _⟩ <;> rfl; done) | (rcases h with ⟨_, _, rfl, _⟩ | ⟨_, _, _, _, _, _, rfl, _⟩ <;> rfl; done) | (rcases h with ⟨_, _, _, rfl, _⟩ | ⟨_, rfl, _⟩ <;> rfl; done) | (rcases h with ⟨_, _, _, rfl, _⟩ | ⟨_, _, rfl, _⟩ <;> rfl; done) | (rcases h with ⟨_, _, _, rfl, _⟩ | ⟨_, _, _, rfl, _⟩ <;> rfl; done) | (rcases h with ⟨_, _, _, rfl, _⟩ | ⟨_, _, _, _, rfl, _⟩ <;> rfl; done) | (rcases h with ⟨_, _, _, rfl, _⟩ | ⟨_, _, _, _, _, rfl, _⟩ <;> rfl; done) | (rcases h with ⟨_, _, _, rfl, _⟩ | ⟨_, _, _, _, _, _, rfl, _⟩ <;> rfl; done) | (rcases h with ⟨_, _, _, _, rfl, _⟩ | ⟨_, rfl, _⟩ <;> rfl; done) | (rcases h with ⟨_, _, _, _, rfl, _⟩ | ⟨_, _, rfl, _⟩ <;> rfl; done) | (rcases h with ⟨_, _, _, _, rfl, _⟩ | ⟨_, _, _, rfl, _⟩ <;> rfl; done) | (rcases h with ⟨_, _, _, _, rfl, _⟩ | ⟨_, _, _, _, rfl, _⟩ <;> rfl; done) | (rcases h with ⟨_, _, _, _, rfl, _⟩ | ⟨_, _, _, _, _, rfl, _⟩ <;> rfl; done) | (rcases h with ⟨_, _, _, _, rfl, _⟩ | ⟨_, _, _, _, _, _, rfl, _⟩ <;> rfl; done) | (rcases h with ⟨_, _, _, _, _, rfl, _⟩ | ⟨_, rfl, _⟩ <;> rfl; done) | (rcases h with ⟨_, _, _, _, _, rfl, _⟩ | ⟨_, _, rfl, _⟩ <;> rfl; done) | (rcases h with ⟨_, _, _, _, _, rfl, _⟩ | ⟨_, _, _, rfl, _⟩ <;> rfl; done) | (rcases h with ⟨_, _, _, _, _, rfl, _⟩ | ⟨_, _, _, _, rfl, _⟩ <;> rfl; done) | (rcases h with ⟨_, _, _, _, _, rfl, _⟩ | ⟨_, _, _, _, _, rfl, _⟩ <;> rfl; done) | (rcases h with ⟨_, _, _, _, _, rfl, _⟩ | ⟨_, _, _, _, _, _, rfl, _⟩ <;> rfl; done) | (rcases h with ⟨_, _, _, _, _, _, rfl, _⟩ | ⟨_, rfl, _⟩ <;> rfl; done) | (rcases h with ⟨_, _, _, _, _, _, rfl, _⟩ | ⟨_, _, rfl, _⟩ <;> rfl; done) | (rcases h with ⟨_, _, _, _, _, _, rfl, _⟩ | ⟨_, _, _, rfl, _⟩ <;> rfl; done) | (rcases h with ⟨_, _, _, _, _, _, rfl, _⟩ | ⟨_, _, _, _, rfl, _⟩ <;> rfl; done) | (rcases h with ⟨_, _, _, _, _, _, rfl, _⟩ | ⟨_, _, _, _, _, rfl, _⟩ <;> rfl; done) | (rcases h with ⟨_, _, _, _, _, _, rfl, _⟩ | ⟨_, _, _, _, _, _, rfl, _⟩ <;> rfl; done) | (rcases h with ⟨_, rfl, _⟩ | ⟨_, _, rfl, _⟩ <;> rfl) | (rcases h with ⟨_, rfl, _⟩ | ⟨_, rfl, _⟩ <;> rfl) | (rcases h with h | h | h <;> (first | (obtain ⟨rfl, _⟩ := h; rfl; done) | (obtain ⟨_, rfl, _⟩ := h; rfl; done) | (obtain ⟨_, _, rfl, _⟩ := h; rfl; done) | (obtain ⟨_, _, _, rfl, _⟩ := h; rfl; done) | (obtain ⟨_, _, _, _, rfl, _⟩ := h; rfl; done) | (obtain ⟨_, _, _, _, _, rfl, _⟩ := h; rfl; done) | (obtain ⟨_, _, _, _, _, _, rfl, _⟩ := h; rfl; done) | (obtain ⟨_, _, _, _, _, _, _, rfl, _⟩ := h; rfl; done) | (obtain ⟨_, _, _, _, _, _, _, _, rfl, _⟩ := h; rfl; done)))) (fun cdv A outer s H vs Q E hr h => ⟨t_is_request K a, ?_, rd vs H Q E h⟩)
  exact (pss_cons (ps_if (PW.pt (pw_or (pt_cmpR op_eq (pe_callB call_len_seq (by rfl) T.n_len (by decide +kernel) (pa_cons (pv 0) pa_nil)) pe_int (nomark _)) (pw_or (pt_not (pt_val (pe_callB call_isi (by rfl) T.n_isinstance (by decide +kernel) (pa_cons (pe_ix ix_tup (pv 0) pe_int (fun _ _ => rfl)) (pa_cons (pe_bltn (v := .ty "str") rfl T.n_str (by decide +kernel) rfl) pa_nil))))) (pw_or1 (pt_cmpR op_notInKD (pe_ix ix_tup (pv 0) pe_int (fun _ _ => rfl)) (pe_glob (v := .ref a.k_ROWS) rfl T.g_ROWS rfl) (by rfl)))))) (pss_one (ps_ret pe_bl)) pss_nil)
      (pss_cons (ps_set (i := 1) nd rfl (by first | exact Or.inl rfl | exact Or.inr rfl) (pe_ix ix_tup (pv 0) pe_int (fun _ _ => rfl)))
      (pss_cons (ps_if (pt_cmpR op_notInKD (pv 1) (pe_glob (v := .ref a.k_PLACES) rfl T.g_PLACES rfl) (by rfl)) (pss_one (ps_ret (pe_cmpR op_eq (pe_callB call_len_seq (by rfl) T.n_len (by decide +kernel) (pa_cons (pv 0) pa_nil)) pe_int (nomark _)))) pss_nil)
      (pss_one (ps_ret (pe_and (pe_cmpR op_eq (pe_callB call_len_seq (by rfl) T.n_len (by decide +kernel) (pa_cons (pv 0) pa_nil)) pe_int (nomark _)) (pe_one (pe_call G_is_number (hr.mono (by decide)) rfl T.g_is_number T.F_is_number.kp T.b_is_number .nil pass0 (pa_cons (pe_ix ix_tup (pv 0) pe_int (fun _ _ => rfl)) (pa_cons pe_int (pa_cons (pe_ix ix_kdict (pe_glob (v := .ref a.k_HIGHEST) rfl T.g_HIGHEST rfl) (pv 1) (fun _ _ => rfl)) pa_nil)))))))))))
theorem ok_need_request (T : Txt K mg a)
    (G_is_request : FnOk P a.w K mg base CX0 2 a.f_is_request a.d_is_request P_is_request (sp_is_request K a))
    (rd : RDX (sp_need_request K a) (t_need_request K a) N_need_request) :
    FnOk P a.w K mg base (L2.CX P a.w) 3 a.f_need_request a.d_need_request P_need_request (sp_need_request K a) := by
  have nd := sc_need_request.nd
  refine T.F_need_request.okX sc_need_request (fun vs H Q E h => by first | (obtain ⟨rfl, _⟩ := h; rfl; done) | (obtain ⟨_, rfl, _⟩ := h; rfl; done) | (obtain ⟨_, _, rfl, _⟩ := h; rfl; done) | (obtain ⟨_, _, _, rfl, _⟩ := h; rfl; done) | (obtain ⟨_, _, _, _, rfl, _⟩ := h; rfl; done) | (obtain ⟨_, _, _, _, _, rfl, _⟩ := h; rfl; done) | (obtain ⟨_, _, _, _, _, _, rfl, _⟩ := h; rfl; done) | (obtain ⟨_, _, _, _, _, _, _, rfl, _⟩ := h; rfl; done) | (obtain ⟨_, _, _, _, _, _, _, _, rfl, _⟩ := h; rfl; done) | (rcases h with ⟨_, rfl, _⟩ | ⟨_, rfl, _⟩ <;> rfl; done) | (rcases h with ⟨_, rfl, _⟩ | ⟨_, _, rfl, _⟩ <;> rfl; done) | (rcases h with ⟨_, rfl, _⟩ | ⟨_, _, _, rfl, _⟩ <;> rfl; done) | (rcases h with ⟨_, rfl, _⟩ | ⟨_, _, _, _, rfl, _⟩ <;> rfl; done) | (rcases h with ⟨_, rfl, _⟩ | ⟨_, _, _, _, _, rfl, _⟩ <;> rfl; done) | (rcases h with ⟨_, rfl, _⟩ | ⟨_, _, _, _, _, _, rfl, _⟩ <;> rfl; done) | (rcases h with ⟨_, _, rfl, _⟩ | ⟨_, rfl, _⟩ <;> rfl; done) | (rcases h with ⟨_, _, rfl, _⟩ | ⟨_, _, rfl, _⟩ <;> rfl; done) | (rcases h with ⟨_, _, rfl, _⟩ | ⟨_, _, _, rfl, _⟩ <;> rfl; done) | (rcases h with ⟨_, _, rfl, _⟩ | ⟨_, _, _, _, rfl, _⟩ <;> rfl; done) | (rcases h with ⟨_, _, rfl, _⟩ | ⟨_, _, _, _, _, rfl, _⟩ <;> rfl; done) | (rcases h with ⟨_, _, rfl, _⟩ | ⟨_, _, _, _, _, _, rfl, _⟩ <;> rfl; done) | (rcases h with ⟨_, _, _, rfl, _⟩ | ⟨_, rfl, _⟩ <;> rfl; done) | (rcases h with ⟨_, _, _, rfl, _⟩ | ⟨_, _, rfl, _⟩ <;> rfl; done) | (rcases h with ⟨_, _, _, rfl, _⟩ | ⟨_, _, _, rfl, _⟩ <;> rfl; done) | (rcases h with ⟨_, _, _, rfl, _⟩ | ⟨_, _, _, _, rfl, _⟩ <;> rfl; done) | (rcases h with ⟨_, _, _, rfl, _⟩ | ⟨_, _, _, _, _, rfl, _⟩ <;> rfl; done) | (rcases h with ⟨_, _, _, rfl, _⟩ | ⟨_, _, _, _, _, _, rfl, _⟩ <;> rfl; done) | (rcases h with ⟨_, _, _, _, rfl, _⟩ | ⟨_, rfl, _⟩ <;> rfl; done) | (rcases h with ⟨_, _, _, _, rfl, _⟩ | ⟨_, _, rfl, _⟩ <;> rfl; done) | (rcases h with ⟨_, _, _, _, rfl, _⟩ | ⟨_, _, _, rfl, _⟩ <;> rfl; done) | (rcases h with ⟨_, _, _, _, rfl, _⟩ | ⟨_, _, _, _, rfl, _⟩ <;> rfl; done) | (rcases h with ⟨_, _, _, _, rfl, _⟩ | ⟨_, _, _, _, _, rfl, _⟩ <;> rfl; done) | (rcases h with ⟨_, _, _, _, rfl, _⟩ | ⟨_, _, _, _, _, _, rfl, _⟩ <;> rfl; done) | (rcases h with ⟨_, _, _, _, _, rfl, _⟩ | ⟨_, rfl, _⟩ <;> rfl; done) | (rcases h with ⟨_, _, _, _, _, rfl, _⟩ | ⟨_, _, rfl, _⟩ <;> rfl; done) | (rcases h with ⟨_, _, _, _, _, rfl, _⟩ | ⟨_, _, _, rfl, _⟩ <;> rfl; done) | (rcases h with ⟨_, _, _, _, _, rfl, _⟩ | ⟨_, _, _, _, rfl, _⟩ <;> rfl; done) | (rcases h with ⟨_, _, _, _, _, rfl, _⟩ | ⟨_, _, _, _, _, rfl, _⟩ <;> rfl; done) | (rcases h with ⟨_, _, _, _, _, rfl, _⟩ | ⟨_, _, _, _, _, _, rfl, _⟩ <;> rfl; done) | (rcases h with ⟨_, _, _, _, _, _, rfl, _⟩ | ⟨_, rfl, _⟩ <;> rfl; done) | (rcases h with ⟨_, _, _, _, _, _, rfl, _⟩ | ⟨_, _, rfl, _⟩ <;> rfl; done) | (rcases h with ⟨_, _, _, _, _, _, rfl, _⟩ | ⟨_, _, _, rfl, _⟩ <;> rfl; done) | (rcases h with ⟨_, _, _, _, _, _, rfl, _⟩ | ⟨_, _, _, _, rfl, _⟩ <;> rfl; done) | (rcases h with ⟨_, _, _, _, _, _, rfl, _⟩ | ⟨_, _, _, _, _, rfl, _⟩ <;> rfl; done) | (rcases h with ⟨_, _, _, _, _, _, rfl, _⟩ | ⟨_, _, _, _, _, _, rfl, _⟩ <;> rfl; done) | (rcases h with ⟨_, rfl, _⟩ | ⟨_, _, rfl, _⟩ <;> rfl) | (rcases h with ⟨_, rfl, _⟩ | ⟨_, rfl, _⟩ <;> rfl) | (rcases h with h | h | h <;> (first | (obtain ⟨rfl, _⟩ := h; rfl; done) | (obtain ⟨_, rfl, _⟩ := h; rfl; done) | (obtain ⟨_, _, rfl, _⟩ := h; rfl; done) | (obtain ⟨_, _, _, rfl, _⟩ := h; rfl; done) | (obtain ⟨_, _, _, _, rfl, _⟩ := h; rfl; done) | (obtain ⟨_, _, _, _, _, rfl, _⟩ := h; rfl; done) | (obtain ⟨_, _, _, _, _, _, rfl, _⟩ := h; rfl; done) | (obtain ⟨_, _, _, _, _, _, _, rfl, _⟩ := h; rfl; done) | (obtain ⟨_, _, _, _, _, _, _, _, rfl, _⟩ := h; rfl; done)))) (fun cdv A outer s H vs Q E hr h => ⟨t_need_request K a E, ?_, rd vs H Q E h⟩)
  exact (pss_one (ps_if (pt_not (pt_val (pe_call G_is_request (hr.mono (by decide)) rfl T.g_is_request T.F_is_request.kp T.b_is_request .nil pass0 (pa_cons (pv 0) pa_nil)))) (pss_one (ps_raise rfl (takes_of rfl rfl rfl rfl) (pmk_own PySem.F.excBase_ValueError T.xC_BadRequest T.gC_BadRequest T.kC_BadRequest (raises_own T.bC_BadRequest T.tC_BadRequest) (by exact rfl)))) pss_nil))
theorem ok_request_bytes (T : Txt K mg a)
    (G_need_request : FnOk P a.w K mg base (L2.CX P a.w) 3 a.f_need_request a.d_need_request P_need_request (sp_need_request K a))
    (rd : RDX (sp_request_bytes K a) (t_request_bytes K a) N_request_bytes) :
    FnOk P a.w K mg base (L2.CX P a.w) 4 a.f_request_bytes a.d_request_bytes P_request_bytes (sp_request_bytes K a) := by
  have nd := sc_request_bytes.nd
  refine T.F_request_bytes.okX sc_request_bytes (fun vs H Q E h => by first | (obtain ⟨rfl, _⟩ := h; rfl; done) | (obtain ⟨_, rfl, _⟩ := h; rfl; done) | (obtain ⟨_, _, rfl, _⟩ := h; rfl; done) | (obtain ⟨_, _, _, rfl, _⟩ := h; rfl; done) | (obtain ⟨_, _, _, _, rfl, _⟩ := h; rfl; done) | (obtain ⟨_, _, _, _, _, rfl, _⟩ := h; rfl; done) | (obtain ⟨_, _, _, _, _, _, rfl, _⟩ := h; rfl; done) | (obtain ⟨_, _, _, _, _, _, _, rfl, _⟩ := h; rfl; done) | (obtain ⟨_, _, _, _, _, _, _, _, rfl, _⟩ := h; rfl; done) | (rcases h with ⟨_, rfl, _⟩ | ⟨_, rfl, _⟩ <;> rfl; done) | (rcases h with ⟨_, rfl, _⟩ | ⟨_, _, rfl, _⟩ <;> rfl; done) | (rcases h with ⟨_, rfl, _⟩ | ⟨_, _, _, rfl, _⟩ <;> rfl; done) | (rcases h with ⟨_, rfl, _⟩ | ⟨_, _, _, _, rfl, _⟩ <;> rfl; done) | (rcases h with ⟨_, rfl, _⟩ | ⟨_, _, _, _, _, rfl, _⟩ <;> rfl; done) | (rcases h with ⟨_, rfl, _⟩ | ⟨_, _, _, _, _, _, rfl, _⟩ <;> rfl; done) | (rcases h with ⟨_, _, rfl, _⟩ | ⟨_, rfl, _⟩ <;> rfl; done) | (rcases h with ⟨_, _, rfl, _⟩ | ⟨_, _, rfl, _⟩ <;> rfl; done) | (rcases h with ⟨_, _, rfl, _⟩ | ⟨_, _, _, rfl, _⟩ <;> rfl; done) | (rcases h with ⟨_, _, rfl, _⟩ | ⟨_, _, _, _, rfl, _⟩ <;> rfl; done) | (rcases h with ⟨_, _, rfl, _⟩ | ⟨_, _, _, _, _, rfl, _⟩ <;> rfl; done) | (rcases h with ⟨_, _, rfl, _⟩ | ⟨_, _, _, _, _, _, rfl, _⟩ <;> rfl; done) | (rcases h with ⟨_, _, _, rfl, _⟩ | ⟨_, rfl, _⟩ <;> rfl; done) | (rcases h with ⟨_, _, _, rfl, _⟩ | ⟨_, _, rfl, _⟩ <;> rfl; done) | (rcases h with ⟨_, _, _, rfl, _⟩ | ⟨_, _, _, rfl, _⟩ <;> rfl; done) | (rcases h with ⟨_, _, _, rfl, _⟩ | ⟨_, _, _, _, rfl, _⟩ <;> rfl; done) | (rcases h with ⟨_, _, _, rfl, _⟩ | ⟨_, _, _, _, _, rfl, _⟩ <;> rfl; done) | (rcases h with ⟨_, _, _, rfl, _⟩ | ⟨_, _, _, _, _, _, rfl, _⟩ <;> rfl; done) | (rcases h with ⟨_, _, _, _, rfl, _⟩ | ⟨_, rfl, _⟩ <;> rfl; done) | (rcases h with ⟨_, _, _, _, rfl, _⟩ | ⟨_, _, rfl, _⟩ <;> rfl; done) | (rcases h with ⟨_, _, _, _, rfl, _⟩ | ⟨_, _, _, rfl, _⟩ <;> rfl; done) | (rcases h with ⟨_, _, _, _, rfl, _⟩ | ⟨_, _, _, _, rfl, _⟩ <;> rfl; done) | (rcases h with ⟨_, _, _, _, rfl, _⟩ | ⟨_, _, _, _, _, rfl, _⟩ <;> rfl; done) | (rcases h with ⟨_, _, _, _, rfl, _⟩ | ⟨_, _, _, _, _, _, rfl, _⟩ <;> rfl; done) | (rcases h with ⟨_, _, _, _, _, rfl, _⟩ | ⟨_, rfl, _⟩ <;> rfl; done) | (rcases h with ⟨_, _, _, _, _, rfl, _⟩ | ⟨_, _, rfl, _⟩ <;> rfl; done) | (rcases h with ⟨_, _, _, _, _, rfl, _⟩ | ⟨_, _, _, rfl, _⟩ <;> rfl; done) | (rcases h with ⟨_, _, _, _, _, rfl, _⟩ | ⟨_, _, _, _, rfl, _⟩ <;> rfl; done) | (rcases h with ⟨_, _, _, _, _, rfl, _⟩ | ⟨_, _, _, _, _, rfl, _⟩ <;> rfl; done) | (rcases h with ⟨_, _, _, _, _, rfl, _⟩ | ⟨_, _, _, _, _, _, rfl, _⟩ <;> rfl; done) | (rcases h with ⟨_, _, _, _, _, _, rfl, _⟩ | ⟨_, rfl, _⟩ <;> rfl; done) | (rcases h with ⟨_, _, _, _, _, _, rfl, _⟩ | ⟨_, _, rfl, _⟩ <;> rfl; done) | (rcases h with ⟨_, _, _, _, _, _, rfl, _⟩ | ⟨_, _, _, rfl, _⟩ <;> rfl; done) | (rcases h with ⟨_, _, _, _, _, _, rfl, _⟩ | ⟨_, _, _, _, rfl, _⟩ <;> rfl; done) | (rcases h with ⟨_, _, _, _, _, _, rfl, _⟩ | ⟨_, _, _, _, _, rfl, _⟩ <;> rfl; done) | (rcases h with ⟨_, _, _, _, _, _, rfl, _⟩ | ⟨_, _, _, _, _, _, rfl, _⟩ <;> rfl; done) | (rcases h with ⟨_, rfl, _⟩ | ⟨_, _, rfl, _⟩ <;> rfl) | (rcases h with ⟨_, rfl, _⟩ | ⟨_, rfl, _⟩ <;> rfl) | (rcases h with h | h | h <;> (first | (obtain ⟨rfl, _⟩ := h; rfl; done) | (obtain ⟨_, rfl, _⟩ := h; rfl; done) | (obtain ⟨_, _, rfl, _⟩ := h; rfl; done) | (obtain ⟨_, _, _, rfl, _⟩ := h; rfl; done) | (obtain ⟨_, _, _, _, rfl, _⟩ := h; rfl; done) | (obtain ⟨_, _, _, _, _, rfl, _⟩ := h; rfl; done) | (obtain ⟨_, _, _, _, _, _, rfl, _⟩ := h; rfl; done) | (obtain ⟨_, _, _, _, _, _, _, rfl, _⟩ := h; rfl; done) | (obtain ⟨_, _, _, _, _, _, _, _, rfl, _⟩ := h; rfl; done)))) (fun cdv A outer s H vs Q E hr h => ⟨t_request_bytes K a E, ?_, rd vs H Q E h⟩)
  exact (pss_cons (ps_expr (pe_call G_need_request (hr.mono (by decide)) rfl T.g_need_request T.F_need_request.kp T.b_need_request .nil (passes_call (takes_of rfl rfl rfl rfl) (fun _ _ _ _ h => h)) (pa_cons (pv 0) pa_nil)))
      (pss_cons (ps_set (i := 1) nd rfl (by first | exact Or.inl rfl | exact Or.inr rfl) (pe_ix ix_tup (pv 0) pe_int (fun _ _ => rfl)))
      (pss_cons (ps_set (i := 2) nd rfl (by first | exact Or.inl rfl | exact Or.inr rfl) (pe_callTy call_list_of (by rfl) T.n_list (by decide +kernel) (pa_cons (pe_ix ix_kdict (pe_glob (v := .ref a.k_ROWS) rfl T.g_ROWS rfl) (pv 1) (fun _ _ => rfl)) pa_nil)))
      (pss_cons (ps_if (pt_cmpR op_inKD (pv 1) (pe_glob (v := .ref a.k_PLACES) rfl T.g_PLACES rfl) (by rfl)) (pss_one (ps_asg (pe_ix ix_tup (pv 0) pe_int (fun _ _ => rfl)) (pg_sub (pv 2) (pe_ix ix_kdict (pe_glob (v := .ref a.k_PLACES) rfl T.g_PLACES rfl) (pv 1) (fun _ _ => rfl)) set_list))) pss_nil)
      (pss_one (ps_ret (pe_callTy call_tuple_of (by rfl) T.n_tuple (by decide +kernel) (pa_cons (pv 2) pa_nil))))))))
theorem ok_likely_request (T : Txt K mg a)
    (rd : RD (sp_likely_request K a) (t_likely_request K a) N_likely_request) :
    FnOk P a.w K mg base CX0 1 a.f_likely_request a.d_likely_request P_likely_request (sp_likely_request K a) := by
  have nd := sc_likely_request.nd
  refine T.F_likely_request.ok sc_likely_request (fun vs H Q E h => by first | (obtain ⟨rfl, _⟩ := h; rfl; done) | (obtain ⟨_, rfl, _⟩ := h; rfl; done) | (obtain ⟨_, _, rfl, _⟩ := h; rfl; done) | (obtain ⟨_, _, _, rfl, _⟩ := h; rfl; done) | (obtain ⟨_, _, _, _, rfl, _⟩ := h; rfl; done) | (obtain ⟨_, _, _, _, _, rfl, _⟩ := h; rfl; done) | (obtain ⟨_, _, _, _, _, _, rfl, _⟩ := h; rfl; done) | (obtain ⟨_, _, _, _, _, _, _, rfl, _⟩ := h; rfl; done) | (obtain ⟨_, _, _, _, _, _, _, _, rfl, _⟩ := h; rfl; done) | (rcases h with ⟨_, rfl, _⟩ | ⟨_, rfl, _⟩ <;> rfl; done) | (rcases h with ⟨_, rfl, _⟩ | ⟨_, _, rfl, _⟩ <;> rfl; done) | (rcases h with ⟨_, rfl, _⟩ | ⟨_, _, _, rfl, _⟩ <;> rfl; done) | (rcases h with ⟨_, rfl, _⟩ | ⟨_, _, _, _, rfl, _⟩ <;> rfl; done) | (rcases h with ⟨_, rfl, _⟩ | ⟨_, _, _, _, _, rfl, _⟩ <;> rfl; done) | (rcases h with ⟨_, rfl, _⟩ | ⟨_, _, _, _, _, _, rfl, _⟩ <;> rfl; done) | (rcases h with ⟨_, _, rfl, _⟩ | ⟨_, rfl, _⟩ <;> rfl; done) | (rcases h with ⟨_, _, rfl, _⟩ | ⟨_, _, rfl, _⟩ <;> rfl; done) | (rcases h with ⟨_, _, rfl, _⟩ | ⟨_, _, _, rfl, _⟩ <;> rfl; done) | (rcases h with ⟨_, _, rfl, _⟩ | ⟨_, _, _, _, rfl, _⟩ <;> rfl; done) | (rcases h with ⟨_, _, rfl, _⟩ | ⟨_, _, _, _, _, rfl, _⟩ <;> rfl; done) | (rcases h with ⟨_, _, rfl, _⟩ | ⟨_, _, _, _, _, _, rfl, _⟩ <;> rfl; done) | (rcases h with ⟨_, _, _, rfl, _⟩ | ⟨_, rfl, _⟩ <;> rfl; done) | (rcases h with ⟨_, _, _, rfl, _⟩ | ⟨_, _, rfl, _⟩ <;> rfl; done) | (rcases h with ⟨_, _, _, rfl, _⟩ | ⟨_, _, _, rfl, _⟩ <;> rfl; done) | (rcases h with ⟨_, _, _, rfl, _⟩ | ⟨_, _, _, _, rfl, _⟩ <;> rfl; done) | (rcases h with ⟨_, _, _, rfl, _⟩ | ⟨_, _, _, _, _, rfl, _⟩ <;> rfl; done) | (rcases h with ⟨_, _, _, rfl, _⟩ | ⟨_, _, _, _, _, _, rfl, _⟩ <;> rfl; done) | (rcases h with ⟨_, _, _, _, rfl, _⟩ | ⟨_, rfl, _⟩ <;> rfl; done) | (rcases h with ⟨_, _, _, _, rfl, _⟩ | ⟨_, _, rfl, _⟩ <;> rfl; done) | (rcases h with ⟨_, _, _, _, rfl, _⟩ | ⟨_, _, _, rfl, _⟩ <;> rfl; done) | (rcases h with ⟨_, _, _, _, rfl, _⟩ | ⟨_, _, _, _, rfl, _⟩ <;> rfl; done) | (rcases h with ⟨_, _, _, _, rfl, _⟩ | ⟨_, _, _, _, _, rfl, _⟩ <;> rfl; done) | (rcases h with ⟨_, _, _, _, rfl, _⟩ | ⟨_, _, _, _, _, _, rfl, _⟩ <;> rfl; done) | (rcases h with ⟨_, _, _, _, _, rfl, _⟩ | ⟨_, rfl, _⟩ <;> rfl; done) | (rcases h with ⟨_, _, _, _, _, rfl, _⟩ | ⟨_, _, rfl, _⟩ <;> rfl; done) | (rcases h with ⟨_, _, _, _, _, rfl, _⟩ | ⟨_, _, _, rfl, _⟩ <;> rfl; done) | (rcases h with ⟨_, _, _, _, _, rfl, _⟩ | ⟨_, _, _, _, rfl, _⟩ <;> rfl; done) | (rcases h with ⟨_, _, _, _, _, rfl, _⟩ | ⟨_, _, _, _, _, rfl, _⟩ <;> rfl; done) | (rcases h with ⟨_, _, _, _, _, rfl, _⟩ | ⟨_, _, _, _, _, _, rfl, _⟩ <;> rfl; done) | (rcases h with ⟨_, _, _, _, _, _, rfl, _⟩ | ⟨_, rfl, _⟩ <;> rfl; done) | (rcases h with ⟨_, _, _, _, _, _, rfl, _⟩ | ⟨_, _, rfl, _⟩ <;> rfl; done) | (rcases h with ⟨_, _, _, _, _, _, rfl, _⟩ | ⟨_, _, _, rfl, _⟩ <;> rfl; done) | (rcases h with ⟨_, _, _, _, _, _, rfl, _⟩ | ⟨_, _, _, _, rfl, _⟩ <;> rfl; done) | (rcases h with ⟨_, _, _, _, _, _, rfl, _⟩ | ⟨_, _, _, _, _, rfl, _⟩ <;> rfl; done) | (rcases h with ⟨_, _, _, _, _, _, rfl, _⟩ | ⟨_, _, _, _, _, _, rfl, _⟩ <;> rfl; done) | (rcases h with ⟨_, rfl, _⟩ | ⟨_, _, rfl, _⟩ <;> rfl) | (rcases h with ⟨_, rfl, _⟩ | ⟨_, rfl, _⟩ <;> rfl) | (rcases h with h | h | h <;> (first | (obtain ⟨rfl, _⟩ := h; rfl; done) | (obtain ⟨_, rfl, _⟩ := h; rfl; done) | (obtain ⟨_, _, rfl, _⟩ := h; rfl; done) | (obtain ⟨_, _, _, rfl, _⟩ := h; rfl; done) | (obtain ⟨_, _, _, _, rfl, _⟩ := h; rfl; done) | (obtain ⟨_, _, _, _, _, rfl, _⟩ := h; rfl; done) | (obtain ⟨_, _, _, _, _, _, rfl, _⟩ := h; rfl; done) | (obtain ⟨_, _, _, _, _, _, _, rfl, _⟩ := h; rfl; done) | (obtain ⟨_, _, _, _, _, _, _, _, rfl, _⟩ := h; rfl; done)))) (fun cdv A outer s H vs Q E hr h => ⟨t_likely_request K a, ?_, rd vs H Q E h⟩)
  exact (pss_cons (ps_if (pt_cmpR op_inKD (pv 0) (pe_glob (v := .ref a.k_PLACES) rfl T.g_PLACES rfl) (by rfl)) (pss_one (ps_ret (pe_tup (pa_cons (pv 0) (pa_cons (pe_ix ix_tup (pv 1) (pe_ix ix_kdict (pe_glob (v := .ref a.k_PLACES) rfl T.g_PLACES rfl) (pv 0) (fun _ _ => rfl)) (fun _ _ => rfl)) pa_nil))))) pss_nil)
      (pss_one (ps_ret (pe_tup (pa_cons (pv 0) pa_nil)))))
theorem ok_read_request (T : Txt K mg a)
    (G_is_request : FnOk P a.w K mg base CX0 2 a.f_is_request a.d_is_request P_is_request (sp_is_request K a))
    (G_likely_request : FnOk P a.w K mg base CX0 1 a.f_likely_request a.d_likely_request P_likely_request (sp_likely_request K a))
    (G_request_bytes : FnOk P a.w K mg base (L2.CX P a.w) 4 a.f_request_bytes a.d_request_bytes P_request_bytes (sp_request_bytes K a))
    (rd : RDX (sp_read_request K a) (t_read_request K a) N_read_request) :
    FnOk P a.w K mg base (L2.CX P a.w) 5 a.f_read_request a.d_read_request P_read_request (sp_read_request K a) := by
  have nd := sc_read_request.nd
  refine T.F_read_request.okX sc_read_request (fun vs H Q E h => by first | (obtain ⟨rfl, _⟩ := h; rfl; done) | (obtain ⟨_, rfl, _⟩ := h; rfl; done) | (obtain ⟨_, _, rfl, _⟩ := h; rfl; done) | (obtain ⟨_, _, _, rfl, _⟩ := h; rfl; done) | (obtain ⟨_, _, _, _, rfl, _⟩ := h; rfl; done) | (obtain ⟨_, _, _, _, _, rfl, _⟩ := h; rfl; done) | (obtain ⟨_, _, _, _, _, _, rfl, _⟩ := h; rfl; done) | (obtain ⟨_, _, _, _, _, _, _, rfl, _⟩ := h; rfl; done) | (obtain ⟨_, _, _, _, _, _, _, _, rfl, _⟩ := h; rfl; done) | (rcases h with ⟨_, rfl, _⟩ | ⟨_, rfl, _⟩ <;> rfl; done) | (rcases h with ⟨_, rfl, _⟩ | ⟨_, _, rfl, _⟩ <;> rfl; done) | (rcases h with ⟨_, rfl, _⟩ | ⟨_, _, _, rfl, _⟩ <;> rfl; done) | (rcases h with ⟨_, rfl, _⟩ | ⟨_, _, _, _, rfl, _⟩ <;> rfl; done) | (rcases h with ⟨_, rfl, _⟩ | ⟨_, _, _, _, _, rfl, _⟩ <;> rfl; done) | (rcases h with ⟨_, rfl, _⟩ | ⟨_, _, _, _, _, _, rfl, _⟩ <;> rfl; done) | (rcases h with ⟨_, _, rfl, _⟩ | ⟨_, rfl, _⟩ <;> rfl; done) | (rcases h with ⟨_, _, rfl, _⟩ | ⟨_, _, rfl, _⟩ <;> rfl; done) | (rcases h with ⟨_, _, rfl, _⟩ | ⟨_, _, _, rfl, _⟩ <;> rfl; done) | (rcases h with ⟨_, _, rfl, _⟩ | ⟨_, _, _, _, rfl, _⟩ <;> rfl; done) | (rcases h with ⟨_, _, rfl, _⟩ | ⟨_, _, _, _, _, rfl, _⟩ <;> rfl; done) | (rcases h with ⟨_, _, rfl, _⟩ | ⟨_, _, _, _, _, _, rfl, _⟩ <;> rfl; done) | (rcases h with ⟨_, _, _, rfl, _⟩ | ⟨_, rfl, _⟩ <;> rfl; done) | (rcases h with ⟨_, _, _, rfl, _⟩ | ⟨_, _, rfl, _⟩ <;> rfl; done) | (rcases h with ⟨_, _, _, rfl, _⟩ | ⟨_, _, _, rfl, _⟩ <;> rfl; done) | (rcases h with ⟨_, _, _, rfl, _⟩ | ⟨_, _, _, _, rfl, _⟩ <;> rfl; done) | (rcases h with ⟨_, _, _, rfl, _⟩ | ⟨_, _, _, _, _, rfl, _⟩ <;> rfl; done) | (rcases h with ⟨_, _, _, rfl, _⟩ | ⟨_, _, _, _, _, _, rfl, _⟩ <;> rfl; done) | (rcases h with ⟨_, _, _, _, rfl, _⟩ | ⟨_, rfl, _⟩ <;> rfl; done) | (rcases h with ⟨_, _, _, _, rfl, _⟩ | ⟨_, _, rfl, _⟩ <;> rfl; done) | (rcases h with ⟨_, _, _, _, rfl, _⟩ | ⟨_, _, _, rfl, _⟩ <;> rfl; done) | (rcases h with ⟨_, _, _, _, rfl, _⟩ | ⟨_, _, _, _, rfl, _⟩ <;> rfl; done) | (rcases h with ⟨_, _, _, _, rfl, _⟩ | ⟨_, _, _, _, _, rfl, _⟩ <;> rfl; done) | (rcases h with ⟨_, _, _, _, rfl, _⟩ | ⟨_, _, _, _, _, _, rfl, _⟩ <;> rfl; done) | (rcases h with ⟨_, _, _, _, _, rfl, _⟩ | ⟨_, rfl, _⟩ <;> rfl; done) | (rcases h with ⟨_, _, _, _, _, rfl, _⟩ | ⟨_, _, rfl, _⟩ <;> rfl; done) | (rcases h with ⟨_, _, _, _, _, rfl, _⟩ | ⟨_, _, _, rfl, _⟩ <;> rfl; done) | (rcases h with ⟨_, _, _, _, _, rfl, _⟩ | ⟨_, _, _, _, rfl, _⟩ <;> rfl; done) | (rcases h with ⟨_, _, _, _, _, rfl, _⟩ | ⟨_, _, _, _, _, rfl, _⟩ <;> rfl; done) | (rcases h with ⟨_, _, _, _, _, rfl, _⟩ | ⟨_, _, _, _, _, _, rfl, _⟩ <;> rfl; done) | (rcases h with ⟨_, _, _, _, _, _, rfl, _⟩ | ⟨_, rfl, _⟩ <;> rfl; done) | (rcases h with ⟨_, _, _, _, _, _, rfl, _⟩ | ⟨_, _, rfl, _⟩ <;> rfl; done) | (rcases h with ⟨_, _, _, _, _, _, rfl, _⟩ | ⟨_, _, _, rfl, _⟩ <;> rfl; done) | (rcases h with ⟨_, _, _, _, _, _, rfl, _⟩ | ⟨_, _, _, _, rfl, _⟩ <;> rfl; done) | (rcases h with ⟨_, _, _, _, _, _, rfl, _⟩ | ⟨_, _, _, _, _, rfl, _⟩ <;> rfl; done) | (rcases h with ⟨_, _, _, _, _, _, rfl, _⟩ | ⟨_, _, _, _, _, _, rfl, _⟩ <;> rfl; done) | (rcases h with ⟨_, rfl, _⟩ | ⟨_, _, rfl, _⟩ <;> rfl) | (rcases h with ⟨_, rfl, _⟩ | ⟨_, rfl, _⟩ <;> rfl) | (rcases h with h | h | h <;> (first | (obtain ⟨rfl, _⟩ := h; rfl; done) | (obtain ⟨_, rfl, _⟩ := h; rfl; done) | (obtain ⟨_, _, rfl, _⟩ := h; rfl; done) | (obtain ⟨_, _, _, rfl, _⟩ := h; rfl; done) | (obtain ⟨_, _, _, _, rfl, _⟩ := h; rfl; done) | (obtain ⟨_, _, _, _, _, rfl, _⟩ := h; rfl; done) | (obtain ⟨_, _, _, _, _, _, rfl, _⟩ := h; rfl; done) | (obtain ⟨_, _, _, _, _, _, _, rfl, _⟩ := h; rfl; done) | (obtain ⟨_, _, _, _, _, _, _, _, rfl, _⟩ := h; rfl; done)))) (fun cdv A outer s H vs Q E hr h => ⟨t_read_request K a E, ?_, rd vs H Q E h⟩)
  exact (pss_cons (ps_if (pt_cmpR op_eq (pe_callB call_len_seq (by rfl) T.n_len (by decide +kernel) (pa_cons (pv 0) pa_nil)) (pe_glob (v := (.int 8)) rfl T.g_LENGTH ⟨_, rfl⟩) (nomark _)) (pss_one (ps_for (passes_of rfl) rfl (pi_kkeys (pe_glob (v := .ref a.k_ROWS) rfl T.g_ROWS rfl)) (pg_name (i := 1) nd rfl (by first | exact Or.inl rfl | exact Or.inr rfl)) (pss_cons (ps_set (i := 2) nd rfl (by first | exact Or.inl rfl | exact Or.inr rfl) (pe_call G_likely_request (hr.mono (by decide)) rfl T.g_likely_request T.F_likely_request.kp T.b_likely_request .nil pass0 (pa_cons (pv 1) (pa_cons (pv 0) pa_nil))))
      (pss_one (ps_if (PW.pt (pw_and (pt_val (pe_call G_is_request (hr.mono (by decide)) rfl T.g_is_request T.F_is_request.kp T.b_is_request .nil pass0 (pa_cons (pv 2) pa_nil))) (pw_and1 (pt_cmpR (op_eqD hr.units) (pe_call G_request_bytes (hr.mono (by decide)) rfl T.g_request_bytes T.F_request_bytes.kp T.b_request_bytes .nil (passes_call (takes_of rfl rfl rfl rfl) (fun _ _ _ _ h => h)) (pa_cons (pv 2) pa_nil)) (pv 0) (nomark _))))) (pss_one (ps_ret (pv 2))) pss_nil))))) pss_nil)
      (pss_one (ps_raise rfl (takes_of rfl rfl rfl rfl) (pmk_own PySem.F.excBase_ValueError T.xC_BadRequest T.gC_BadRequest T.kC_BadRequest (raises_own T.bC_BadRequest T.tC_BadRequest) (by exact rfl)))))
theorem ok_asks (T : Txt K mg a)
    (G_need_request : FnOk P a.w K mg base (L2.CX P a.w) 3 a.f_need_request a.d_need_request P_need_request (sp_need_request K a))
    (rd : RDX (sp_asks K a) (t_asks K a) N_asks) :
    FnOk P a.w K mg base (L2.CX P a.w) 4 a.f_asks a.d_asks P_asks (sp_asks K a) := by
  have nd := sc_asks.nd
  refine T.F_asks.okX sc_asks (fun vs H Q E h => by first | (obtain ⟨rfl, _⟩ := h; rfl; done) | (obtain ⟨_, rfl, _⟩ := h; rfl; done) | (obtain ⟨_, _, rfl, _⟩ := h; rfl; done) | (obtain ⟨_, _, _, rfl, _⟩ := h; rfl; done) | (obtain ⟨_, _, _, _, rfl, _⟩ := h; rfl; done) | (obtain ⟨_, _, _, _, _, rfl, _⟩ := h; rfl; done) | (obtain ⟨_, _, _, _, _, _, rfl, _⟩ := h; rfl; done) | (obtain ⟨_, _, _, _, _, _, _, rfl, _⟩ := h; rfl; done) | (obtain ⟨_, _, _, _, _, _, _, _, rfl, _⟩ := h; rfl; done) | (rcases h with ⟨_, rfl, _⟩ | ⟨_, rfl, _⟩ <;> rfl; done) | (rcases h with ⟨_, rfl, _⟩ | ⟨_, _, rfl, _⟩ <;> rfl; done) | (rcases h with ⟨_, rfl, _⟩ | ⟨_, _, _, rfl, _⟩ <;> rfl; done) | (rcases h with ⟨_, rfl, _⟩ | ⟨_, _, _, _, rfl, _⟩ <;> rfl; done) | (rcases h with ⟨_, rfl, _⟩ | ⟨_, _, _, _, _, rfl, _⟩ <;> rfl; done) | (rcases h with ⟨_, rfl, _⟩ | ⟨_, _, _, _, _, _, rfl, _⟩ <;> rfl; done) | (rcases h with ⟨_, _, rfl, _⟩ | ⟨_, rfl, _⟩ <;> rfl; done) | (rcases h with ⟨_, _, rfl, _⟩ | ⟨_, _, rfl, _⟩ <;> rfl; done) | (rcases h with ⟨_, _, rfl, _⟩ | ⟨_, _, _, rfl, _⟩ <;> rfl; done) | (rcases h with ⟨_, _, rfl, _⟩ | ⟨_, _, _, _, rfl, _⟩ <;> rfl; done) | (rcases h with ⟨_, _, rfl, _⟩ | ⟨_, _, _, _, _, rfl, _⟩ <;> rfl; done) | (rcases h with ⟨_, _, rfl, _⟩ | ⟨_, _, _, _, _, _, rfl, _⟩ <;> rfl; done) | (rcases h with ⟨_, _, _, rfl, _⟩ | ⟨_, rfl, _⟩ <;> rfl; done) | (rcases h with ⟨_, _, _, rfl, _⟩ | ⟨_, _, rfl, _⟩ <;> rfl; done) | (rcases h with ⟨_, _, _, rfl, _⟩ | ⟨_, _, _, rfl, _⟩ <;> rfl; done) | (rcases h with ⟨_, _, _, rfl, _⟩ | ⟨_, _, _, _, rfl, _⟩ <;> rfl; done) | (rcases h with ⟨_, _, _, rfl, _⟩ | ⟨_, _, _, _, _, rfl, _⟩ <;> rfl; done) | (rcases h with ⟨_, _, _, rfl, _⟩ | ⟨_, _, _, _, _, _, rfl, _⟩ <;> rfl; done) | (rcases h with ⟨_, _, _, _, rfl, _⟩ | ⟨_, rfl, _⟩ <;> rfl; done) | (rcases h with ⟨_, _, _, _, rfl, _⟩ | ⟨_, _, rfl, _⟩ <;> rfl; done) | (rcases h with ⟨_, _, _, _, rfl, _⟩ | ⟨_, _, _, rfl, _⟩ <;> rfl; done) | (rcases h with ⟨_, _, _, _, rfl, _⟩ | ⟨_, _, _, _, rfl, _⟩ <;> rfl; done) | (rcases h with ⟨_, _, _, _, rfl, _⟩ | ⟨_, _, _, _, _, rfl, _⟩ <;> rfl; done) | (rcases h with ⟨_, _, _, _, rfl, _⟩ | ⟨_, _, _, _, _, _, rfl, _⟩ <;> rfl; done) | (rcases h with ⟨_, _, _, _, _, rfl, _⟩ | ⟨_, rfl, _⟩ <;> rfl; done) | (rcases h with ⟨_, _, _, _, _, rfl, _⟩ | ⟨_, _, rfl, _⟩ <;> rfl; done) | (rcases h with ⟨_, _, _, _, _, rfl, _⟩ | ⟨_, _, _, rfl, _⟩ <;> rfl; done) | (rcases h with ⟨_, _, _, _, _, rfl, _⟩ | ⟨_, _, _, _, rfl, _⟩ <;> rfl; done) | (rcases h with ⟨_, _, _, _, _, rfl, _⟩ | ⟨_, _, _, _, _, rfl, _⟩ <;> rfl; done) | (rcases h with ⟨_, _, _, _, _, rfl, _⟩ | ⟨_, _, _, _, _, _, rfl, _⟩ <;> rfl; done) | (rcases h with ⟨_, _, _, _, _, _, rfl, _⟩ | ⟨_, rfl, _⟩ <;> rfl; done) | (rcases h with ⟨_, _, _, _, _, _, rfl, _⟩ | ⟨_, _, rfl, _⟩ <;> rfl; done) | (rcases h with ⟨_, _, _, _, _, _, rfl, _⟩ | ⟨_, _, _, rfl, _⟩ <;> rfl; done) | (rcases h with ⟨_, _, _, _, _, _, rfl, _⟩ | ⟨_, _, _, _, rfl, _⟩ <;> rfl; done) | (rcases h with ⟨_, _, _, _, _, _, rfl, _⟩ | ⟨_, _, _, _, _, rfl, _⟩ <;> rfl; done) | (rcases h with ⟨_, _, _, _, _, _, rfl, _⟩ | ⟨_, _, _, _, _, _, rfl, _⟩ <;> rfl; done) | (rcases h with ⟨_, rfl, _⟩ | ⟨_, _, rfl, _⟩ <;> rfl) | (rcases h with ⟨_, rfl, _⟩ | ⟨_, rfl, _⟩ <;> rfl) | (rcases h with h | h | h <;> (first | (obtain ⟨rfl, _⟩ := h; rfl; done) | (obtain ⟨_, rfl, _⟩ := h; rfl; done) | (obtain ⟨_, _, rfl, _⟩ := h; rfl; done) | (obtain ⟨_, _, _, rfl, _⟩ := h; rfl; done) | (obtain ⟨_, _, _, _, rfl, _⟩ := h; rfl; done) | (obtain ⟨_, _, _, _, _, rfl, _⟩ := h; rfl; done) | (obtain ⟨_, _, _, _, _, _, rfl, _⟩ := h; rfl; done) | (obtain ⟨_, _, _, _, _, _, _, rfl, _⟩ := h; rfl; done) | (obtain ⟨_, _, _, _, _, _, _, _, rfl, _⟩ := h; rfl; done)))) (fun cdv A outer s H vs Q E hr h => ⟨t_asks K a E, ?_, rd vs H Q E h⟩)
  exact (pss_cons (ps_expr (pe_call G_need_request (hr.mono (by decide)) rfl T.g_need_request T.F_need_request.kp T.b_need_request .nil (passes_call (takes_of rfl rfl rfl rfl) (fun _ _ _ _ h => h)) (pa_cons (pv 0) pa_nil)))
      (pss_one (ps_ret (pe_cmpR op_in_seq (pe_ix ix_tup (pv 0) pe_int (fun _ _ => rfl)) (pe_glob (v := .ref a.k_ASKING) rfl T.g_ASKING rfl) (by rfl)))))
theorem ok__law_bag (T : Txt K mg a)
    (rd : RD (sp__law_bag K a) (t__law_bag K a) N__law_bag) :
    FnOk P a.w K mg base CX0 1 a.f__law_bag a.d__law_bag P__law_bag (sp__law_bag K a) := by
  have nd := sc__law_bag.nd
  refine T.F__law_bag.ok sc__law_bag (fun vs H Q E h => by first | (obtain ⟨rfl, _⟩ := h; rfl; done) | (obtain ⟨_, rfl, _⟩ := h; rfl; done) | (obtain ⟨_, _, rfl, _⟩ := h; rfl; done) | (obtain ⟨_, _, _, rfl, _⟩ := h; rfl; done) | (obtain ⟨_, _, _, _, rfl, _⟩ := h; rfl; done) | (obtain ⟨_, _, _, _, _, rfl, _⟩ := h; rfl; done) | (obtain ⟨_, _, _, _, _, _, rfl, _⟩ := h; rfl; done) | (obtain ⟨_, _, _, _, _, _, _, rfl, _⟩ := h; rfl; done) | (obtain ⟨_, _, _, _, _, _, _, _, rfl, _⟩ := h; rfl; done) | (rcases h with ⟨_, rfl, _⟩ | ⟨_, rfl, _⟩ <;> rfl; done) | (rcases h with ⟨_, rfl, _⟩ | ⟨_, _, rfl, _⟩ <;> rfl; done) | (rcases h with ⟨_, rfl, _⟩ | ⟨_, _, _, rfl, _⟩ <;> rfl; done) | (rcases h with ⟨_, rfl, _⟩ | ⟨_, _, _, _, rfl, _⟩ <;> rfl; done) | (rcases h with ⟨_, rfl, _⟩ | ⟨_, _, _, _, _, rfl, _⟩ <;> rfl; done) | (rcases h with ⟨_, rfl, _⟩ | ⟨_, _, _, _, _, _, rfl, _⟩ <;> rfl; done) | (rcases h with ⟨_, _, rfl, _⟩ | ⟨_, rfl, _⟩ <;> rfl; done) | (rcases h with ⟨_, _, rfl, _⟩ | ⟨_, _, rfl, _⟩ <;> rfl; done) | (rcases h with ⟨_, _, rfl, _⟩ | ⟨_, _, _, rfl, _⟩ <;> rfl; done) | (rcases h with ⟨_, _, rfl, _⟩ | ⟨_, _, _, _, rfl, _⟩ <;> rfl; done) | (rcases h with ⟨_, _, rfl, _⟩ | ⟨_, _, _, _, _, rfl, _⟩ <;> rfl; done) | (rcases h with ⟨_, _, rfl, _⟩ | ⟨_, _, _, _, _, _, rfl, _⟩ <;> rfl; done) | (rcases h with ⟨_, _, _, rfl, _⟩ | ⟨_, rfl, _⟩ <;> rfl; done) | (rcases h with ⟨_, _, _, rfl, _⟩ | ⟨_, _, rfl, _⟩ <;> rfl; done) | (rcases h with ⟨_, _, _, rfl, _⟩ | ⟨_, _, _, rfl, _⟩ <;> rfl; done) | (rcases h with ⟨_, _, _, rfl, _⟩ | ⟨_, _, _, _, rfl, _⟩ <;> rfl; done) | (rcases h with ⟨_, _, _, rfl, _⟩ | ⟨_, _, _, _, _, rfl, _⟩ <;> rfl; done) | (rcases h with ⟨_, _, _, rfl, _⟩ | ⟨_, _, _, _, _, _, rfl, _⟩ <;> rfl; done) | (rcases h with ⟨_, _, _, _, rfl, _⟩ | ⟨_, rfl, _⟩ <;> rfl; done) | (rcases h with ⟨_, _, _, _, rfl, _⟩ | ⟨_, _, rfl, _⟩ <;> rfl; done) | (rcases h with ⟨_, _, _, _, rfl, _⟩ | ⟨_, _, _, rfl, _⟩ <;> rfl; done) | (rcases h with ⟨_, _, _, _, rfl, _⟩ | ⟨_, _, _, _, rfl, _⟩ <;> rfl; done) | (rcases h with ⟨_, _, _, _, rfl, _⟩ | ⟨_, _, _, _, _, rfl, _⟩ <;> rfl; done) | (rcases h with ⟨_, _, _, _, rfl, _⟩ | ⟨_, _, _, _, _, _, rfl, _⟩ <;> rfl; done) | (rcases h with ⟨_, _, _, _, _, rfl, _⟩ | ⟨_, rfl, _⟩ <;> rfl; done) | (rcases h with ⟨_, _, _, _, _, rfl, _⟩ | ⟨_, _, rfl, _⟩ <;> rfl; done) | (rcases h with ⟨_, _, _, _, _, rfl, _⟩ | ⟨_, _, _, rfl, _⟩ <;> rfl; done) | (rcases h with ⟨_, _, _, _, _, rfl, _⟩ | ⟨_, _, _, _, rfl, _⟩ <;> rfl; done) | (rcases h with ⟨_, _, _, _, _, rfl, _⟩ | ⟨_, _, _, _, _, rfl, _⟩ <;> rfl; done) | (rcases h with ⟨_, _, _, _, _, rfl, _⟩ | ⟨_, _, _, _, _, _, rfl, _⟩ <;> rfl; done) | (rcases h with ⟨_, _, _, _, _, _, rfl, _⟩ | ⟨_, rfl, _⟩ <;> rfl; done) | (rcases h with ⟨_, _, _, _, _, _, rfl, _⟩ | ⟨_, _, rfl, _⟩ <;> rfl; done) | (rcases h with ⟨_, _, _, _, _, _, rfl, _⟩ | ⟨_, _, _, rfl, _⟩ <;> rfl; done) | (rcases h with ⟨_, _, _, _, _, _, rfl, _⟩ | ⟨_, _, _, _, rfl, _⟩ <;> rfl; done) | (rcases h with ⟨_, _, _, _, _, _, rfl, _⟩ | ⟨_, _, _, _, _, rfl, _⟩ <;> rfl; done) | (rcases h with ⟨_, _, _, _, _, _, rfl, _⟩ | ⟨_, _, _, _, _, _, rfl, _⟩ <;> rfl; done) | (rcases h with ⟨_, rfl, _⟩ | ⟨_, _, rfl, _⟩ <;> rfl) | (rcases h with ⟨_, rfl, _⟩ | ⟨_, rfl, _⟩ <;> rfl) | (rcases h with h | h | h <;> (first | (obtain ⟨rfl, _⟩ := h; rfl; done) | (obtain ⟨_, rfl, _⟩ := h; rfl; done) | (obtain ⟨_, _, rfl, _⟩ := h; rfl; done) | (obtain ⟨_, _, _, rfl, _⟩ := h; rfl; done) | (obtain ⟨_, _, _, _, rfl, _⟩ := h; rfl; done) | (obtain ⟨_, _, _, _, _, rfl, _⟩ := h; rfl; done) | (obtain ⟨_, _, _, _, _, _, rfl, _⟩ := h; rfl; done) | (obtain ⟨_, _, _, _, _, _, _, rfl, _⟩ := h; rfl; done) | (obtain ⟨_, _, _, _, _, _, _, _, rfl, _⟩ := h; rfl; done)))) (fun cdv A outer s H vs Q E hr h => ⟨t__law_bag K a, ?_, rd vs H Q E h⟩)
  exact (pss_cons (ps_set (i := 1) nd rfl (by first | exact Or.inl rfl | exact Or.inr rfl) (pe_callTy call_list_of (by rfl) T.n_list (by decide +kernel) (pa_cons (pe_slice sl_list (pv 0) po_none (po_some pe_int)) pa_nil)))
      (pss_cons (ps_set (i := 2) nd rfl (by first | exact Or.inl rfl | exact Or.inr rfl) (pe_op op_add pe_int (pe_callB call_len_seq (by rfl) T.n_len (by decide +kernel) (pa_cons (pv 1) pa_nil))))
      (pss_cons (ps_for PassesOwn.never rfl (pi_list (pv 1)) (pg_name (i := 3) nd rfl (by first | exact Or.inl rfl | exact Or.inr rfl)) (pss_one (ps_set (i := 2) nd rfl (by first | exact Or.inl rfl | exact Or.inr rfl) (pe_op op_mod (pe_op op_add (pe_op op_mul (pv 2) pe_int) (pv 3)) pe_int))))
      (pss_one (ps_ret (pe_lst (pa_cons (pv 1) (pa_cons pe_int (pa_cons pe_int (pa_cons (pv 2) pa_nil))))))))))
theorem ok__law_pull (T : Txt K mg a)
    (rd : RD (sp__law_pull K a) (t__law_pull K a) N__law_pull) :
    FnOk P a.w K mg base CX0 1 a.f__law_pull a.d__law_pull P__law_pull (sp__law_pull K a) := by
  have nd := sc__law_pull.nd
  refine T.F__law_pull.ok sc__law_pull (fun vs H Q E h => by first | (obtain ⟨rfl, _⟩ := h; rfl; done) | (obtain ⟨_, rfl, _⟩ := h; rfl; done) | (obtain ⟨_, _, rfl, _⟩ := h; rfl; done) | (obtain ⟨_, _, _, rfl, _⟩ := h; rfl; done) | (obtain ⟨_, _, _, _, rfl, _⟩ := h; rfl; done) | (obtain ⟨_, _, _, _, _, rfl, _⟩ := h; rfl; done) | (obtain ⟨_, _, _, _, _, _, rfl, _⟩ := h; rfl; done) | (obtain ⟨_, _, _, _, _, _, _, rfl, _⟩ := h; rfl; done) | (obtain ⟨_, _, _, _, _, _, _, _, rfl, _⟩ := h; rfl; done) | (rcases h with ⟨_, rfl, _⟩ | ⟨_, rfl, _⟩ <;> rfl; done) | (rcases h with ⟨_, rfl, _⟩ | ⟨_, _, rfl, _⟩ <;> rfl; done) | (rcases h with ⟨_, rfl, _⟩ | ⟨_, _, _, rfl, _⟩ <;> rfl; done) | (rcases h with ⟨_, rfl, _⟩ | ⟨_, _, _, _, rfl, _⟩ <;> rfl; done) | (rcases h with ⟨_, rfl, _⟩ | ⟨_, _, _, _, _, rfl, _⟩ <;> rfl; done) | (rcases h with ⟨_, rfl, _⟩ | ⟨_, _, _, _, _, _, rfl, _⟩ <;> rfl; done) | (rcases h with ⟨_, _, rfl, _⟩ | ⟨_, rfl, _⟩ <;> rfl; done) | (rcases h with ⟨_, _, rfl, _⟩ | ⟨_, _, rfl, _⟩ <;> rfl; done) | (rcases h with ⟨_, _, rfl, _⟩ | ⟨_, _, _, rfl, _⟩ <;> rfl; done) | (rcases h with ⟨_, _, rfl, _⟩ | ⟨_, _, _, _, rfl, _⟩ <;> rfl; done) | (rcases h with ⟨_, _, rfl, _⟩ | ⟨_, _, _, _, _, rfl, _⟩ <;> rfl; done) | (rcases h with ⟨_, _, rfl, _⟩ | ⟨_, _, _, _, _, _, rfl, _⟩ <;> rfl; done) | (rcases h with ⟨_, _, _, rfl, _⟩ | ⟨_, rfl, _⟩ <;> rfl; done) | (rcases h with ⟨_, _, _, rfl, _⟩ | ⟨_, _, rfl, _⟩ <;> rfl; done) | (rcases h with ⟨_, _, _, rfl, _⟩ | ⟨_, _, _, rfl, _⟩ <;> rfl; done) | (rcases h with ⟨_, _, _, rfl, _⟩ | ⟨_, _, _, _, rfl, _⟩ <;> rfl; done) | (rcases h with ⟨_, _, _, rfl, _⟩ | ⟨_, _, _, _, _, rfl, _⟩ <;> rfl; done) | (rcases h with ⟨_, _, _, rfl, _⟩ | ⟨_, _, _, _, _, _, rfl, _⟩ <;> rfl; done) | (rcases h with ⟨_, _, _, _, rfl, _⟩ | ⟨_, rfl, _⟩ <;> rfl; done) | (rcases h with ⟨_, _, _, _, rfl, _⟩ | ⟨_, _, rfl, _⟩ <;> rfl; done) | (rcases h with ⟨_, _, _, _, rfl, _⟩ | ⟨_, _, _, rfl, _⟩ <;> rfl; done) | (rcases h with ⟨_, _, _, _, rfl, _⟩ | ⟨_, _, _, _, rfl, _⟩ <;> rfl; done) | (rcases h with ⟨_, _, _, _, rfl, _⟩ | ⟨_, _, _, _, _, rfl, _⟩ <;> rfl; done) | (rcases h with ⟨_, _, _, _, rfl, _⟩ | ⟨_, _, _, _, _, _, rfl, _⟩ <;> rfl; done) | (rcases h with ⟨_, _, _, _, _, rfl, _⟩ | ⟨_, rfl, _⟩ <;> rfl; done) | (rcases h with ⟨_, _, _, _, _, rfl, _⟩ | ⟨_, _, rfl, _⟩ <;> rfl; done) | (rcases h with ⟨_, _, _, _, _, rfl, _⟩ | ⟨_, _, _, rfl, _⟩ <;> rfl; done) | (rcases h with ⟨_, _, _, _, _, rfl, _⟩ | ⟨_, _, _, _, rfl, _⟩ <;> rfl; done) | (rcases h with ⟨_, _, _, _, _, rfl, _⟩ | ⟨_, _, _, _, _, rfl, _⟩ <;> rfl; done) | (rcases h with ⟨_, _, _, _, _, rfl, _⟩ | ⟨_, _, _, _, _, _, rfl, _⟩ <;> rfl; done) | (rcases h with ⟨_, _, _, _, _, _, rfl, _⟩ | ⟨_, rfl, _⟩ <;> rfl; done) | (rcases h with ⟨_, _, _, _, _, _, rfl, _⟩ | ⟨_, _, rfl, _⟩ <;> rfl; done) | (rcases h with ⟨_, _, _, _, _, _, rfl, _⟩ | ⟨_, _, _, rfl, _⟩ <;> rfl; done) | (rcases h with ⟨_, _, _, _, _, _, rfl, _⟩ | ⟨_, _, _, _, rfl, _⟩ <;> rfl; done) | (rcases h with ⟨_, _, _, _, _, _, rfl, _⟩ | ⟨_, _, _, _, _, rfl, _⟩ <;> rfl; done) | (rcases h with ⟨_, _, _, _, _, _, rfl, _⟩ | ⟨_, _, _, _, _, _, rfl, _⟩ <;> rfl; done) | (rcases h with ⟨_, rfl, _⟩ | ⟨_, _, rfl, _⟩ <;> rfl) | (rcases h with ⟨_, rfl, _⟩ | ⟨_, rfl, _⟩ <;> rfl) | (rcases h with h | h | h <;> (first | (obtain ⟨rfl, _⟩ := h; rfl; done) | (obtain ⟨_, rfl, _⟩ := h; rfl; done) | (obtain ⟨_, _, rfl, _⟩ := h; rfl; done) | (obtain ⟨_, _, _, rfl, _⟩ := h; rfl; done) | (obtain ⟨_, _, _, _, rfl, _⟩ := h; rfl; done) | (obtain ⟨_, _, _, _, _, rfl, _⟩ := h; rfl; done) | (obtain ⟨_, _, _, _, _, _, rfl, _⟩ := h; rfl; done) | (obtain ⟨_, _, _, _, _, _, _, rfl, _⟩ := h; rfl; done) | (obtain ⟨_, _, _, _, _, _, _, _, rfl, _⟩ := h; rfl; done)))) (fun cdv A outer s H vs Q E hr h => ⟨t__law_pull K a, ?_, rd vs H Q E h⟩)
  exact (pss_cons (ps_if (pt_cmpR op_lt (pe_ix ix_list (pv 0) pe_int (fun _ _ => rfl)) pe_int (nomark _)) (pss_cons (ps_asg (pe_op op_add (pe_ix ix_list (pv 0) pe_int (fun _ _ => rfl)) pe_int) (pg_sub (pv 0) pe_int set_list))
      (pss_cons (ps_set (i := 2) nd rfl (by first | exact Or.inl rfl | exact Or.inr rfl) (pe_op op_add (pe_ix ix_list (pv 0) pe_int (fun _ _ => rfl)) (pe_op op_mul (pe_ix ix_list (pv 0) pe_int (fun _ _ => rfl)) pe_int)))
      (pss_cons (ps_if (pt_cmpR op_le (pe_ix ix_list (pv 0) pe_int (fun _ _ => rfl)) (pe_callB call_len_seq (by rfl) T.n_len (by decide +kernel) (pa_cons (pe_ix ix_list (pv 0) pe_int (fun _ _ => rfl)) pa_nil)) (nomark _)) (pss_one (ps_set (i := 2) nd rfl (by first | exact Or.inl rfl | exact Or.inr rfl) (pe_ix ix_list (pe_ix ix_list (pv 0) pe_int (fun _ _ => rfl)) (pe_op op_sub (pe_ix ix_list (pv 0) pe_int (fun _ _ => rfl)) pe_int) (fun _ _ => rfl)))) pss_nil)
      (pss_cons (ps_if (PW.pt (pw_or (pt_cmpR op_gt (pe_ix ix_list (pv 0) pe_int (fun _ _ => rfl)) (pe_callB call_len_seq (by rfl) T.n_len (by decide +kernel) (pa_cons (pe_ix ix_list (pv 0) pe_int (fun _ _ => rfl)) pa_nil)) (nomark _)) (pw_or1 (pt_cmpR op_lt (pv 2) (pe_op op_pow pe_int pe_int) (nomark _))))) (pss_cons (ps_set (i := 3) nd rfl (by first | exact Or.inl rfl | exact Or.inr rfl) (pe_op op_mod (pe_op op_add (pe_op op_add (pe_op op_mul (pv 2) pe_int) (pe_op op_mul (pe_ix ix_list (pv 0) pe_int (fun _ _ => rfl)) pe_int)) (pe_ix ix_list (pv 0) pe_int (fun _ _ => rfl))) pe_int))
      (pss_cons (ps_set (i := 4) nd rfl (by first | exact Or.inl rfl | exact Or.inr rfl) (pe_op op_mod (pe_op op_add (pe_op op_mul (pv 3) (pv 3)) (pe_ix ix_list (pv 0) pe_int (fun _ _ => rfl))) pe_int))
      (pss_one (ps_ret (pe_op op_mod (pe_op op_fdivW (pe_op op_mod (pe_op op_add (pe_op op_mul (pv 4) pe_int) (pv 3)) pe_int) pe_int) (pv 1)))))) pss_nil)
      (pss_one (ps_asg (pv 2) (pg_sub (pv 0) pe_int set_list))))))) pss_nil)
      (pss_cons (ps_set (i := 5) nd rfl (by first | exact Or.inl rfl | exact Or.inr rfl) (pe_op op_mod (pe_ix ix_list (pv 0) pe_int (fun _ _ => rfl)) (pv 1)))
      (pss_cons (ps_asg (pe_op op_fdivW (pe_ix ix_list (pv 0) pe_int (fun _ _ => rfl)) (pv 1)) (pg_sub (pv 0) pe_int set_list))
      (pss_one (ps_ret (pv 5))))))
theorem ok__law_whole (T : Txt K mg a)
    (rd : RD (sp__law_whole K a) (t__law_whole K a) N__law_whole) :
    FnOk P a.w K mg base CX0 1 a.f__law_whole a.d__law_whole P__law_whole (sp__law_whole K a) := by
  have nd := sc__law_whole.nd
  refine T.F__law_whole.ok sc__law_whole (fun vs H Q E h => by first | (obtain ⟨rfl, _⟩ := h; rfl; done) | (obtain ⟨_, rfl, _⟩ := h; rfl; done) | (obtain ⟨_, _, rfl, _⟩ := h; rfl; done) | (obtain ⟨_, _, _, rfl, _⟩ := h; rfl; done) | (obtain ⟨_, _, _, _, rfl, _⟩ := h; rfl; done) | (obtain ⟨_, _, _, _, _, rfl, _⟩ := h; rfl; done) | (obtain ⟨_, _, _, _, _, _, rfl, _⟩ := h; rfl; done) | (obtain ⟨_, _, _, _, _, _, _, rfl, _⟩ := h; rfl; done) | (obtain ⟨_, _, _, _, _, _, _, _, rfl, _⟩ := h; rfl; done) | (rcases h with ⟨_, rfl, _⟩ | ⟨_, rfl, _⟩ <;> rfl; done) | (rcases h with ⟨_, rfl, _⟩ | ⟨_, _, rfl, _⟩ <;> rfl; done) | (rcases h with ⟨_, rfl, _⟩ | ⟨_, _, _, rfl, _⟩ <;> rfl; done) | (rcases h with ⟨_, rfl, _⟩ | ⟨_, _, _, _, rfl, _⟩ <;> rfl; done) | (rcases h with ⟨_, rfl, _⟩ | ⟨_, _, _, _, _, rfl, _⟩ <;> rfl; done) | (rcases h with ⟨_, rfl, _⟩ | ⟨_, _, _, _, _, _, rfl, _⟩ <;> rfl; done) | (rcases h with ⟨_, _, rfl, _⟩ | ⟨_, rfl, _⟩ <;> rfl; done) | (rcases h with ⟨_, _, rfl, _⟩ | ⟨_, _, rfl, _⟩ <;> rfl; done) | (rcases h with ⟨_, _, rfl, _⟩ | ⟨_, _, _, rfl, _⟩ <;> rfl; done) | (rcases h with ⟨_, _, rfl, _⟩ | ⟨_, _, _, _, rfl, _⟩ <;> rfl; done) | (rcases h with ⟨_, _, rfl, _⟩ | ⟨_, _, _, _, _, rfl, _⟩ <;> rfl; done) | (rcases h with ⟨_, _, rfl, _⟩ | ⟨_, _, _, _, _, _, rfl, _⟩ <;> rfl; done) | (rcases h with ⟨_, _, _, rfl, _⟩ | ⟨_, rfl, _⟩ <;> rfl; done) | (rcases h with ⟨_, _, _, rfl, _⟩ | ⟨_, _, rfl, _⟩ <;> rfl; done) | (rcases h with ⟨_, _, _, rfl, _⟩ | ⟨_, _, _, rfl, _⟩ <;> rfl; done) | (rcases h with ⟨_, _, _, rfl, _⟩ | ⟨_, _, _, _, rfl, _⟩ <;> rfl; done) | (rcases h with ⟨_, _, _, rfl, _⟩ | ⟨_, _, _, _, _, rfl, _⟩ <;> rfl; done) | (rcases h with ⟨_, _, _, rfl, _⟩ | ⟨_, _, _, _, _, _, rfl, _⟩ <;> rfl; done) | (rcases h with ⟨_, _, _, _, rfl, _⟩ | ⟨_, rfl, _⟩ <;> rfl; done) | (rcases h with ⟨_, _, _, _, rfl, _⟩ | ⟨_, _, rfl, _⟩ <;> rfl; done) | (rcases h with ⟨_, _, _, _, rfl, _⟩ | ⟨_, _, _, rfl, _⟩ <;> rfl; done) | (rcases h with ⟨_, _, _, _, rfl, _⟩ | ⟨_, _, _, _, rfl, _⟩ <;> rfl; done) | (rcases h with ⟨_, _, _, _, rfl, _⟩ | ⟨_, _, _, _, _, rfl, _⟩ <;> rfl; done) | (rcases h with ⟨_, _, _, _, rfl, _⟩ | ⟨_, _, _, _, _, _, rfl, _⟩ <;> rfl; done) | (rcases h with ⟨_, _, _, _, _, rfl, _⟩ | ⟨_, rfl, _⟩ <;> rfl; done) | (rcases h with ⟨_, _, _, _, _, rfl, _⟩ | ⟨_, _, rfl, _⟩ <;> rfl; done) | (rcases h with ⟨_, _, _, _, _, rfl, _⟩ | ⟨_, _, _, rfl, _⟩ <;> rfl; done) | (rcases h with ⟨_, _, _, _, _, rfl, _⟩ | ⟨_, _, _, _, rfl, _⟩ <;> rfl; done) | (rcases h with ⟨_, _, _, _, _, rfl, _⟩ | ⟨_, _, _, _, _, rfl, _⟩ <;> rfl; done) | (rcases h with ⟨_, _, _, _, _, rfl, _⟩ | ⟨_, _, _, _, _, _, rfl, _⟩ <;> rfl; done) | (rcases h with ⟨_, _, _, _, _, _, rfl, _⟩ | ⟨_, rfl, _⟩ <;> rfl; done) | (rcases h with ⟨_, _, _, _, _, _, rfl, _⟩ | ⟨_, _, rfl, _⟩ <;> rfl; done) | (rcases h with ⟨_, _, _, _, _, _, rfl, _⟩ | ⟨_, _, _, rfl, _⟩ <;> rfl; done) | (rcases h with ⟨_, _, _, _, _, _, rfl, _⟩ | ⟨_, _, _, _, rfl, _⟩ <;> rfl; done) | (rcases h with ⟨_, _, _, _, _, _, rfl, _⟩ | ⟨_, _, _, _, _, rfl, _⟩ <;> rfl; done) | (rcases h with ⟨_, _, _, _, _, _, rfl, _⟩ | ⟨_, _, _, _, _, _, rfl, _⟩ <;> rfl; done) | (rcases h with ⟨_, rfl, _⟩ | ⟨_, _, rfl, _⟩ <;> rfl) | (rcases h with ⟨_, rfl, _⟩ | ⟨_, rfl, _⟩ <;> rfl) | (rcases h with h | h | h <;> (first | (obtain ⟨rfl, _⟩ := h; rfl; done) | (obtain ⟨_, rfl, _⟩ := h; rfl; done) | (obtain ⟨_, _, rfl, _⟩ := h; rfl; done) | (obtain ⟨_, _, _, rfl, _⟩ := h; rfl; done) | (obtain ⟨_, _, _, _, rfl, _⟩ := h; rfl; done) | (obtain ⟨_, _, _, _, _, rfl, _⟩ := h; rfl; done) | (obtain ⟨_, _, _, _, _, _, rfl, _⟩ := h; rfl; done) | (obtain ⟨_, _, _, _, _, _, _, rfl, _⟩ := h; rfl; done) | (obtain ⟨_, _, _, _, _, _, _, _, rfl, _⟩ := h; rfl; done)))) (fun cdv A outer s H vs Q E hr h => ⟨t__law_whole K a, ?_, rd vs H Q E h⟩)
  exact (pss_one (ps_ret (pe_and (pe_callB call_isi (by rfl) T.n_isinstance (by decide +kernel) (pa_cons (pv 0) (pa_cons (pe_bltn (v := .ty "int") rfl T.n_int (by decide +kernel) rfl) pa_nil))) (pe_one (pe_not (pe_callB call_isi (by rfl) T.n_isinstance (by decide +kernel) (pa_cons (pv 0) (pa_cons (pe_bltn (v := .ty "bool") rfl T.n_bool (by decide +kernel) rfl) pa_nil))))))))
theorem ok__law_same (T : Txt K mg a)
    (G__law_whole : FnOk P a.w K mg base CX0 1 a.f__law_whole a.d__law_whole P__law_whole (sp__law_whole K a)) {spR : Sp} {kR : Nat} (hk : 1 ≤ kR + 1)
    (GR : FnOk P a.w K mg base CX0 (kR + 1) a.f__law_same a.d__law_same P__law_same spR) {spN : Sp} (hN : ∀ vs H Q E, spN vs H Q E → vs.length = P__law_same.length)
    (rd : RD spN (t__law_same K a spR) N__law_same) :
    FnOk P a.w K mg base CX0 (kR + 2) a.f__law_same a.d__law_same P__law_same spN := by
  have nd := sc__law_same.nd
  refine T.F__law_same.ok sc__law_same hN (fun cdv A outer s H vs Q E hr h => ⟨t__law_same K a spR, ?_, rd vs H Q E h⟩)
  exact (pss_cons (ps_if (pt_cmpR op_isN (pv 1) pe_non (nomark _)) (pss_one (ps_ret (pe_cmpR op_isN (pv 0) pe_non (nomark _)))) pss_nil)
      (pss_cons (ps_if (pt_val (pe_callB call_isi (by rfl) T.n_isinstance (by decide +kernel) (pa_cons (pv 1) (pa_cons (pe_bltn (v := .ty "bool") rfl T.n_bool (by decide +kernel) rfl) pa_nil)))) (pss_one (ps_ret (pe_and (pe_callB call_isi (by rfl) T.n_isinstance (by decide +kernel) (pa_cons (pv 0) (pa_cons (pe_bltn (v := .ty "bool") rfl T.n_bool (by decide +kernel) rfl) pa_nil))) (pe_one (pe_cmpR op_eq (pv 0) (pv 1) (nomark _)))))) pss_nil)
      (pss_cons (ps_if (pt_val (pe_callB call_isi (by rfl) T.n_isinstance (by decide +kernel) (pa_cons (pv 1) (pa_cons (pe_bltn (v := .ty "int") rfl T.n_int (by decide +kernel) rfl) pa_nil)))) (pss_one (ps_ret (pe_and (pe_call G__law_whole (hr.mono (Nat.le_trans (by decide) hk)) rfl T.g__law_whole T.F__law_whole.kp T.b__law_whole .nil pass0 (pa_cons (pv 0) pa_nil)) (pe_one (pe_cmpR op_eq (pv 0) (pv 1) (nomark _)))))) pss_nil)
      (pss_cons (ps_if (pt_val (pe_callB call_isi (by rfl) T.n_isinstance (by decide +kernel) (pa_cons (pv 1) (pa_cons (pe_bltn (v := .ty "str") rfl T.n_str (by decide +kernel) rfl) pa_nil)))) (pss_one (ps_ret (pe_and (pe_callB call_isi (by rfl) T.n_isinstance (by decide +kernel) (pa_cons (pv 0) (pa_cons (pe_bltn (v := .ty "str") rfl T.n_str (by decide +kernel) rfl) pa_nil))) (pe_one (pe_cmpR op_eq (pv 0) (pv 1) (nomark _)))))) pss_nil)
      (pss_cons (ps_if (PW.pt (pw_or (pt_cmpR op_ne (pe_callB call_isi (by rfl) T.n_isinstance (by decide +kernel) (pa_cons (pv 1) (pa_cons (pe_bltn (v := .ty "list") rfl T.n_list (by decide +kernel) rfl) pa_nil))) (pe_callB call_isi (by rfl) T.n_isinstance (by decide +kernel) (pa_cons (pv 0) (pa_cons (pe_bltn (v := .ty "list") rfl T.n_list (by decide +kernel) rfl) pa_nil))) (nomark _)) (pw_or1 (pt_cmpR op_ne (pe_callB call_isi (by rfl) T.n_isinstance (by decide +kernel) (pa_cons (pv 1) (pa_cons (pe_bltn (v := .ty "tuple") rfl T.n_tuple (by decide +kernel) rfl) pa_nil))) (pe_callB call_isi (by rfl) T.n_isinstance (by decide +kernel) (pa_cons (pv 0) (pa_cons (pe_bltn (v := .ty "tuple") rfl T.n_tuple (by decide +kernel) rfl) pa_nil))) (nomark _))))) (pss_one (ps_ret pe_bl)) pss_nil)
      (pss_cons (ps_if (pt_cmpR op_ne (pe_callB call_len_seq (by rfl) T.n_len (by decide +kernel) (pa_cons (pv 0) pa_nil)) (pe_callB call_len_seq (by rfl) T.n_len (by decide +kernel) (pa_cons (pv 1) pa_nil)) (nomark _)) (pss_one (ps_ret pe_bl)) pss_nil)
      (pss_one (ps_ret (pe_callB (cr_all rfl) (by rfl) T.n_all (by decide +kernel) (pa_cons (pe_lc (own := [("_law_spot", 2)]) (g := (gName 2)) (tt := tYes) (te := (tCall spR [] E0 (tCons (tOp (rIx K) (tVar 0) (tVar 2)) (tCons (tOp (rIx K) (tVar 1) (tVar 2)) tNil)))) rfl nd (pi_range1 rfl T.n_range (pa_cons (pe_callB call_len_seq (by rfl) T.n_len (by decide +kernel) (pa_cons (pv 1) pa_nil)) pa_nil)) (blkOk_by (N := N__law_same) (sc := defScope s__law_same) (by decide +kernel)) (fun _ _ _ _ _ => (pg_name (i := 2) nd rfl (by first | exact Or.inl rfl | exact Or.inr rfl))) (fun _ _ _ _ _ => pts_nil) (fun _ _ _ _ _ => (pe_call GR hr rfl T.g__law_same T.F__law_same.kp T.b__law_same .nil pass0 (pa_cons (pe_ix ix_seq (pv 0) (pv 2) (fun _ _ => rfl)) (pa_cons (pe_ix ix_seq (pv 1) (pv 2) (fun _ _ => rfl)) pa_nil))))) pa_nil))))))))))
theorem ok__law_one (T : Txt K mg a)
    (G__law_pull : FnOk P a.w K mg base CX0 1 a.f__law_pull a.d__law_pull P__law_pull (sp__law_pull K a))
    (rd : RD (sp__law_one K a) (t__law_one K a) N__law_one) :
    FnOk P a.w K mg base CX0 2 a.f__law_one a.d__law_one P__law_one (sp__law_one K a) := by
  have nd := sc__law_one.nd
  refine T.F__law_one.ok sc__law_one (fun vs H Q E h => by first | (obtain ⟨rfl, _⟩ := h; rfl; done) | (obtain ⟨_, rfl, _⟩ := h; rfl; done) | (obtain ⟨_, _, rfl, _⟩ := h; rfl; done) | (obtain ⟨_, _, _, rfl, _⟩ := h; rfl; done) | (obtain ⟨_, _, _, _, rfl, _⟩ := h; rfl; done) | (obtain ⟨_, _, _, _, _, rfl, _⟩ := h; rfl; done) | (obtain ⟨_, _, _, _, _, _, rfl, _⟩ := h; rfl; done) | (obtain ⟨_, _, _, _, _, _, _, rfl, _⟩ := h; rfl; done) | (obtain ⟨_, _, _, _, _, _, _, _, rfl, _⟩ := h; rfl; done) | (rcases h with ⟨_, rfl, _⟩ | ⟨_, rfl, _⟩ <;> rfl; done) | (rcases h with ⟨_, rfl, _⟩ | ⟨_, _, rfl, _⟩ <;> rfl; done) | (rcases h with ⟨_, rfl, _⟩ | ⟨_, _, _, rfl, _⟩ <;> rfl; done) | (rcases h with ⟨_, rfl, _⟩ | ⟨_, _, _, _, rfl, _⟩ <;> rfl; done) | (rcases h with ⟨_, rfl, _⟩ | ⟨_, _, _, _, _, rfl, _⟩ <;> rfl; done) | (rcases h with ⟨_, rfl, _⟩ | ⟨_, _, _, _, _, _, rfl, _⟩ <;> rfl; done) | (rcases h with ⟨_, _, rfl, _⟩ | ⟨_, rfl, _⟩ <;> rfl; done) | (rcases h with ⟨_, _, rfl, _⟩ | ⟨_, _, rfl, _⟩ <;> rfl; done) | (rcases h with ⟨_, _, rfl, _⟩ | ⟨_, _, _, rfl, _⟩ <;> rfl; done) | (rcases h with ⟨_, _, rfl, _⟩ | ⟨_, _, _, _, rfl, _⟩ <;> rfl; done) | (rcases h with ⟨_, _, rfl, _⟩ | ⟨_, _, _, _, _, rfl, _⟩ <;> rfl; done) | (rcases h with ⟨_, _, rfl, _⟩ | ⟨_, _, _, _, _, _, rfl, _⟩ <;> rfl; done) | (rcases h with ⟨_, _, _, rfl, _⟩ | ⟨_, rfl, _⟩ <;> rfl; done) | (rcases h with ⟨_, _, _, rfl, _⟩ | ⟨_, _, rfl, _⟩ <;> rfl; done) | (rcases h with ⟨_, _, _, rfl, _⟩ | ⟨_, _, _, rfl, _⟩ <;> rfl; done) | (rcases h with ⟨_, _, _, rfl, _⟩ | ⟨_, _, _, _, rfl, _⟩ <;> rfl; done) | (rcases h with ⟨_, _, _, rfl, _⟩ | ⟨_, _, _, _, _, rfl, _⟩ <;> rfl; done) | (rcases h with ⟨_, _, _, rfl, _⟩ | ⟨_, _, _, _, _, _, rfl, _⟩ <;> rfl; done) | (rcases h with ⟨_, _, _, _, rfl, _⟩ | ⟨_, rfl, _⟩ <;> rfl; done) | (rcases h with ⟨_, _, _, _, rfl, _⟩ | ⟨_, _, rfl, _⟩ <;> rfl; done) | (rcases h with ⟨_, _, _, _, rfl, _⟩ | ⟨_, _, _, rfl, _⟩ <;> rfl; done) | (rcases h with ⟨_, _, _, _, rfl, _⟩ | ⟨_, _, _, _, rfl, _⟩ <;> rfl; done) | (rcases h with ⟨_, _, _, _, rfl, _⟩ | ⟨_, _, _, _, _, rfl, _⟩ <;> rfl; done) | (rcases h with ⟨_, _, _, _, rfl, _⟩ | ⟨_, _, _, _, _, _, rfl, _⟩ <;> rfl; done) | (rcases h with ⟨_, _, _, _, _, rfl, _⟩ | ⟨_, rfl, _⟩ <;> rfl; done) | (rcases h with ⟨_, _, _, _, _, rfl, _⟩ | ⟨_, _, rfl, _⟩ <;> rfl; done) | (rcases h with ⟨_, _, _, _, _, rfl, _⟩ | ⟨_, _, _, rfl, _⟩ <;> rfl; done) | (rcases h with ⟨_, _, _, _, _, rfl, _⟩ | ⟨_, _, _, _, rfl, _⟩ <;> rfl; done) | (rcases h with ⟨_, _, _, _, _, rfl, _⟩ | ⟨_, _, _, _, _, rfl, _⟩ <;> rfl; done) | (rcases h with ⟨_, _, _, _, _, rfl, _⟩ | ⟨_, _, _, _, _, _, rfl, _⟩ <;> rfl; done) | (rcases h with ⟨_, _, _, _, _, _, rfl, _⟩ | ⟨_, rfl, _⟩ <;> rfl; done) | (rcases h with ⟨_, _, _, _, _, _, rfl, _⟩ | ⟨_, _, rfl, _⟩ <;> rfl; done) | (rcases h with ⟨_, _, _, _, _, _, rfl, _⟩ | ⟨_, _, _, rfl, _⟩ <;> rfl; done) | (rcases h with ⟨_, _, _, _, _, _, rfl, _⟩ | ⟨_, _, _, _, rfl, _⟩ <;> rfl; done) | (rcases h with ⟨_, _, _, _, _, _, rfl, _⟩ | ⟨_, _, _, _, _, rfl, _⟩ <;> rfl; done) | (rcases h with ⟨_, _, _, _, _, _, rfl, _⟩ | ⟨_, _, _, _, _, _, rfl, _⟩ <;> rfl; done) | (rcases h with ⟨_, rfl, _⟩ | ⟨_, _, rfl, _⟩ <;> rfl) | (rcases h with ⟨_, rfl, _⟩ | ⟨_, rfl, _⟩ <;> rfl) | (rcases h with h | h | h <;> (first | (obtain ⟨rfl, _⟩ := h; rfl; done) | (obtain ⟨_, rfl, _⟩ := h; rfl; done) | (obtain ⟨_, _, rfl, _⟩ := h; rfl; done) | (obtain ⟨_, _, _, rfl, _⟩ := h; rfl; done) | (obtain ⟨_, _, _, _, rfl, _⟩ := h; rfl; done) | (obtain ⟨_, _, _, _, _, rfl, _⟩ := h; rfl; done) | (obtain ⟨_, _, _, _, _, _, rfl, _⟩ := h; rfl; done) | (obtain ⟨_, _, _, _, _, _, _, rfl, _⟩ := h; rfl; done) | (obtain ⟨_, _, _, _, _, _, _, _, rfl, _⟩ := h; rfl; done)))) (fun cdv A outer s H vs Q E hr h => ⟨t__law_one K a, ?_, rd vs H Q E h⟩)
  exact (pss_one (ps_ret (pe_ix ix_list (pv 1) (pe_call G__law_pull (hr.mono (by decide)) rfl T.g__law_pull T.F__law_pull.kp T.b__law_pull .nil pass0 (pa_cons (pv 0) (pa_cons (pe_callB call_len_seq (by rfl) T.n_len (by decide +kernel) (pa_cons (pv 1) pa_nil)) pa_nil))) (fun _ _ => rfl))))
theorem ok__law_forms (T : Txt K mg a)
    (rd : RD (sp__law_forms K a) (t__law_forms K a) N__law_forms) :
    FnOk P a.w K mg base CX0 1 a.f__law_forms a.d__law_forms P__law_forms (sp__law_forms K a) := by
  have nd := sc__law_forms.nd
  refine T.F__law_forms.ok sc__law_forms (fun vs H Q E h => by first | (obtain ⟨rfl, _⟩ := h; rfl; done) | (obtain ⟨_, rfl, _⟩ := h; rfl; done) | (obtain ⟨_, _, rfl, _⟩ := h; rfl; done) | (obtain ⟨_, _, _, rfl, _⟩ := h; rfl; done) | (obtain ⟨_, _, _, _, rfl, _⟩ := h; rfl; done) | (obtain ⟨_, _, _, _, _, rfl, _⟩ := h; rfl; done) | (obtain ⟨_, _, _, _, _, _, rfl, _⟩ := h; rfl; done) | (obtain ⟨_, _, _, _, _, _, _, rfl, _⟩ := h; rfl; done) | (obtain ⟨_, _, _, _, _, _, _, _, rfl, _⟩ := h; rfl; done) | (rcases h with ⟨_, rfl, _⟩ | ⟨_, rfl, _⟩ <;> rfl; done) | (rcases h with ⟨_, rfl, _⟩ | ⟨_, _, rfl, _⟩ <;> rfl; done) | (rcases h with ⟨_, rfl, _⟩ | ⟨_, _, _, rfl, _⟩ <;> rfl; done) | (rcases h with ⟨_, rfl, _⟩ | ⟨_, _, _, _, rfl, _⟩ <;> rfl; done) | (rcases h with ⟨_, rfl, _⟩ | ⟨_, _, _, _, _, rfl, _⟩ <;> rfl; done) | (rcases h with ⟨_, rfl, _⟩ | ⟨_, _, _, _, _, _, rfl, _⟩ <;> rfl; done) | (rcases h with ⟨_, _, rfl, _⟩ | ⟨_, rfl, _⟩ <;> rfl; done) | (rcases h with ⟨_, _, rfl, _⟩ | ⟨_, _, rfl, _⟩ <;> rfl; done) | (rcases h with ⟨_, _, rfl, _⟩ | ⟨_, _, _, rfl, _⟩ <;> rfl; done) | (rcases h with ⟨_, _, rfl, _⟩ | ⟨_, _, _, _, rfl, _⟩ <;> rfl; done) | (rcases h with ⟨_, _, rfl, _⟩ | ⟨_, _, _, _, _, rfl, _⟩ <;> rfl; done) | (rcases h with ⟨_, _, rfl, _⟩ | ⟨_, _, _, _, _, _, rfl, _⟩ <;> rfl; done) | (rcases h with ⟨_, _, _, rfl, _⟩ | ⟨_, rfl, _⟩ <;> rfl; done) | (rcases h with ⟨_, _, _, rfl, _⟩ | ⟨_, _, rfl, _⟩ <;> rfl; done) | (rcases h with ⟨_, _, _, rfl, _⟩ | ⟨_, _, _, rfl, _⟩ <;> rfl; done) | (rcases h with ⟨_, _, _, rfl, _⟩ | ⟨_, _, _, _, rfl, _⟩ <;> rfl; done) | (rcases h with ⟨_, _, _, rfl, _⟩ | ⟨_, _, _, _, _, rfl, _⟩ <;> rfl; done) | (rcases h with ⟨_, _, _, rfl, _⟩ | ⟨_, _, _, _, _, _, rfl, _⟩ <;> rfl; done) | (rcases h with ⟨_, _, _, _, rfl, _⟩ | ⟨_, rfl, _⟩ <;> rfl; done) | (rcases h with ⟨_, _, _, _, rfl, _⟩ | ⟨_, _, rfl, _⟩ <;> rfl; done) | (rcases h with ⟨_, _, _, _, rfl, _⟩ | ⟨_, _, _, rfl, _⟩ <;> rfl; done) | (rcases h with ⟨_, _, _, _, rfl, _⟩ | ⟨_, _, _, _, rfl, _⟩ <;> rfl; done) | (rcases h with ⟨_, _, _, _, rfl, _⟩ | ⟨_, _, _, _, _, rfl, _⟩ <;> rfl; done) | (rcases h with ⟨_, _, _, _, rfl, _⟩ | ⟨_, _, _, _, _, _, rfl, _⟩ <;> rfl; done) | (rcases h with ⟨_, _, _, _, _, rfl, _⟩ | ⟨_, rfl, _⟩ <;> rfl; done) | (rcases h with ⟨_, _, _, _, _, rfl, _⟩ | ⟨_, _, rfl, _⟩ <;> rfl; done) | (rcases h with ⟨_, _, _, _, _, rfl, _⟩ | ⟨_, _, _, rfl, _⟩ <;> rfl; done) | (rcases h with ⟨_, _, _, _, _, rfl, _⟩ | ⟨_, _, _, _, rfl, _⟩ <;> rfl; done) | (rcases h with ⟨_, _, _, _, _, rfl, _⟩ | ⟨_, _, _, _, _, rfl, _⟩ <;> rfl; done) | (rcases h with ⟨_, _, _, _, _, rfl, _⟩ | ⟨_, _, _, _, _, _, rfl, _⟩ <;> rfl; done) | (rcases h with ⟨_, _, _, _, _, _, rfl, _⟩ | ⟨_, rfl, _⟩ <;> rfl; done) | (rcases h with ⟨_, _, _, _, _, _, rfl, _⟩ | ⟨_, _, rfl, _⟩ <;> rfl; done) | (rcases h with ⟨_, _, _, _, _, _, rfl, _⟩ | ⟨_, _, _, rfl, _⟩ <;> rfl; done) | (rcases h with ⟨_, _, _, _, _, _, rfl, _⟩ | ⟨_, _, _, _, rfl, _⟩ <;> rfl; done) | (rcases h with ⟨_, _, _, _, _, _, rfl, _⟩ | ⟨_, _, _, _, _, rfl, _⟩ <;> rfl; done) | (rcases h with ⟨_, _, _, _, _, _, rfl, _⟩ | ⟨_, _, _, _, _, _, rfl, _⟩ <;> rfl; done) | (rcases h with ⟨_, rfl, _⟩ | ⟨_, _, rfl, _⟩ <;> rfl) | (rcases h with ⟨_, rfl, _⟩ | ⟨_, rfl, _⟩ <;> rfl) | (rcases h with h | h | h <;> (first | (obtain ⟨rfl, _⟩ := h; rfl; done) | (obtain ⟨_, rfl, _⟩ := h; rfl; done) | (obtain ⟨_, _, rfl, _⟩ := h; rfl; done) | (obtain ⟨_, _, _, rfl, _⟩ := h; rfl; done) | (obtain ⟨_, _, _, _, rfl, _⟩ := h; rfl; done) | (obtain ⟨_, _, _, _, _, rfl, _⟩ := h; rfl; done) | (obtain ⟨_, _, _, _, _, _, rfl, _⟩ := h; rfl; done) | (obtain ⟨_, _, _, _, _, _, _, rfl, _⟩ := h; rfl; done) | (obtain ⟨_, _, _, _, _, _, _, _, rfl, _⟩ := h; rfl; done)))) (fun cdv A outer s H vs Q E hr h => ⟨t__law_forms K a, ?_, rd vs H Q E h⟩)
  exact (pss_cons (ps_set (i := 0) nd rfl (by first | exact Or.inl rfl | exact Or.inr rfl) (pe_lst (pa_cons (pe_tup (pa_cons pe_str (pa_cons pe_int (pa_cons (pe_tup (pa_cons pe_int (pa_cons pe_int (pa_cons pe_int (pa_cons pe_int (pa_cons pe_int (pa_cons pe_int (pa_cons pe_int (pa_cons pe_int pa_nil))))))))) (pa_cons pe_int pa_nil))))) (pa_cons (pe_tup (pa_cons pe_str (pa_cons pe_int (pa_cons (pe_tup (pa_cons pe_int (pa_cons pe_int (pa_cons pe_int (pa_cons pe_int (pa_cons pe_int (pa_cons pe_int (pa_cons pe_int (pa_cons pe_int pa_nil))))))))) (pa_cons pe_int pa_nil))))) pa_nil))))
      (pss_cons (ps_set (i := 0) nd rfl (by first | exact Or.inl rfl | exact Or.inr rfl) (pe_op op_cat (pv 0) (pe_lst (pa_cons (pe_tup (pa_cons pe_str (pa_cons pe_int (pa_cons (pe_tup (pa_cons pe_int (pa_cons pe_int (pa_cons pe_int (pa_cons pe_int (pa_cons pe_int (pa_cons pe_int (pa_cons pe_int (pa_cons pe_int pa_nil))))))))) (pa_cons pe_int pa_nil))))) (pa_cons (pe_tup (pa_cons pe_str (pa_cons pe_int (pa_cons (pe_tup (pa_cons pe_int (pa_cons pe_int (pa_cons pe_int (pa_cons pe_int (pa_cons pe_int (pa_cons pe_int (pa_cons pe_int (pa_cons pe_int pa_nil))))))))) (pa_cons pe_int pa_nil))))) pa_nil)))))
      (pss_cons (ps_set (i := 0) nd rfl (by first | exact Or.inl rfl | exact Or.inr rfl) (pe_op op_cat (pv 0) (pe_lst (pa_cons (pe_tup (pa_cons pe_str (pa_cons pe_int (pa_cons (pe_tup (pa_cons pe_int (pa_cons pe_int (pa_cons pe_int (pa_cons pe_int (pa_cons pe_int (pa_cons pe_int (pa_cons pe_int (pa_cons pe_int pa_nil))))))))) (pa_cons pe_int pa_nil))))) (pa_cons (pe_tup (pa_cons pe_str (pa_cons pe_int (pa_cons (pe_tup (pa_cons pe_int (pa_cons pe_int (pa_cons pe_int (pa_cons pe_int (pa_cons pe_int (pa_cons pe_int (pa_cons pe_int (pa_cons pe_int pa_nil))))))))) (pa_cons pe_int pa_nil))))) pa_nil)))))
      (pss_one (ps_ret (pe_op op_cat (pv 0) (pe_lst (pa_cons (pe_tup (pa_cons pe_str (pa_cons pe_int (pa_cons (pe_tup (pa_cons pe_int (pa_cons pe_int (pa_cons pe_int (pa_cons pe_int (pa_cons pe_int (pa_cons pe_int (pa_cons pe_int (pa_cons pe_int pa_nil))))))))) (pa_cons pe_int pa_nil))))) (pa_cons (pe_tup (pa_cons pe_str (pa_cons pe_int (pa_cons (pe_tup (pa_cons pe_int (pa_cons pe_int (pa_cons pe_int (pa_cons pe_int (pa_cons pe_int (pa_cons pe_int (pa_cons pe_int (pa_cons pe_int pa_nil))))))))) (pa_cons pe_int pa_nil))))) pa_nil)))))))))
theorem ok__law_row (T : Txt K mg a)
    (G__law_forms : FnOk P a.w K mg base CX0 1 a.f__law_forms a.d__law_forms P__law_forms (sp__law_forms K a))
    (rd : RD (sp__law_row K a) (t__law_row K a) N__law_row) :
    FnOk P a.w K mg base CX0 2 a.f__law_row a.d__law_row P__law_row (sp__law_row K a) := by
  have nd := sc__law_row.nd
  refine T.F__law_row.ok sc__law_row (fun vs H Q E h => by first | (obtain ⟨rfl, _⟩ := h; rfl; done) | (obtain ⟨_, rfl, _⟩ := h; rfl; done) | (obtain ⟨_, _, rfl, _⟩ := h; rfl; done) | (obtain ⟨_, _, _, rfl, _⟩ := h; rfl; done) | (obtain ⟨_, _, _, _, rfl, _⟩ := h; rfl; done) | (obtain ⟨_, _, _, _, _, rfl, _⟩ := h; rfl; done) | (obtain ⟨_, _, _, _, _, _, rfl, _⟩ := h; rfl; done) | (obtain ⟨_, _, _, _, _, _, _, rfl, _⟩ := h; rfl; done) | (obtain ⟨_, _, _, _, _, _, _, _, rfl, _⟩ := h; rfl; done) | (rcases h with ⟨_, rfl, _⟩ | ⟨_, rfl, _⟩ <;> rfl; done) | (rcases h with ⟨_, rfl, _⟩ | ⟨_, _, rfl, _⟩ <;> rfl; done) | (rcases h with ⟨_, rfl, _⟩ | ⟨_, _, _, rfl, _⟩ <;> rfl; done) | (rcases h with ⟨_, rfl, _⟩ | ⟨_, _, _, _, rfl, _⟩ <;> rfl; done) | (rcases h with ⟨_, rfl, _⟩ | ⟨_, _, _, _, _, rfl, _⟩ <;> rfl; done) | (rcases h with ⟨_, rfl, _⟩ | ⟨_, _, _, _, _, _, rfl, _⟩ <;> rfl; done) | (rcases h with ⟨_, _, rfl, _⟩ | ⟨_, rfl, _⟩ <;> rfl; done) | (rcases h with ⟨_, _, rfl, _⟩ | ⟨_, _, rfl, _⟩ <;> rfl; done) | (rcases h with ⟨_, _, rfl, _⟩ | ⟨_, _, _, rfl, _⟩ <;> rfl; done) | (rcases h with ⟨_, _, rfl, _⟩ | ⟨_, _, _, _, rfl, _⟩ <;> rfl; done) | (rcases h with ⟨_, _, rfl, _⟩ | ⟨_, _, _, _, _, rfl, _⟩ <;> rfl; done) | (rcases h with ⟨_, _, rfl, _⟩ | ⟨_, _, _, _, _, _, rfl, _⟩ <;> rfl; done) | (rcases h with ⟨_, _, _, rfl, _⟩ | ⟨_, rfl, _⟩ <;> rfl; done) | (rcases h with ⟨_, _, _, rfl, _⟩ | ⟨_, _, rfl, _⟩ <;> rfl; done) | (rcases h with ⟨_, _, _, rfl, _⟩ | ⟨_, _, _, rfl, _⟩ <;> rfl; done) | (rcases h with ⟨_, _, _, rfl, _⟩ | ⟨_, _, _, _, rfl, _⟩ <;> rfl; done) | (rcases h with ⟨_, _, _, rfl, _⟩ | ⟨_, _, _, _, _, rfl, _⟩ <;> rfl; done) | (rcases h with ⟨_, _, _, rfl, _⟩ | ⟨_, _, _, _, _, _, rfl, _⟩ <;> rfl; done) | (rcases h with ⟨_, _, _, _, rfl, _⟩ | ⟨_, rfl, _⟩ <;> rfl; done) | (rcases h with ⟨_, _, _, _, rfl, _⟩ | ⟨_, _, rfl, _⟩ <;> rfl; done) | (rcases h with ⟨_, _, _, _, rfl, _⟩ | ⟨_, _, _, rfl, _⟩ <;> rfl; done) | (rcases h with ⟨_, _, _, _, rfl, _⟩ | ⟨_, _, _, _, rfl, _⟩ <;> rfl; done) | (rcases h with ⟨_, _, _, _, rfl, _⟩ | ⟨_, _, _, _, _, rfl, _⟩ <;> rfl; done) | (rcases h with ⟨_, _, _, _, rfl, _⟩ | ⟨_, _, _, _, _, _, rfl, _⟩ <;> rfl; done) | (rcases h with ⟨_, _, _, _, _, rfl, _⟩ | ⟨_, rfl, _⟩ <;> rfl; done) | (rcases h with ⟨_, _, _, _, _, rfl, _⟩ | ⟨_, _, rfl, _⟩ <;> rfl; done) | (rcases h with ⟨_, _, _, _, _, rfl, _⟩ | ⟨_, _, _, rfl, _⟩ <;> rfl; done) | (rcases h with ⟨_, _, _, _, _, rfl, _⟩ | ⟨_, _, _, _, rfl, _⟩ <;> rfl; done) | (rcases h with ⟨_, _, _, _, _, rfl, _⟩ | ⟨_, _, _, _, _, rfl, _⟩ <;> rfl; done) | (rcases h with ⟨_, _, _, _, _, rfl, _⟩ | ⟨_, _, _, _, _, _, rfl, _⟩ <;> rfl; done) | (rcases h with ⟨_, _, _, _, _, _, rfl, _⟩ | ⟨_, rfl, _⟩ <;> rfl; done) | (rcases h with ⟨_, _, _, _, _, _, rfl, _⟩ | ⟨_, _, rfl, _⟩ <;> rfl; done) | (rcases h with ⟨_, _, _, _, _, _, rfl, _⟩ | ⟨_, _, _, rfl, _⟩ <;> rfl; done) | (rcases h with ⟨_, _, _, _, _, _, rfl, _⟩ | ⟨_, _, _, _, rfl, _⟩ <;> rfl; done) | (rcases h with ⟨_, _, _, _, _, _, rfl, _⟩ | ⟨_, _, _, _, _, rfl, _⟩ <;> rfl; done) | (rcases h with ⟨_, _, _, _, _, _, rfl, _⟩ | ⟨_, _, _, _, _, _, rfl, _⟩ <;> rfl; done) | (rcases h with ⟨_, rfl, _⟩ | ⟨_, _, rfl, _⟩ <;> rfl) | (rcases h with ⟨_, rfl, _⟩ | ⟨_, rfl, _⟩ <;> rfl) | (rcases h with h | h | h <;> (first | (obtain ⟨rfl, _⟩ := h; rfl; done) | (obtain ⟨_, rfl, _⟩ := h; rfl; done) | (obtain ⟨_, _, rfl, _⟩ := h; rfl; done) | (obtain ⟨_, _, _, rfl, _⟩ := h; rfl; done) | (obtain ⟨_, _, _, _, rfl, _⟩ := h; rfl; done) | (obtain ⟨_, _, _, _, _, rfl, _⟩ := h; rfl; done) | (obtain ⟨_, _, _, _, _, _, rfl, _⟩ := h; rfl; done) | (obtain ⟨_, _, _, _, _, _, _, rfl, _⟩ := h; rfl; done) | (obtain ⟨_, _, _, _, _, _, _, _, rfl, _⟩ := h; rfl; done)))) (fun cdv A outer s H vs Q E hr h => ⟨t__law_row K a, ?_, rd vs H Q E h⟩)
  exact (pss_cons (ps_for PassesOwn.never rfl (pi_list (pe_call0 G__law_forms (hr.mono (by decide)) rfl T.g__law_forms T.F__law_forms.kp T.b__law_forms .nil pass0)) (pg_tup rfl (pgs_cons (pg_name (i := 1) nd rfl (by first | exact Or.inl rfl | exact Or.inr rfl)) (pgs_cons (pg_name (i := 2) nd rfl (by first | exact Or.inl rfl | exact Or.inr rfl)) (pgs_cons (pg_name (i := 3) nd rfl (by first | exact Or.inl rfl | exact Or.inr rfl)) (pgs_cons (pg_name (i := 4) nd rfl (by first | exact Or.inl rfl | exact Or.inr rfl)) pgs_nil))))) (pss_one (ps_if (PW.pt (pw_and (pt_cmpR op_eq (pv 1) (pe_ix ix_tup (pv 0) pe_int (fun _ _ => rfl)) (nomark _)) (pw_and1 (pt_cmpR op_eq (pe_callB call_len_seq (by rfl) T.n_len (by decide +kernel) (pa_cons (pv 0) pa_nil)) (pe_op op_add pe_int (pe_callTy call_int1 (by rfl) T.n_int (by decide +kernel) (pa_cons (pe_cmpR op_gt (pv 4) pe_int (nomark _)) pa_nil))) (nomark _))))) (pss_cons (ps_if (pt_cmpR op_eq (pv 4) pe_int (nomark _)) (pss_one (ps_ret (pv 3))) pss_nil)
      (pss_one (ps_if (pt_chain op_le op_le pe_int (pe_ix ix_tup (pv 0) pe_int (fun _ _ => rfl)) (pv 2)) (pss_one (ps_ret (pe_op op_catA (pe_op op_catA (pe_slice sl_tupA (pv 3) po_none (po_some (pv 4))) (pe_tup (pa_cons (pe_ix ix_tup (pv 0) pe_int (fun _ _ => rfl)) pa_nil))) (pe_slice sl_tupA (pv 3) (po_some (pe_op op_add (pv 4) pe_int)) po_none)))) pss_nil))) pss_nil)))
      (pss_one (ps_ret pe_str)))
theorem ok__law_read (T : Txt K mg a)
    (G__law_forms : FnOk P a.w K mg base CX0 1 a.f__law_forms a.d__law_forms P__law_forms (sp__law_forms K a))
    (G__law_row : FnOk P a.w K mg base CX0 2 a.f__law_row a.d__law_row P__law_row (sp__law_row K a))
    (rd : RD (sp__law_read K a) (t__law_read K a) N__law_read) :
    FnOk P a.w K mg base CX0 3 a.f__law_read a.d__law_read P__law_read (sp__law_read K a) := by
  have nd := sc__law_read.nd
  refine T.F__law_read.ok sc__law_read (fun vs H Q E h => by first | (obtain ⟨rfl, _⟩ := h; rfl; done) | (obtain ⟨_, rfl, _⟩ := h; rfl; done) | (obtain ⟨_, _, rfl, _⟩ := h; rfl; done) | (obtain ⟨_, _, _, rfl, _⟩ := h; rfl; done) | (obtain ⟨_, _, _, _, rfl, _⟩ := h; rfl; done) | (obtain ⟨_, _, _, _, _, rfl, _⟩ := h; rfl; done) | (obtain ⟨_, _, _, _, _, _, rfl, _⟩ := h; rfl; done) | (obtain ⟨_, _, _, _, _, _, _, rfl, _⟩ := h; rfl; done) | (obtain ⟨_, _, _, _, _, _, _, _, rfl, _⟩ := h; rfl; done) | (rcases h with ⟨_, rfl, _⟩ | ⟨_, rfl, _⟩ <;> rfl; done) | (rcases h with ⟨_, rfl, _⟩ | ⟨_, _, rfl, _⟩ <;> rfl; done) | (rcases h with ⟨_, rfl, _⟩ | ⟨_, _, _, rfl, _⟩ <;> rfl; done) | (rcases h with ⟨_, rfl, _⟩ | ⟨_, _, _, _, rfl, _⟩ <;> rfl; done) | (rcases h with ⟨_, rfl, _⟩ | ⟨_, _, _, _, _, rfl, _⟩ <;> rfl; done) | (rcases h with ⟨_, rfl, _⟩ | ⟨_, _, _, _, _, _, rfl, _⟩ <;> rfl; done) | (rcases h with ⟨_, _, rfl, _⟩ | ⟨_, rfl, _⟩ <;> rfl; done) | (rcases h with ⟨_, _, rfl, _⟩ | ⟨_, _, rfl, _⟩ <;> rfl; done) | (rcases h with ⟨_, _, rfl, _⟩ | ⟨_, _, _, rfl, _⟩ <;> rfl; done) | (rcases h with ⟨_, _, rfl, _⟩ | ⟨_, _, _, _, rfl, _⟩ <;> rfl; done) | (rcases h with ⟨_, _, rfl, _⟩ | ⟨_, _, _, _, _, rfl, _⟩ <;> rfl; done) | (rcases h with ⟨_, _, rfl, _⟩ | ⟨_, _, _, _, _, _, rfl, _⟩ <;> rfl; done) | (rcases h with ⟨_, _, _, rfl, _⟩ | ⟨_, rfl, _⟩ <;> rfl; done) | (rcases h with ⟨_, _, _, rfl, _⟩ | ⟨_, _, rfl, _⟩ <;> rfl; done) | (rcases h with ⟨_, _, _, rfl, _⟩ | ⟨_, _, _, rfl, _⟩ <;> rfl; done) | (rcases h with ⟨_, _, _, rfl, _⟩ | ⟨_, _, _, _, rfl, _⟩ <;> rfl; done) | (rcases h with ⟨_, _, _, rfl, _⟩ | ⟨_, _, _, _, _, rfl, _⟩ <;> rfl; done) | (rcases h with ⟨_, _, _, rfl, _⟩ | ⟨_, _, _, _, _, _, rfl, _⟩ <;> rfl; done) | (rcases h with ⟨_, _, _, _, rfl, _⟩ | ⟨_, rfl, _⟩ <;> rfl; done) | (rcases h with ⟨_, _, _, _, rfl, _⟩ | ⟨_, _, rfl, _⟩ <;> rfl; done) | (rcases h with ⟨_, _, _, _, rfl, _⟩ | ⟨_, _, _, rfl, _⟩ <;> rfl; done) | (rcases h with ⟨_, _, _, _, rfl, _⟩ | ⟨_, _, _, _, rfl, _⟩ <;> rfl; done) | (rcases h with ⟨_, _, _, _, rfl, _⟩ | ⟨_, _, _, _, _, rfl, _⟩ <;> rfl; done) | (rcases h with ⟨_, _, _, _, rfl, _⟩ | ⟨_, _, _, _, _, _, rfl, _⟩ <;> rfl; done) | (rcases h with ⟨_, _, _, _, _, rfl, _⟩ | ⟨_, rfl, _⟩ <;> rfl; done) | (rcases h with ⟨_, _, _, _, _, rfl, _⟩ | ⟨_, _, rfl, _⟩ <;> rfl; done) | (rcases h with ⟨_, _, _, _, _, rfl, _⟩ | ⟨_, _, _, rfl, _⟩ <;> rfl; done) | (rcases h with ⟨_, _, _, _, _, rfl, _⟩ | ⟨_, _, _, _, rfl, _⟩ <;> rfl; done) | (rcases h with ⟨_, _, _, _, _, rfl, _⟩ | ⟨_, _, _, _, _, rfl, _⟩ <;> rfl; done) | (rcases h with ⟨_, _, _, _, _, rfl, _⟩ | ⟨_, _, _, _, _, _, rfl, _⟩ <;> rfl; done) | (rcases h with ⟨_, _, _, _, _, _, rfl, _⟩ | ⟨_, rfl, _⟩ <;> rfl; done) | (rcases h with ⟨_, _, _, _, _, _, rfl, _⟩ | ⟨_, _, rfl, _⟩ <;> rfl; done) | (rcases h with ⟨_, _, _, _, _, _, rfl, _⟩ | ⟨_, _, _, rfl, _⟩ <;> rfl; done) | (rcases h with ⟨_, _, _, _, _, _, rfl, _⟩ | ⟨_, _, _, _, rfl, _⟩ <;> rfl; done) | (rcases h with ⟨_, _, _, _, _, _, rfl, _⟩ | ⟨_, _, _, _, _, rfl, _⟩ <;> rfl; done) | (rcases h with ⟨_, _, _, _, _, _, rfl, _⟩ | ⟨_, _, _, _, _, _, rfl, _⟩ <;> rfl; done) | (rcases h with ⟨_, rfl, _⟩ | ⟨_, _, rfl, _⟩ <;> rfl) | (rcases h with ⟨_, rfl, _⟩ | ⟨_, rfl, _⟩ <;> rfl) | (rcases h with h | h | h <;> (first | (obtain ⟨rfl, _⟩ := h; rfl; done) | (obtain ⟨_, rfl, _⟩ := h; rfl; done) | (obtain ⟨_, _, rfl, _⟩ := h; rfl; done) | (obtain ⟨_, _, _, rfl, _⟩ := h; rfl; done) | (obtain ⟨_, _, _, _, rfl, _⟩ := h; rfl; done) | (obtain ⟨_, _, _, _, _, rfl, _⟩ := h; rfl; done) | (obtain ⟨_, _, _, _, _, _, rfl, _⟩ := h; rfl; done) | (obtain ⟨_, _, _, _, _, _, _, rfl, _⟩ := h; rfl; done) | (obtain ⟨_, _, _, _, _, _, _, _, rfl, _⟩ := h; rfl; done)))) (fun cdv A outer s H vs Q E hr h => ⟨t__law_read K a, ?_, rd vs H Q E h⟩)
  exact (pss_cons (ps_if (pt_cmpR op_eq (pe_callB call_len_seq (by rfl) T.n_len (by decide +kernel) (pa_cons (pv 0) pa_nil)) pe_int (nomark _)) (pss_one (ps_for PassesOwn.never rfl (pi_list (pe_call0 G__law_forms (hr.mono (by decide)) rfl T.g__law_forms T.F__law_forms.kp T.b__law_forms .nil pass0)) (pg_tup rfl (pgs_cons (pg_name (i := 1) nd rfl (by first | exact Or.inl rfl | exact Or.inr rfl)) (pgs_cons (pg_name (i := 2) nd rfl (by first | exact Or.inl rfl | exact Or.inr rfl)) (pgs_cons (pg_name (i := 3) nd rfl (by first | exact Or.inl rfl | exact Or.inr rfl)) (pgs_cons (pg_name (i := 4) nd rfl (by first | exact Or.inl rfl | exact Or.inr rfl)) pgs_nil))))) (pss_cons (ps_set (i := 5) nd rfl (by first | exact Or.inl rfl | exact Or.inr rfl) (pe_ifExp (pt_cmpR op_eq (pv 4) pe_int (nomark _)) (pe_tup (pa_cons (pv 1) pa_nil)) (pe_tup (pa_cons (pv 1) (pa_cons (pe_ix ix_tup (pv 0) (pv 4) (fun _ _ => rfl)) pa_nil)))))
      (pss_one (ps_if (pt_cmpR (op_eqD hr.units) (pe_call G__law_row (hr.mono (by decide)) rfl T.g__law_row T.F__law_row.kp T.b__law_row .nil pass0 (pa_cons (pv 5) pa_nil)) (pv 0) (nomark _)) (pss_one (ps_ret (pv 5))) pss_nil))))) pss_nil)
      (pss_one (ps_ret pe_str)))
theorem ok__law_said (T : Txt K mg a)
    (G_asks : FnOk P a.w K mg base (L2.CX P a.w) 4 a.f_asks a.d_asks P_asks (sp_asks K a))
    (G_read_request : FnOk P a.w K mg base (L2.CX P a.w) 5 a.f_read_request a.d_read_request P_read_request (sp_read_request K a))
    (G_request_bytes : FnOk P a.w K mg base (L2.CX P a.w) 4 a.f_request_bytes a.d_request_bytes P_request_bytes (sp_request_bytes K a))
    (rd : RD (sp__law_said K a) (t__law_said K a) N__law_said) :
    FnOk P a.w K mg base CX0 6 a.f__law_said a.d__law_said P__law_said (sp__law_said K a) := by
  have nd := sc__law_said.nd
  refine T.F__law_said.ok sc__law_said (fun vs H Q E h => by first | (obtain ⟨rfl, _⟩ := h; rfl; done) | (obtain ⟨_, rfl, _⟩ := h; rfl; done) | (obtain ⟨_, _, rfl, _⟩ := h; rfl; done) | (obtain ⟨_, _, _, rfl, _⟩ := h; rfl; done) | (obtain ⟨_, _, _, _, rfl, _⟩ := h; rfl; done) | (obtain ⟨_, _, _, _, _, rfl, _⟩ := h; rfl; done) | (obtain ⟨_, _, _, _, _, _, rfl, _⟩ := h; rfl; done) | (obtain ⟨_, _, _, _, _, _, _, rfl, _⟩ := h; rfl; done) | (obtain ⟨_, _, _, _, _, _, _, _, rfl, _⟩ := h; rfl; done) | (rcases h with ⟨_, rfl, _⟩ | ⟨_, rfl, _⟩ <;> rfl; done) | (rcases h with ⟨_, rfl, _⟩ | ⟨_, _, rfl, _⟩ <;> rfl; done) | (rcases h with ⟨_, rfl, _⟩ | ⟨_, _, _, rfl, _⟩ <;> rfl; done) | (rcases h with ⟨_, rfl, _⟩ | ⟨_, _, _, _, rfl, _⟩ <;> rfl; done) | (rcases h with ⟨_, rfl, _⟩ | ⟨_, _, _, _, _, rfl, _⟩ <;> rfl; done) | (rcases h with ⟨_, rfl, _⟩ | ⟨_, _, _, _, _, _, rfl, _⟩ <;> rfl; done) | (rcases h with ⟨_, _, rfl, _⟩ | ⟨_, rfl, _⟩ <;> rfl; done) | (rcases h with ⟨_, _, rfl, _⟩ | ⟨_, _, rfl, _⟩ <;> rfl; done) | (rcases h with ⟨_, _, rfl, _⟩ | ⟨_, _, _, rfl, _⟩ <;> rfl; done) | (rcases h with ⟨_, _, rfl, _⟩ | ⟨_, _, _, _, rfl, _⟩ <;> rfl; done) | (rcases h with ⟨_, _, rfl, _⟩ | ⟨_, _, _, _, _, rfl, _⟩ <;> rfl; done) | (rcases h with ⟨_, _, rfl, _⟩ | ⟨_, _, _, _, _, _, rfl, _⟩ <;> rfl; done) | (rcases h with ⟨_, _, _, rfl, _⟩ | ⟨_, rfl, _⟩ <;> rfl; done) | (rcases h with ⟨_, _, _, rfl, _⟩ | ⟨_, _, rfl, _⟩ <;> rfl; done) | (rcases h with ⟨_, _, _, rfl, _⟩ | ⟨_, _, _, rfl, _⟩ <;> rfl; done) | (rcases h with ⟨_, _, _, rfl, _⟩ | ⟨_, _, _, _, rfl, _⟩ <;> rfl; done) | (rcases h with ⟨_, _, _, rfl, _⟩ | ⟨_, _, _, _, _, rfl, _⟩ <;> rfl; done) | (rcases h with ⟨_, _, _, rfl, _⟩ | ⟨_, _, _, _, _, _, rfl, _⟩ <;> rfl; done) | (rcases h with ⟨_, _, _, _, rfl, _⟩ | ⟨_, rfl, _⟩ <;> rfl; done) | (rcases h with ⟨_, _, _, _, rfl, _⟩ | ⟨_, _, rfl, _⟩ <;> rfl; done) | (rcases h with ⟨_, _, _, _, rfl, _⟩ | ⟨_, _, _, rfl, _⟩ <;> rfl; done) | (rcases h with ⟨_, _, _, _, rfl, _⟩ | ⟨_, _, _, _, rfl, _⟩ <;> rfl; done) | (rcases h with ⟨_, _, _, _, rfl, _⟩ | ⟨_, _, _, _, _, rfl, _⟩ <;> rfl; done) | (rcases h with ⟨_, _, _, _, rfl, _⟩ | ⟨_, _, _, _, _, _, rfl, _⟩ <;> rfl; done) | (rcases h with ⟨_, _, _, _, _, rfl, _⟩ | ⟨_, rfl, _⟩ <;> rfl; done) | (rcases h with ⟨_, _, _, _, _, rfl, _⟩ | ⟨_, _, rfl, _⟩ <;> rfl; done) | (rcases h with ⟨_, _, _, _, _, rfl, _⟩ | ⟨_, _, _, rfl, _⟩ <;> rfl; done) | (rcases h with ⟨_, _, _, _, _, rfl, _⟩ | ⟨_, _, _, _, rfl, _⟩ <;> rfl; done) | (rcases h with ⟨_, _, _, _, _, rfl, _⟩ | ⟨_, _, _, _, _, rfl, _⟩ <;> rfl; done) | (rcases h with ⟨_, _, _, _, _, rfl, _⟩ | ⟨_, _, _, _, _, _, rfl, _⟩ <;> rfl; done) | (rcases h with ⟨_, _, _, _, _, _, rfl, _⟩ | ⟨_, rfl, _⟩ <;> rfl; done) | (rcases h with ⟨_, _, _, _, _, _, rfl, _⟩ | ⟨_, _, rfl, _⟩ <;> rfl; done) | (rcases h with ⟨_, _, _, _, _, _, rfl, _⟩ | ⟨_, _, _, rfl, _⟩ <;> rfl; done) | (rcases h with ⟨_, _, _, _, _, _, rfl, _⟩ | ⟨_, _, _, _, rfl, _⟩ <;> rfl; done) | (rcases h with ⟨_, _, _, _, _, _, rfl, _⟩ | ⟨_, _, _, _, _, rfl, _⟩ <;> rfl; done) | (rcases h with ⟨_, _, _, _, _, _, rfl, _⟩ | ⟨_, _, _, _, _, _, rfl, _⟩ <;> rfl; done) | (rcases h with ⟨_, rfl, _⟩ | ⟨_, _, rfl, _⟩ <;> rfl) | (rcases h with ⟨_, rfl, _⟩ | ⟨_, rfl, _⟩ <;> rfl) | (rcases h with h | h | h <;> (first | (obtain ⟨rfl, _⟩ := h; rfl; done) | (obtain ⟨_, rfl, _⟩ := h; rfl; done) | (obtain ⟨_, _, rfl, _⟩ := h; rfl; done) | (obtain ⟨_, _, _, rfl, _⟩ := h; rfl; done) | (obtain ⟨_, _, _, _, rfl, _⟩ := h; rfl; done) | (obtain ⟨_, _, _, _, _, rfl, _⟩ := h; rfl; done) | (obtain ⟨_, _, _, _, _, _, rfl, _⟩ := h; rfl; done) | (obtain ⟨_, _, _, _, _, _, _, rfl, _⟩ := h; rfl; done) | (obtain ⟨_, _, _, _, _, _, _, _, rfl, _⟩ := h; rfl; done)))) (fun cdv A outer s H vs Q E hr h => ⟨t__law_said K a, ?_, rd vs H Q E h⟩)
  exact (pss_cons (ps_set (i := 2) nd rfl (by first | exact Or.inl rfl | exact Or.inr rfl) pe_non)
      (pss_cons (ps_try_as (i := 3) (tb := (fun W => (tIfS (tTest (tOp rEq (tVar 0) (tC (.int 0)))) (tAsg (tCallS (sp_request_bytes K a) (WE W) (tCons (tVar 1) tNil)) (gName 2)) (tAsg (tIf (tTest (tOp rEq (tVar 0) (tC (.int 1)))) (tCallS (sp_read_request K a) (WE W) (tCons (tVar 1) tNil)) (tCallS (sp_asks K a) (WE W) (tCons (tVar 1) tNil))) (gName 2))))) (ts := (fun ae cls d => (tAsg (tIf (tB (tCB (rIsE2 K a.c_BadRequest ae cls d) (tCons (tVar 3) (tCons (tC (.ref a.c_BadRequest)) tNil)))) (tC (.str ("bad" : Str))) (tC (.str ("other" : Str)))) (gName 2)))) (Wout := fun _ _ _ _ => False) rfl rfl nd rfl rfl ⟨rfl, by decide, .inl T.gC_BusError⟩ takes0 (fun W pn xe tk _ => (pss_one (ps_if (pt_cmpR op_eq (pv 0) pe_int (nomark _)) (pss_one (ps_set (i := 2) nd rfl (by first | exact Or.inl rfl | exact Or.inr rfl) (pe_callS G_request_bytes (hr.mono (by decide)) rfl T.g_request_bytes T.F_request_bytes.kp T.b_request_bytes (fun σ => passAt tk σ) (pa_cons (pv 1) pa_nil)))) (pss_one (ps_set (i := 2) nd rfl (by first | exact Or.inl rfl | exact Or.inr rfl) (pe_ifExp (pt_cmpR op_eq (pv 0) pe_int (nomark _)) (pe_callS G_read_request (hr.mono (by decide)) rfl T.g_read_request T.F_read_request.kp T.b_read_request (fun σ => passAt tk σ) (pa_cons (pv 1) pa_nil)) (pe_callS G_asks (hr.mono (by decide)) rfl T.g_asks T.F_asks.kp T.b_asks (fun σ => passAt tk σ) (pa_cons (pv 1) pa_nil)))))))) (fun ae oe cls d pn hz hf => (pss_one (ps_set (i := 2) nd rfl (by first | exact Or.inl rfl | exact Or.inr rfl) (pe_ifExp (pt_val (pe_callB (call_isE2 T.e_BadRequest hz hf) (by rfl) T.n_isinstance (by decide +kernel) (pa_cons (pv 3) (pa_cons (pe_glob (v := .ref a.c_BadRequest) rfl T.gC_BadRequest rfl) pa_nil)))) pe_str pe_str)))))
      (pss_one (ps_ret (pv 2)))))
theorem ok_law (T : Txt K mg a)
    (G__law_bag : FnOk P a.w K mg base CX0 1 a.f__law_bag a.d__law_bag P__law_bag (sp__law_bag K a))
    (G__law_forms : FnOk P a.w K mg base CX0 1 a.f__law_forms a.d__law_forms P__law_forms (sp__law_forms K a))
    (G__law_one : FnOk P a.w K mg base CX0 2 a.f__law_one a.d__law_one P__law_one (sp__law_one K a))
    (G__law_pull : FnOk P a.w K mg base CX0 1 a.f__law_pull a.d__law_pull P__law_pull (sp__law_pull K a))
    (G__law_read : FnOk P a.w K mg base CX0 3 a.f__law_read a.d__law_read P__law_read (sp__law_read K a))
    (G__law_row : FnOk P a.w K mg base CX0 2 a.f__law_row a.d__law_row P__law_row (sp__law_row K a))
    (G__law_said : FnOk P a.w K mg base CX0 6 a.f__law_said a.d__law_said P__law_said (sp__law_said K a))
    (G__law_same : FnOk P a.w K mg base CX0 6 a.f__law_same a.d__law_same P__law_same (sp__law_same K a))
    (rd : RD (sp_law K a) (t_law K a) N_law) :
    FnOk P a.w K mg base CX0 7 a.f_law a.d_law P_law (sp_law K a) := by
  have nd := sc_law.nd
  refine T.F_law.ok sc_law (fun vs H Q E h => by first | (obtain ⟨rfl, _⟩ := h; rfl; done) | (obtain ⟨_, rfl, _⟩ := h; rfl; done) | (obtain ⟨_, _, rfl, _⟩ := h; rfl; done) | (obtain ⟨_, _, _, rfl, _⟩ := h; rfl; done) | (obtain ⟨_, _, _, _, rfl, _⟩ := h; rfl; done) | (obtain ⟨_, _, _, _, _, rfl, _⟩ := h; rfl; done) | (obtain ⟨_, _, _, _, _, _, rfl, _⟩ := h; rfl; done) | (obtain ⟨_, _, _, _, _, _, _, rfl, _⟩ := h; rfl; done) | (obtain ⟨_, _, _, _, _, _, _, _, rfl, _⟩ := h; rfl; done) | (rcases h with ⟨_, rfl, _⟩ | ⟨_, rfl, _⟩ <;> rfl; done) | (rcases h with ⟨_, rfl, _⟩ | ⟨_, _, rfl, _⟩ <;> rfl; done) | (rcases h with ⟨_, rfl, _⟩ | ⟨_, _, _, rfl, _⟩ <;> rfl; done) | (rcases h with ⟨_, rfl, _⟩ | ⟨_, _, _, _, rfl, _⟩ <;> rfl; done) | (rcases h with ⟨_, rfl, _⟩ | ⟨_, _, _, _, _, rfl, _⟩ <;> rfl; done) | (rcases h with ⟨_, rfl, _⟩ | ⟨_, _, _, _, _, _, rfl, _⟩ <;> rfl; done) | (rcases h with ⟨_, _, rfl, _⟩ | ⟨_, rfl, _⟩ <;> rfl; done) | (rcases h with ⟨_, _, rfl, _⟩ | ⟨_, _, rfl, _⟩ <;> rfl; done) | (rcases h with ⟨_, _, rfl, _⟩ | ⟨_, _, _, rfl, _⟩ <;> rfl; done) | (rcases h with ⟨_, _, rfl, _⟩ | ⟨_, _, _, _, rfl, _⟩ <;> rfl; done) | (rcases h with ⟨_, _, rfl, _⟩ | ⟨_, _, _, _, _, rfl, _⟩ <;> rfl; done) | (rcases h with ⟨_, _, rfl, _⟩ | ⟨_, _, _, _, _, _, rfl, _⟩ <;> rfl; done) | (rcases h with ⟨_, _, _, rfl, _⟩ | ⟨_, rfl, _⟩ <;> rfl; done) | (rcases h with ⟨_, _, _, rfl, _⟩ | ⟨_, _, rfl, _⟩ <;> rfl; done) | (rcases h with ⟨_, _, _, rfl, _⟩ | ⟨_, _, _, rfl, _⟩ <;> rfl; done) | (rcases h with ⟨_, _, _, rfl, _⟩ | ⟨_, _, _, _, rfl, _⟩ <;> rfl; done) | (rcases h with ⟨_, _, _, rfl, _⟩ | ⟨_, _, _, _, _, rfl, _⟩ <;> rfl; done) | (rcases h with ⟨_, _, _, rfl, _⟩ | ⟨_, _, _, _, _, _, rfl, _⟩ <;> rfl; done) | (rcases h with ⟨_, _, _, _, rfl, _⟩ | ⟨_, rfl, _⟩ <;> rfl; done) | (rcases h with ⟨_, _, _, _, rfl, _⟩ | ⟨_, _, rfl, _⟩ <;> rfl; done) | (rcases h with ⟨_, _, _, _, rfl, _⟩ | ⟨_, _, _, rfl, _⟩ <;> rfl; done) | (rcases h with ⟨_, _, _, _, rfl, _⟩ | ⟨_, _, _, _, rfl, _⟩ <;> rfl; done) | (rcases h with ⟨_, _, _, _, rfl, _⟩ | ⟨_, _, _, _, _, rfl, _⟩ <;> rfl; done) | (rcases h with ⟨_, _, _, _, rfl, _⟩ | ⟨_, _, _, _, _, _, rfl, _⟩ <;> rfl; done) | (rcases h with ⟨_, _, _, _, _, rfl, _⟩ | ⟨_, rfl, _⟩ <;> rfl; done) | (rcases h with ⟨_, _, _, _, _, rfl, _⟩ | ⟨_, _, rfl, _⟩ <;> rfl; done) | (rcases h with ⟨_, _, _, _, _, rfl, _⟩ | ⟨_, _, _, rfl, _⟩ <;> rfl; done) | (rcases h with ⟨_, _, _, _, _, rfl, _⟩ | ⟨_, _, _, _, rfl, _⟩ <;> rfl; done) | (rcases h with ⟨_, _, _, _, _, rfl, _⟩ | ⟨_, _, _, _, _, rfl, _⟩ <;> rfl; done) | (rcases h with ⟨_, _, _, _, _, rfl, _⟩ | ⟨_, _, _, _, _, _, rfl, _⟩ <;> rfl; done) | (rcases h with ⟨_, _, _, _, _, _, rfl, _⟩ | ⟨_, rfl, _⟩ <;> rfl; done) | (rcases h with ⟨_, _, _, _, _, _, rfl, _⟩ | ⟨_, _, rfl, _⟩ <;> rfl; done) | (rcases h with ⟨_, _, _, _, _, _, rfl, _⟩ | ⟨_, _, _, rfl, _⟩ <;> rfl; done) | (rcases h with ⟨_, _, _, _, _, _, rfl, _⟩ | ⟨_, _, _, _, rfl, _⟩ <;> rfl; done) | (rcases h with ⟨_, _, _, _, _, _, rfl, _⟩ | ⟨_, _, _, _, _, rfl, _⟩ <;> rfl; done) | (rcases h with ⟨_, _, _, _, _, _, rfl, _⟩ | ⟨_, _, _, _, _, _, rfl, _⟩ <;> rfl; done) | (rcases h with ⟨_, rfl, _⟩ | ⟨_, _, rfl, _⟩ <;> rfl) | (rcases h with ⟨_, rfl, _⟩ | ⟨_, rfl, _⟩ <;> rfl) | (rcases h with h | h | h <;> (first | (obtain ⟨rfl, _⟩ := h; rfl; done) | (obtain ⟨_, rfl, _⟩ := h; rfl; done) | (obtain ⟨_, _, rfl, _⟩ := h; rfl; done) | (obtain ⟨_, _, _, rfl, _⟩ := h; rfl; done) | (obtain ⟨_, _, _, _, rfl, _⟩ := h; rfl; done) | (obtain ⟨_, _, _, _, _, rfl, _⟩ := h; rfl; done) | (obtain ⟨_, _, _, _, _, _, rfl, _⟩ := h; rfl; done) | (obtain ⟨_, _, _, _, _, _, _, rfl, _⟩ := h; rfl; done) | (obtain ⟨_, _, _, _, _, _, _, _, rfl, _⟩ := h; rfl; done)))) (fun cdv A outer s H vs Q E hr h => ⟨t_law K a, ?_, rd vs H Q E h⟩)
  exact (pss_cons (ps_set (i := 1) nd rfl (by first | exact Or.inl rfl | exact Or.inr rfl) (pe_call G__law_bag (hr.mono (by decide)) rfl T.g__law_bag T.F__law_bag.kp T.b__law_bag .nil pass0 (pa_cons (pv 0) pa_nil)))
      (pss_cons (ps_for PassesOwn.never rfl (pi_range1 rfl T.n_range (pa_cons pe_int pa_nil)) (pg_name (i := 2) nd rfl (by first | exact Or.inl rfl | exact Or.inr rfl)) (pss_cons (ps_asg (pe_call G__law_one (hr.mono (by decide)) rfl T.g__law_one T.F__law_one.kp T.b__law_one .nil pass0 (pa_cons (pv 1) (pa_cons (pe_call0 G__law_forms (hr.mono (by decide)) rfl T.g__law_forms T.F__law_forms.kp T.b__law_forms .nil pass0) pa_nil))) (pg_tup rfl (pgs_cons (pg_name (i := 3) nd rfl (by first | exact Or.inl rfl | exact Or.inr rfl)) (pgs_cons (pg_name (i := 4) nd rfl (by first | exact Or.inl rfl | exact Or.inr rfl)) (pgs_cons (pg_name (i := 5) nd rfl (by first | exact Or.inl rfl | exact Or.inr rfl)) (pgs_cons (pg_name (i := 6) nd rfl (by first | exact Or.inl rfl | exact Or.inr rfl)) pgs_nil))))))
      (pss_cons (ps_set (i := 7) nd rfl (by first | exact Or.inl rfl | exact Or.inr rfl) (pe_ix ix_list (pe_lst (pa_cons (pe_call G__law_pull (hr.mono (by decide)) rfl T.g__law_pull T.F__law_pull.kp T.b__law_pull .nil pass0 (pa_cons (pv 1) (pa_cons (pe_op op_add (pv 4) pe_int) pa_nil))) (pa_cons (pv 4) (pa_cons pe_int (pa_cons (pe_op op_add (pv 4) pe_int) (pa_cons (pe_op op_sub pe_int pe_int) (pa_cons (pe_op op_pow pe_int pe_int) pa_nil))))))) (pe_call G__law_pull (hr.mono (by decide)) rfl T.g__law_pull T.F__law_pull.kp T.b__law_pull .nil pass0 (pa_cons (pv 1) (pa_cons pe_int pa_nil))) (fun _ _ => rfl)))
      (pss_cons (ps_set (i := 8) nd rfl (by first | exact Or.inl rfl | exact Or.inr rfl) (pe_ix ix_list (pe_lst (pa_cons (pe_tup (pa_cons (pv 3) pa_nil)) (pa_cons (pe_tup (pa_cons (pv 3) (pa_cons (pv 7) pa_nil))) (pa_cons (pe_tup (pa_cons (pv 3) (pa_cons (pv 7) pa_nil))) (pa_cons (pe_tup (pa_cons (pv 3) (pa_cons (pv 7) (pa_cons pe_int pa_nil)))) (pa_cons (pe_tup (pa_cons pe_str (pa_cons (pv 7) pa_nil))) pa_nil)))))) (pe_call G__law_pull (hr.mono (by decide)) rfl T.g__law_pull T.F__law_pull.kp T.b__law_pull .nil pass0 (pa_cons (pv 1) (pa_cons pe_int pa_nil))) (fun _ _ => rfl)))
      (pss_cons (ps_set (i := 9) nd rfl (by first | exact Or.inl rfl | exact Or.inr rfl) (pe_call G__law_row (hr.mono (by decide)) rfl T.g__law_row T.F__law_row.kp T.b__law_row .nil pass0 (pa_cons (pv 8) pa_nil)))
      (pss_cons (ps_set (i := 10) nd rfl (by first | exact Or.inl rfl | exact Or.inr rfl) (pe_ifExp (pt_cmpR (op_eqD hr.units) (pv 9) pe_str (nomark _)) pe_str (pe_cmpR op_in_seq (pv 3) (pe_tup (pa_cons pe_str (pa_cons pe_str (pa_cons pe_str pa_nil)))) (by rfl))))
      (pss_cons (ps_if (pt_not (pt_val (pe_call G__law_same (hr.mono (by decide)) rfl T.g__law_same T.F__law_same.kp T.b__law_same .nil pass0 (pa_cons (pe_lst (pa_cons (pe_call G__law_said (hr.mono (by decide)) rfl T.g__law_said T.F__law_said.kp T.b__law_said .nil pass0 (pa_cons pe_int (pa_cons (pv 8) pa_nil))) (pa_cons (pe_call G__law_said (hr.mono (by decide)) rfl T.g__law_said T.F__law_said.kp T.b__law_said .nil pass0 (pa_cons pe_int (pa_cons (pv 8) pa_nil))) pa_nil))) (pa_cons (pe_lst (pa_cons (pv 9) (pa_cons (pv 10) pa_nil))) pa_nil))))) (pss_one (ps_ret pe_bl)) pss_nil)
      (pss_cons (ps_set (i := 11) nd rfl (by first | exact Or.inl rfl | exact Or.inr rfl) (pe_call G__law_pull (hr.mono (by decide)) rfl T.g__law_pull T.F__law_pull.kp T.b__law_pull .nil pass0 (pa_cons (pv 1) (pa_cons pe_int pa_nil))))
      (pss_cons (ps_set (i := 12) nd rfl (by first | exact Or.inl rfl | exact Or.inr rfl) (pe_ix ix_list (pe_lst (pa_cons (pe_call G__law_pull (hr.mono (by decide)) rfl T.g__law_pull T.F__law_pull.kp T.b__law_pull .nil pass0 (pa_cons (pv 1) (pa_cons pe_int pa_nil))) (pa_cons (pe_call G__law_pull (hr.mono (by decide)) rfl T.g__law_pull T.F__law_pull.kp T.b__law_pull .nil pass0 (pa_cons (pv 1) (pa_cons pe_int pa_nil))) pa_nil))) (pe_call G__law_pull (hr.mono (by decide)) rfl T.g__law_pull T.F__law_pull.kp T.b__law_pull .nil pass0 (pa_cons (pv 1) (pa_cons pe_int pa_nil))) (fun _ _ => rfl)))
      (pss_cons (ps_set (i := 13) nd rfl (by first | exact Or.inl rfl | exact Or.inr rfl) (pe_ix ix_list (pe_lst (pa_cons (pv 5) (pa_cons (pe_op op_catA (pe_op op_catA (pe_slice sl_tupA (pv 5) po_none (po_some (pv 11))) (pe_tup (pa_cons (pv 12) pa_nil))) (pe_slice sl_tupA (pv 5) (po_some (pe_op op_add (pv 11) pe_int)) po_none)) (pa_cons (pe_slice sl_tupA (pv 5) po_none (po_some (pv 11))) (pa_cons (pe_op op_catA (pv 5) (pe_tup (pa_cons pe_int pa_nil))) pa_nil))))) (pe_call G__law_pull (hr.mono (by decide)) rfl T.g__law_pull T.F__law_pull.kp T.b__law_pull .nil pass0 (pa_cons (pv 1) (pa_cons pe_int pa_nil))) (fun _ _ => rfl)))
      (pss_one (ps_if (pt_not (pt_val (pe_call G__law_same (hr.mono (by decide)) rfl T.g__law_same T.F__law_same.kp T.b__law_same .nil pass0 (pa_cons (pe_call G__law_said (hr.mono (by decide)) rfl T.g__law_said T.F__law_said.kp T.b__law_said .nil pass0 (pa_cons pe_int (pa_cons (pv 13) pa_nil))) (pa_cons (pe_call G__law_read (hr.mono (by decide)) rfl T.g__law_read T.F__law_read.kp T.b__law_read .nil pass0 (pa_cons (pv 13) pa_nil)) pa_nil))))) (pss_one (ps_ret pe_bl)) pss_nil))))))))))))
      (pss_one (ps_ret pe_bl))))
theorem same_ok (T : Txt K mg a) : ∀ n, FnOk P a.w K mg base CX0 (n + 2) a.f__law_same a.d__law_same P__law_same (sp_same n K)
  | 0 => ok__law_same (kR := 0) T (ok__law_whole T rd__law_whole) (by decide) (spR := fun _ _ _ _ => False) (T.F__law_same.ok sc__law_same (fun _ _ _ _ h => h.elim) (fun _ _ _ _ _ _ _ _ _ h => h.elim)) (fun vs H Q E h => by obtain ⟨_, _, _, rfl, _⟩ := h; rfl) (rd__law_same 0 _ fun k h => nomatch h)
  | n + 1 => ok__law_same (kR := n + 1) T (ok__law_whole T rd__law_whole) (by omega) (same_ok T n) (fun vs H Q E h => by obtain ⟨_, _, _, rfl, _⟩ := h; rfl) (rd__law_same (n + 1) _ fun k h => by cases h; rfl)
theorem law_ok (T : Txt K mg a) : FnOk P a.w K mg base CX0 7 a.f_law a.d_law P_law (sp_law K a) := by
  have o_is_number := ok_is_number (P := P) (base := base) T  rd_is_number
  have o_is_request := ok_is_request (P := P) (base := base) T o_is_number (rd_is_request T)
  have o_need_request := ok_need_request (P := P) (base := base) T o_is_request rd_need_request
  have o_request_bytes := ok_request_bytes (P := P) (base := base) T o_need_request (rd_request_bytes T)
  have o_likely_request := ok_likely_request (P := P) (base := base) T  (rd_likely_request T)
  have o_read_request := ok_read_request (P := P) (base := base) T o_is_request o_likely_request o_request_bytes (rd_read_request T)
  have o_asks := ok_asks (P := P) (base := base) T o_need_request (rd_asks T)
  have o__law_bag := ok__law_bag (P := P) (base := base) T  rd__law_bag
  have o__law_pull := ok__law_pull (P := P) (base := base) T  rd__law_pull
  have o__law_whole := ok__law_whole (P := P) (base := base) T  rd__law_whole
  have o__law_one := ok__law_one (P := P) (base := base) T o__law_pull rd__law_one
  have o__law_forms := ok__law_forms (P := P) (base := base) T  rd__law_forms
  have o__law_row := ok__law_row (P := P) (base := base) T o__law_forms rd__law_row
  have o__law_read := ok__law_read (P := P) (base := base) T o__law_forms o__law_row rd__law_read
  have o__law_said := ok__law_said (P := P) (base := base) T o_asks o_read_request o_request_bytes (rd__law_said T)
  exact ok_law (P := P) (base := base) T o__law_bag o__law_forms o__law_one o__law_pull o__law_read o__law_row o__law_said (same_ok T 4) rd_law
end
theorem all_mk {l : PySem.W.OpenLaw} {w : World} {K : PySem.W.Frag} {h : Heap} {mg : Str → Option Value} {fa : Addr} (X : K.In h) (G : h.Ns mainGlobals mg) (hfa : mg "law" = some (.ref fa))
    {f0 : Addr} {od0 an0 : Option Addr} {sl0 : Array (Option Value)} {oc0 kV0 dc0 pm0 cd0 ct0 : Value}
    (a0 : PySem.W.nsIn K mainGlobals "is_number" = some (some (.ref f0)))
    (l0 : K.lookup f0 = some ⟨oc0, od0, .func (PySem.W.fnOf "is_number" "is_number" (defArgs s_is_number) (defBody s_is_number) (defScope s_is_number) .none kV0 dc0 pm0 an0 cd0 ct0), sl0⟩)
    (c0 : PySem.W.codeIn K cd0 "is_number" = true)
    (k0 : PySem.W.keepIn K (.ref f0) = true)
    {f1 : Addr} {od1 an1 : Option Addr} {sl1 : Array (Option Value)} {oc1 kV1 dc1 pm1 cd1 ct1 : Value}
    (a1 : PySem.W.nsIn K mainGlobals "is_request" = some (some (.ref f1)))
    (l1 : K.lookup f1 = some ⟨oc1, od1, .func (PySem.W.fnOf "is_request" "is_request" (defArgs s_is_request) (defBody s_is_request) (defScope s_is_request) .none kV1 dc1 pm1 an1 cd1 ct1), sl1⟩)
    (c1 : PySem.W.codeIn K cd1 "is_request" = true)
    (k1 : PySem.W.keepIn K (.ref f1) = true)
    {f2 : Addr} {od2 an2 : Option Addr} {sl2 : Array (Option Value)} {oc2 kV2 dc2 pm2 cd2 ct2 : Value}
    (a2 : PySem.W.nsIn K mainGlobals "need_request" = some (some (.ref f2)))
    (l2 : K.lookup f2 = some ⟨oc2, od2, .func (PySem.W.fnOf "need_request" "need_request" (defArgs s_need_request) (defBody s_need_request) (defScope s_need_request) .none kV2 dc2 pm2 an2 cd2 ct2), sl2⟩)
    (c2 : PySem.W.codeIn K cd2 "need_request" = true)
    (k2 : PySem.W.keepIn K (.ref f2) = true)
    {f3 : Addr} {od3 an3 : Option Addr} {sl3 : Array (Option Value)} {oc3 kV3 dc3 pm3 cd3 ct3 : Value}
    (a3 : PySem.W.nsIn K mainGlobals "request_bytes" = some (some (.ref f3)))
    (l3 : K.lookup f3 = some ⟨oc3, od3, .func (PySem.W.fnOf "request_bytes" "request_bytes" (defArgs s_request_bytes) (defBody s_request_bytes) (defScope s_request_bytes) .none kV3 dc3 pm3 an3 cd3 ct3), sl3⟩)
    (c3 : PySem.W.codeIn K cd3 "request_bytes" = true)
    (k3 : PySem.W.keepIn K (.ref f3) = true)
    {f4 : Addr} {od4 an4 : Option Addr} {sl4 : Array (Option Value)} {oc4 kV4 dc4 pm4 cd4 ct4 : Value}
    (a4 : PySem.W.nsIn K mainGlobals "likely_request" = some (some (.ref f4)))
    (l4 : K.lookup f4 = some ⟨oc4, od4, .func (PySem.W.fnOf "likely_request" "likely_request" (defArgs s_likely_request) (defBody s_likely_request) (defScope s_likely_request) .none kV4 dc4 pm4 an4 cd4 ct4), sl4⟩)
    (c4 : PySem.W.codeIn K cd4 "likely_request" = true)
    (k4 : PySem.W.keepIn K (.ref f4) = true)
    {f5 : Addr} {od5 an5 : Option Addr} {sl5 : Array (Option Value)} {oc5 kV5 dc5 pm5 cd5 ct5 : Value}
    (a5 : PySem.W.nsIn K mainGlobals "read_request" = some (some (.ref f5)))
    (l5 : K.lookup f5 = some ⟨oc5, od5, .func (PySem.W.fnOf "read_request" "read_request" (defArgs s_read_request) (defBody s_read_request) (defScope s_read_request) .none kV5 dc5 pm5 an5 cd5 ct5), sl5⟩)
    (c5 : PySem.W.codeIn K cd5 "read_request" = true)
    (k5 : PySem.W.keepIn K (.ref f5) = true)
    {f6 : Addr} {od6 an6 : Option Addr} {sl6 : Array (Option Value)} {oc6 kV6 dc6 pm6 cd6 ct6 : Value}
    (a6 : PySem.W.nsIn K mainGlobals "asks" = some (some (.ref f6)))
    (l6 : K.lookup f6 = some ⟨oc6, od6, .func (PySem.W.fnOf "asks" "asks" (defArgs s_asks) (defBody s_asks) (defScope s_asks) .none kV6 dc6 pm6 an6 cd6 ct6), sl6⟩)
    (c6 : PySem.W.codeIn K cd6 "asks" = true)
    (k6 : PySem.W.keepIn K (.ref f6) = true)
    {f7 : Addr} {od7 an7 : Option Addr} {sl7 : Array (Option Value)} {oc7 kV7 dc7 pm7 cd7 ct7 : Value}
    (a7 : PySem.W.nsIn K mainGlobals "_law_bag" = some (some (.ref f7)))
    (l7 : K.lookup f7 = some ⟨oc7, od7, .func (PySem.W.fnOf "_law_bag" "_law_bag" (defArgs s__law_bag) (defBody s__law_bag) (defScope s__law_bag) .none kV7 dc7 pm7 an7 cd7 ct7), sl7⟩)
    (c7 : PySem.W.codeIn K cd7 "_law_bag" = true)
    (k7 : PySem.W.keepIn K (.ref f7) = true)
    {f8 : Addr} {od8 an8 : Option Addr} {sl8 : Array (Option Value)} {oc8 kV8 dc8 pm8 cd8 ct8 : Value}
    (a8 : PySem.W.nsIn K mainGlobals "_law_pull" = some (some (.ref f8)))
    (l8 : K.lookup f8 = some ⟨oc8, od8, .func (PySem.W.fnOf "_law_pull" "_law_pull" (defArgs s__law_pull) (defBody s__law_pull) (defScope s__law_pull) .none kV8 dc8 pm8 an8 cd8 ct8), sl8⟩)
    (c8 : PySem.W.codeIn K cd8 "_law_pull" = true)
    (k8 : PySem.W.keepIn K (.ref f8) = true)
    {f9 : Addr} {od9 an9 : Option Addr} {sl9 : Array (Option Value)} {oc9 kV9 dc9 pm9 cd9 ct9 : Value}
    (a9 : PySem.W.nsIn K mainGlobals "_law_whole" = some (some (.ref f9)))
    (l9 : K.lookup f9 = some ⟨oc9, od9, .func (PySem.W.fnOf "_law_whole" "_law_whole" (defArgs s__law_whole) (defBody s__law_whole) (defScope s__law_whole) .none kV9 dc9 pm9 an9 cd9 ct9), sl9⟩)
    (c9 : PySem.W.codeIn K cd9 "_law_whole" = true)
    (k9 : PySem.W.keepIn K (.ref f9) = true)
    {f10 : Addr} {od10 an10 : Option Addr} {sl10 : Array (Option Value)} {oc10 kV10 dc10 pm10 cd10 ct10 : Value}
    (a10 : PySem.W.nsIn K mainGlobals "_law_same" = some (some (.ref f10)))
    (l10 : K.lookup f10 = some ⟨oc10, od10, .func (PySem.W.fnOf "_law_same" "_law_same" (defArgs s__law_same) (defBody s__law_same) (defScope s__law_same) .none kV10 dc10 pm10 an10 cd10 ct10), sl10⟩)
    (c10 : PySem.W.codeIn K cd10 "_law_same" = true)
    (k10 : PySem.W.keepIn K (.ref f10) = true)
    {f11 : Addr} {od11 an11 : Option Addr} {sl11 : Array (Option Value)} {oc11 kV11 dc11 pm11 cd11 ct11 : Value}
    (a11 : PySem.W.nsIn K mainGlobals "_law_one" = some (some (.ref f11)))
    (l11 : K.lookup f11 = some ⟨oc11, od11, .func (PySem.W.fnOf "_law_one" "_law_one" (defArgs s__law_one) (defBody s__law_one) (defScope s__law_one) .none kV11 dc11 pm11 an11 cd11 ct11), sl11⟩)
    (c11 : PySem.W.codeIn K cd11 "_law_one" = true)
    (k11 : PySem.W.keepIn K (.ref f11) = true)
    {f12 : Addr} {od12 an12 : Option Addr} {sl12 : Array (Option Value)} {oc12 kV12 dc12 pm12 cd12 ct12 : Value}
    (a12 : PySem.W.nsIn K mainGlobals "_law_forms" = some (some (.ref f12)))
    (l12 : K.lookup f12 = some ⟨oc12, od12, .func (PySem.W.fnOf "_law_forms" "_law_forms" (defArgs s__law_forms) (defBody s__law_forms) (defScope s__law_forms) .none kV12 dc12 pm12 an12 cd12 ct12), sl12⟩)
    (c12 : PySem.W.codeIn K cd12 "_law_forms" = true)
    (k12 : PySem.W.keepIn K (.ref f12) = true)
    {f13 : Addr} {od13 an13 : Option Addr} {sl13 : Array (Option Value)} {oc13 kV13 dc13 pm13 cd13 ct13 : Value}
    (a13 : PySem.W.nsIn K mainGlobals "_law_row" = some (some (.ref f13)))
    (l13 : K.lookup f13 = some ⟨oc13, od13, .func (PySem.W.fnOf "_law_row" "_law_row" (defArgs s__law_row) (defBody s__law_row) (defScope s__law_row) .none kV13 dc13 pm13 an13 cd13 ct13), sl13⟩)
    (c13 : PySem.W.codeIn K cd13 "_law_row" = true)
    (k13 : PySem.W.keepIn K (.ref f13) = true)
    {f14 : Addr} {od14 an14 : Option Addr} {sl14 : Array (Option Value)} {oc14 kV14 dc14 pm14 cd14 ct14 : Value}
    (a14 : PySem.W.nsIn K mainGlobals "_law_read" = some (some (.ref f14)))
    (l14 : K.lookup f14 = some ⟨oc14, od14, .func (PySem.W.fnOf "_law_read" "_law_read" (defArgs s__law_read) (defBody s__law_read) (defScope s__law_read) .none kV14 dc14 pm14 an14 cd14 ct14), sl14⟩)
    (c14 : PySem.W.codeIn K cd14 "_law_read" = true)
    (k14 : PySem.W.keepIn K (.ref f14) = true)
    {f15 : Addr} {od15 an15 : Option Addr} {sl15 : Array (Option Value)} {oc15 kV15 dc15 pm15 cd15 ct15 : Value}
    (a15 : PySem.W.nsIn K mainGlobals "_law_said" = some (some (.ref f15)))
    (l15 : K.lookup f15 = some ⟨oc15, od15, .func (PySem.W.fnOf "_law_said" "_law_said" (defArgs s__law_said) (defBody s__law_said) (defScope s__law_said) .none kV15 dc15 pm15 an15 cd15 ct15), sl15⟩)
    (c15 : PySem.W.codeIn K cd15 "_law_said" = true)
    (k15 : PySem.W.keepIn K (.ref f15) = true)
    {f16 : Addr} {od16 an16 : Option Addr} {sl16 : Array (Option Value)} {oc16 kV16 dc16 pm16 cd16 ct16 : Value}
    (a16 : PySem.W.nsIn K mainGlobals "law" = some (some (.ref f16)))
    (l16 : K.lookup f16 = some ⟨oc16, od16, .func (PySem.W.fnOf "law" "law" (defArgs s_law) (defBody s_law) (defScope s_law) .none kV16 dc16 pm16 an16 cd16 ct16), sl16⟩)
    (c16 : PySem.W.codeIn K cd16 "law" = true)
    (k16 : PySem.W.keepIn K (.ref f16) = true)
    {C_BusError : Addr}
    (aC_BusError : PySem.W.nsIn K mainGlobals "BusError" = some (some (.ref C_BusError)))
    {C_BadRequest : Addr}
    (aC_BadRequest : PySem.W.nsIn K mainGlobals "BadRequest" = some (some (.ref C_BadRequest)))
    (xC_BadRequest : PySem.W.excIn K C_BadRequest [.type "ValueError", .type "Exception", .type "BaseException", .type "object"] "ValueError.__new__" = true)
    (kC_BadRequest : PySem.W.keepIn K (.ref C_BadRequest) = true)
    (bC_BadRequest : PySem.W.subIn K (.ref C_BadRequest) (.type "BaseException") = some true)
    (tC_BadRequest : PySem.W.typeIn K (.ref C_BadRequest) = some (.type "type"))
    (eb_BusError : PySem.W.subIn K (.ref C_BusError) (.type "BaseException") = some true)
    (eh_BusError : PySem.W.hasDictIn K C_BusError = true)
    (et_BusError : PySem.W.typeIn K (.ref C_BusError) = some (.type "type"))
    (es_BadRequest_BusError : PySem.W.subIn K (.ref C_BadRequest) (.ref C_BusError) = some true)
    (hg_BadRequest : PySem.W.findIn K (.ref C_BadRequest) "__getattribute__" = some (some (.builtin "BaseException.__getattribute__")))
    (hk_BadRequest : PySem.W.findIn K (.ref C_BadRequest) "__getattr__" = some none)
    (hs_BadRequest : PySem.W.subIn K (.ref C_BadRequest) (.type "BaseException") = some true)
    (hd_BadRequest : PySem.W.hasDictIn K C_BadRequest = true)
    (ha_BadRequest : PySem.W.findIn K (.ref C_BadRequest) "__class__" = some (some (.builtin "object.__class__")))
    (hn_BadRequest : PySem.W.specialIn K (.builtin "object.__class__") "__get__" = some (some (.builtin "getset_descriptor.__get__")))
    (ht_BadRequest : PySem.W.takesIn K (.builtin "object.__class__") = some true)
    (hm_BadRequest : PySem.W.mroIn K C_BadRequest (.type "object") = some true)
    {K_ROWS : Addr}
    (aK_ROWS : PySem.W.nsIn K mainGlobals "ROWS" = some (some (.ref K_ROWS)))
    {e_ROWS : Array DictEntry} {m_ROWS : Nat}
    (lK_ROWS : K.lookup K_ROWS = some ⟨.type "dict", none, .dict e_ROWS m_ROWS, #[]⟩)
    (hK_ROWS : PySem.W.KeysLit w.params e_ROWS.toList)
    (oK_ROWS : KeyOrd e_ROWS.toList [("device" : Str), ("settings" : Str), ("number" : Str), ("set" : Str), ("clear" : Str), ("port" : Str), ("reset" : Str), ("shut" : Str)])
    (sK_ROWS : (K_ROWS == sysModules) = false)
    {A_ROWS_0 : Addr} {o_ROWS_0 : Obj}
    (n_ROWS_0 : PySem.W.nsIn K K_ROWS ("device" : Str) = some (some (.ref A_ROWS_0)))
    (lT_ROWS_0 : K.lookup A_ROWS_0 = some o_ROWS_0)
    (vT_ROWS_0 : TupObj o_ROWS_0 [.int 128, .int 6, .int 0, .int 1, .int 0, .int 0, .int 18, .int 0])
    {A_ROWS_1 : Addr} {o_ROWS_1 : Obj}
    (n_ROWS_1 : PySem.W.nsIn K K_ROWS ("settings" : Str) = some (some (.ref A_ROWS_1)))
    (lT_ROWS_1 : K.lookup A_ROWS_1 = some o_ROWS_1)
    (vT_ROWS_1 : TupObj o_ROWS_1 [.int 128, .int 6, .int 0, .int 2, .int 0, .int 0, .int 255, .int 0])
    {A_ROWS_2 : Addr} {o_ROWS_2 : Obj}
    (n_ROWS_2 : PySem.W.nsIn K K_ROWS ("number" : Str) = some (some (.ref A_ROWS_2)))
    (lT_ROWS_2 : K.lookup A_ROWS_2 = some o_ROWS_2)
    (vT_ROWS_2 : TupObj o_ROWS_2 [.int 0, .int 5, .int 0, .int 0, .int 0, .int 0, .int 0, .int 0])
    {A_ROWS_3 : Addr} {o_ROWS_3 : Obj}
    (n_ROWS_3 : PySem.W.nsIn K K_ROWS ("set" : Str) = some (some (.ref A_ROWS_3)))
    (lT_ROWS_3 : K.lookup A_ROWS_3 = some o_ROWS_3)
    (vT_ROWS_3 : TupObj o_ROWS_3 [.int 0, .int 9, .int 0, .int 0, .int 0, .int 0, .int 0, .int 0])
    {A_ROWS_4 : Addr} {o_ROWS_4 : Obj}
    (n_ROWS_4 : PySem.W.nsIn K K_ROWS ("clear" : Str) = some (some (.ref A_ROWS_4)))
    (lT_ROWS_4 : K.lookup A_ROWS_4 = some o_ROWS_4)
    (vT_ROWS_4 : TupObj o_ROWS_4 [.int 2, .int 1, .int 0, .int 0, .int 0, .int 0, .int 0, .int 0])
    {A_ROWS_5 : Addr} {o_ROWS_5 : Obj}
    (n_ROWS_5 : PySem.W.nsIn K K_ROWS ("port" : Str) = some (some (.ref A_ROWS_5)))
    (lT_ROWS_5 : K.lookup A_ROWS_5 = some o_ROWS_5)
    (vT_ROWS_5 : TupObj o_ROWS_5 [.int 163, .int 0, .int 0, .int 0, .int 0, .int 0, .int 2, .int 0])
    {A_ROWS_6 : Addr} {o_ROWS_6 : Obj}
    (n_ROWS_6 : PySem.W.nsIn K K_ROWS ("reset" : Str) = some (some (.ref A_ROWS_6)))
    (lT_ROWS_6 : K.lookup A_ROWS_6 = some o_ROWS_6)
    (vT_ROWS_6 : TupObj o_ROWS_6 [.int 35, .int 3, .int 4, .int 0, .int 0, .int 0, .int 0, .int 0])
    {A_ROWS_7 : Addr} {o_ROWS_7 : Obj}
    (n_ROWS_7 : PySem.W.nsIn K K_ROWS ("shut" : Str) = some (some (.ref A_ROWS_7)))
    (lT_ROWS_7 : K.lookup A_ROWS_7 = some o_ROWS_7)
    (vT_ROWS_7 : TupObj o_ROWS_7 [.int 35, .int 1, .int 1, .int 0, .int 0, .int 0, .int 0, .int 0])
    {tk_LENGTH : Tok}
    (aK_LENGTH : PySem.W.nsIn K mainGlobals "LENGTH" = some (some (.int 8 tk_LENGTH)))
    {K_PLACES : Addr}
    (aK_PLACES : PySem.W.nsIn K mainGlobals "PLACES" = some (some (.ref K_PLACES)))
    {e_PLACES : Array DictEntry} {m_PLACES : Nat}
    (lK_PLACES : K.lookup K_PLACES = some ⟨.type "dict", none, .dict e_PLACES m_PLACES, #[]⟩)
    (hK_PLACES : PySem.W.KeysLit w.params e_PLACES.toList)
    (oK_PLACES : KeyOrd e_PLACES.toList [("number" : Str), ("set" : Str), ("clear" : Str), ("port" : Str), ("reset" : Str), ("shut" : Str)])
    (sK_PLACES : (K_PLACES == sysModules) = false)
    {u_PLACES_0 : Value}
    (n_PLACES_0 : PySem.W.nsIn K K_PLACES ("number" : Str) = some (some u_PLACES_0))
    (r_PLACES_0 : RelV (.int 2) u_PLACES_0)
    {u_PLACES_1 : Value}
    (n_PLACES_1 : PySem.W.nsIn K K_PLACES ("set" : Str) = some (some u_PLACES_1))
    (r_PLACES_1 : RelV (.int 2) u_PLACES_1)
    {u_PLACES_2 : Value}
    (n_PLACES_2 : PySem.W.nsIn K K_PLACES ("clear" : Str) = some (some u_PLACES_2))
    (r_PLACES_2 : RelV (.int 4) u_PLACES_2)
    {u_PLACES_3 : Value}
    (n_PLACES_3 : PySem.W.nsIn K K_PLACES ("port" : Str) = some (some u_PLACES_3))
    (r_PLACES_3 : RelV (.int 4) u_PLACES_3)
    {u_PLACES_4 : Value}
    (n_PLACES_4 : PySem.W.nsIn K K_PLACES ("reset" : Str) = some (some u_PLACES_4))
    (r_PLACES_4 : RelV (.int 4) u_PLACES_4)
    {u_PLACES_5 : Value}
    (n_PLACES_5 : PySem.W.nsIn K K_PLACES ("shut" : Str) = some (some u_PLACES_5))
    (r_PLACES_5 : RelV (.int 4) u_PLACES_5)
    {K_HIGHEST : Addr}
    (aK_HIGHEST : PySem.W.nsIn K mainGlobals "HIGHEST" = some (some (.ref K_HIGHEST)))
    {e_HIGHEST : Array DictEntry} {m_HIGHEST : Nat}
    (lK_HIGHEST : K.lookup K_HIGHEST = some ⟨.type "dict", none, .dict e_HIGHEST m_HIGHEST, #[]⟩)
    (hK_HIGHEST : PySem.W.KeysLit w.params e_HIGHEST.toList)
    (oK_HIGHEST : KeyOrd e_HIGHEST.toList [("number" : Str), ("set" : Str), ("clear" : Str), ("port" : Str), ("reset" : Str), ("shut" : Str)])
    (sK_HIGHEST : (K_HIGHEST == sysModules) = false)
    {u_HIGHEST_0 : Value}
    (n_HIGHEST_0 : PySem.W.nsIn K K_HIGHEST ("number" : Str) = some (some u_HIGHEST_0))
    (r_HIGHEST_0 : RelV (.int 15) u_HIGHEST_0)
    {u_HIGHEST_1 : Value}
    (n_HIGHEST_1 : PySem.W.nsIn K K_HIGHEST ("set" : Str) = some (some u_HIGHEST_1))
    (r_HIGHEST_1 : RelV (.int 1) u_HIGHEST_1)
    {u_HIGHEST_2 : Value}
    (n_HIGHEST_2 : PySem.W.nsIn K K_HIGHEST ("clear" : Str) = some (some u_HIGHEST_2))
    (r_HIGHEST_2 : RelV (.int 255) u_HIGHEST_2)
    {u_HIGHEST_3 : Value}
    (n_HIGHEST_3 : PySem.W.nsIn K K_HIGHEST ("port" : Str) = some (some u_HIGHEST_3))
    (r_HIGHEST_3 : RelV (.int 4) u_HIGHEST_3)
    {u_HIGHEST_4 : Value}
    (n_HIGHEST_4 : PySem.W.nsIn K K_HIGHEST ("reset" : Str) = some (some u_HIGHEST_4))
    (r_HIGHEST_4 : RelV (.int 4) u_HIGHEST_4)
    {u_HIGHEST_5 : Value}
    (n_HIGHEST_5 : PySem.W.nsIn K K_HIGHEST ("shut" : Str) = some (some u_HIGHEST_5))
    (r_HIGHEST_5 : RelV (.int 4) u_HIGHEST_5)
    {K_ASKING : Addr}
    (aK_ASKING : PySem.W.nsIn K mainGlobals "ASKING" = some (some (.ref K_ASKING)))
    {o_ASKING : Obj}
    (lK_ASKING : K.lookup K_ASKING = some o_ASKING)
    (vK_ASKING : TupObj o_ASKING [.str ("device" : Str), .str ("settings" : Str), .str ("port" : Str)])
    (z_all : PySem.W.nsIn K mainGlobals "all" = some none)
    (z_bool : PySem.W.nsIn K mainGlobals "bool" = some none)
    (z_int : PySem.W.nsIn K mainGlobals "int" = some none)
    (z_isinstance : PySem.W.nsIn K mainGlobals "isinstance" = some none)
    (z_len : PySem.W.nsIn K mainGlobals "len" = some none)
    (z_list : PySem.W.nsIn K mainGlobals "list" = some none)
    (z_range : PySem.W.nsIn K mainGlobals "range" = some none)
    (z_str : PySem.W.nsIn K mainGlobals "str" = some none)
    (z_tuple : PySem.W.nsIn K mainGlobals "tuple" = some none)
    : ∃ fd : FuncData, (∀ (s : Shared) (v : Value), BindsTo s fd ⟨[v], []⟩ [("_law_script", v)]) ∧ ∀ base : Heap, K.In base → base.Ns mainGlobals mg → FnOk l.prog w K mg base CX0 7 fa fd ["_law_script"] (spLaw K) := by
  have e := hfa.symm.trans (PySem.W.mg_of X G a16)
  cases e
  have F0 := fun_mk (st := s_is_number) l0 c0 k0
  have b0 := F0.binds (ps := ["value", "low", "high"]) fun _ _ _ _ _ _ us hl => match us, hl with | [_, _, _], _ => rfl
  have F1 := fun_mk (st := s_is_request) l1 c1 k1
  have b1 := F1.binds (ps := ["request"]) fun _ _ _ _ _ _ us hl => match us, hl with | [_], _ => rfl
  have F2 := fun_mk (st := s_need_request) l2 c2 k2
  have b2 := F2.binds (ps := ["request"]) fun _ _ _ _ _ _ us hl => match us, hl with | [_], _ => rfl
  have F3 := fun_mk (st := s_request_bytes) l3 c3 k3
  have b3 := F3.binds (ps := ["request"]) fun _ _ _ _ _ _ us hl => match us, hl with | [_], _ => rfl
  have F4 := fun_mk (st := s_likely_request) l4 c4 k4
  have b4 := F4.binds (ps := ["word", "row"]) fun _ _ _ _ _ _ us hl => match us, hl with | [_, _], _ => rfl
  have F5 := fun_mk (st := s_read_request) l5 c5 k5
  have b5 := F5.binds (ps := ["row"]) fun _ _ _ _ _ _ us hl => match us, hl with | [_], _ => rfl
  have F6 := fun_mk (st := s_asks) l6 c6 k6
  have b6 := F6.binds (ps := ["request"]) fun _ _ _ _ _ _ us hl => match us, hl with | [_], _ => rfl
  have F7 := fun_mk (st := s__law_bag) l7 c7 k7
  have b7 := F7.binds (ps := ["_law_script"]) fun _ _ _ _ _ _ us hl => match us, hl with | [_], _ => rfl
  have F8 := fun_mk (st := s__law_pull) l8 c8 k8
  have b8 := F8.binds (ps := ["_law_bag_here", "_law_upto"]) fun _ _ _ _ _ _ us hl => match us, hl with | [_, _], _ => rfl
  have F9 := fun_mk (st := s__law_whole) l9 c9 k9
  have b9 := F9.binds (ps := ["_law_found"]) fun _ _ _ _ _ _ us hl => match us, hl with | [_], _ => rfl
  have F10 := fun_mk (st := s__law_same) l10 c10 k10
  have b10 := F10.binds (ps := ["_law_found", "_law_due"]) fun _ _ _ _ _ _ us hl => match us, hl with | [_, _], _ => rfl
  have F11 := fun_mk (st := s__law_one) l11 c11 k11
  have b11 := F11.binds (ps := ["_law_bag_here", "_law_row_here"]) fun _ _ _ _ _ _ us hl => match us, hl with | [_, _], _ => rfl
  have F12 := fun_mk (st := s__law_forms) l12 c12 k12
  have b12 := F12.binds (ps := []) fun _ _ _ _ _ _ us hl => match us, hl with | [], _ => rfl
  have F13 := fun_mk (st := s__law_row) l13 c13 k13
  have b13 := F13.binds (ps := ["_law_request"]) fun _ _ _ _ _ _ us hl => match us, hl with | [_], _ => rfl
  have F14 := fun_mk (st := s__law_read) l14 c14 k14
  have b14 := F14.binds (ps := ["_law_row_here"]) fun _ _ _ _ _ _ us hl => match us, hl with | [_], _ => rfl
  have F15 := fun_mk (st := s__law_said) l15 c15 k15
  have b15 := F15.binds (ps := ["_law_which", "_law_thing"]) fun _ _ _ _ _ _ us hl => match us, hl with | [_, _], _ => rfl
  have F16 := fun_mk (st := s_law) l16 c16 k16
  have b16 := F16.binds (ps := ["_law_script"]) fun _ _ _ _ _ _ us hl => match us, hl with | [_], _ => rfl
  let a : Ad := { w := w, f_is_number := f0, d_is_number := (PySem.W.fnOf "is_number" "is_number" (defArgs s_is_number) (defBody s_is_number) (defScope s_is_number) .none kV0 dc0 pm0 an0 cd0 ct0), f_is_request := f1, d_is_request := (PySem.W.fnOf "is_request" "is_request" (defArgs s_is_request) (defBody s_is_request) (defScope s_is_request) .none kV1 dc1 pm1 an1 cd1 ct1), f_need_request := f2, d_need_request := (PySem.W.fnOf "need_request" "need_request" (defArgs s_need_request) (defBody s_need_request) (defScope s_need_request) .none kV2 dc2 pm2 an2 cd2 ct2), f_request_bytes := f3, d_request_bytes := (PySem.W.fnOf "request_bytes" "request_bytes" (defArgs s_request_bytes) (defBody s_request_bytes) (defScope s_request_bytes) .none kV3 dc3 pm3 an3 cd3 ct3), f_likely_request := f4, d_likely_request := (PySem.W.fnOf "likely_request" "likely_request" (defArgs s_likely_request) (defBody s_likely_request) (defScope s_likely_request) .none kV4 dc4 pm4 an4 cd4 ct4), f_read_request := f5, d_read_request := (PySem.W.fnOf "read_request" "read_request" (defArgs s_read_request) (defBody s_read_request) (defScope s_read_request) .none kV5 dc5 pm5 an5 cd5 ct5), f_asks := f6, d_asks := (PySem.W.fnOf "asks" "asks" (defArgs s_asks) (defBody s_asks) (defScope s_asks) .none kV6 dc6 pm6 an6 cd6 ct6), f__law_bag := f7, d__law_bag := (PySem.W.fnOf "_law_bag" "_law_bag" (defArgs s__law_bag) (defBody s__law_bag) (defScope s__law_bag) .none kV7 dc7 pm7 an7 cd7 ct7), f__law_pull := f8, d__law_pull := (PySem.W.fnOf "_law_pull" "_law_pull" (defArgs s__law_pull) (defBody s__law_pull) (defScope s__law_pull) .none kV8 dc8 pm8 an8 cd8 ct8), f__law_whole := f9, d__law_whole := (PySem.W.fnOf "_law_whole" "_law_whole" (defArgs s__law_whole) (defBody s__law_whole) (defScope s__law_whole) .none kV9 dc9 pm9 an9 cd9 ct9), f__law_same := f10, d__law_same := (PySem.W.fnOf "_law_same" "_law_same" (defArgs s__law_same) (defBody s__law_same) (defScope s__law_same) .none kV10 dc10 pm10 an10 cd10 ct10), f__law_one := f11, d__law_one := (PySem.W.fnOf "_law_one" "_law_one" (defArgs s__law_one) (defBody s__law_one) (defScope s__law_one) .none kV11 dc11 pm11 an11 cd11 ct11), f__law_forms := f12, d__law_forms := (PySem.W.fnOf "_law_forms" "_law_forms" (defArgs s__law_forms) (defBody s__law_forms) (defScope s__law_forms) .none kV12 dc12 pm12 an12 cd12 ct12), f__law_row := f13, d__law_row := (PySem.W.fnOf "_law_row" "_law_row" (defArgs s__law_row) (defBody s__law_row) (defScope s__law_row) .none kV13 dc13 pm13 an13 cd13 ct13), f__law_read := f14, d__law_read := (PySem.W.fnOf "_law_read" "_law_read" (defArgs s__law_read) (defBody s__law_read) (defScope s__law_read) .none kV14 dc14 pm14 an14 cd14 ct14), f__law_said := f15, d__law_said := (PySem.W.fnOf "_law_said" "_law_said" (defArgs s__law_said) (defBody s__law_said) (defScope s__law_said) .none kV15 dc15 pm15 an15 cd15 ct15), f_law := fa, d_law := (PySem.W.fnOf "law" "law" (defArgs s_law) (defBody s_law) (defScope s_law) .none kV16 dc16 pm16 an16 cd16 ct16), c_BusError := C_BusError, c_BadRequest := C_BadRequest, k_ROWS := K_ROWS, k_LENGTH := tk_LENGTH, k_PLACES := K_PLACES, k_HIGHEST := K_HIGHEST, k_ASKING := K_ASKING, k_ROWS_0 := A_ROWS_0, k_ROWS_1 := A_ROWS_1, k_ROWS_2 := A_ROWS_2, k_ROWS_3 := A_ROWS_3, k_ROWS_4 := A_ROWS_4, k_ROWS_5 := A_ROWS_5, k_ROWS_6 := A_ROWS_6, k_ROWS_7 := A_ROWS_7 }
  have T : Txt K mg a := { F_is_number := F0, g_is_number := PySem.W.mg_of X G a0, b_is_number := b0, F_is_request := F1, g_is_request := PySem.W.mg_of X G a1, b_is_request := b1, F_need_request := F2, g_need_request := PySem.W.mg_of X G a2, b_need_request := b2, F_request_bytes := F3, g_request_bytes := PySem.W.mg_of X G a3, b_request_bytes := b3, F_likely_request := F4, g_likely_request := PySem.W.mg_of X G a4, b_likely_request := b4, F_read_request := F5, g_read_request := PySem.W.mg_of X G a5, b_read_request := b5, F_asks := F6, g_asks := PySem.W.mg_of X G a6, b_asks := b6, F__law_bag := F7, g__law_bag := PySem.W.mg_of X G a7, b__law_bag := b7, F__law_pull := F8, g__law_pull := PySem.W.mg_of X G a8, b__law_pull := b8, F__law_whole := F9, g__law_whole := PySem.W.mg_of X G a9, b__law_whole := b9, F__law_same := F10, g__law_same := PySem.W.mg_of X G a10, b__law_same := b10, F__law_one := F11, g__law_one := PySem.W.mg_of X G a11, b__law_one := b11, F__law_forms := F12, g__law_forms := PySem.W.mg_of X G a12, b__law_forms := b12, F__law_row := F13, g__law_row := PySem.W.mg_of X G a13, b__law_row := b13, F__law_read := F14, g__law_read := PySem.W.mg_of X G a14, b__law_read := b14, F__law_said := F15, g__law_said := PySem.W.mg_of X G a15, b__law_said := b15, F_law := F16, g_law := PySem.W.mg_of X G a16, b_law := b16, gC_BusError := PySem.W.mg_of X G aC_BusError, gC_BadRequest := PySem.W.mg_of X G aC_BadRequest, xC_BadRequest := xC_BadRequest, kC_BadRequest := kC_BadRequest, bC_BadRequest := bC_BadRequest, tC_BadRequest := tC_BadRequest, m_BadRequest_BusError := PySem.W.exm_ref eb_BusError eh_BusError et_BusError es_BadRequest_BusError, e_BadRequest := ⟨hg_BadRequest, hk_BadRequest, hs_BadRequest, hd_BadRequest, ha_BadRequest, hn_BadRequest, ht_BadRequest, hm_BadRequest⟩, kit_BadRequest_BadRequest := kit_self, g_ROWS := PySem.W.mg_of X G aK_ROWS, v_ROWS_0 := ⟨_, _, _, lK_ROWS, hK_ROWS, n_ROWS_0, rfl⟩, kt_ROWS_0 := ⟨_, lT_ROWS_0, vT_ROWS_0⟩, v_ROWS_1 := ⟨_, _, _, lK_ROWS, hK_ROWS, n_ROWS_1, rfl⟩, kt_ROWS_1 := ⟨_, lT_ROWS_1, vT_ROWS_1⟩, v_ROWS_2 := ⟨_, _, _, lK_ROWS, hK_ROWS, n_ROWS_2, rfl⟩, kt_ROWS_2 := ⟨_, lT_ROWS_2, vT_ROWS_2⟩, v_ROWS_3 := ⟨_, _, _, lK_ROWS, hK_ROWS, n_ROWS_3, rfl⟩, kt_ROWS_3 := ⟨_, lT_ROWS_3, vT_ROWS_3⟩, v_ROWS_4 := ⟨_, _, _, lK_ROWS, hK_ROWS, n_ROWS_4, rfl⟩, kt_ROWS_4 := ⟨_, lT_ROWS_4, vT_ROWS_4⟩, v_ROWS_5 := ⟨_, _, _, lK_ROWS, hK_ROWS, n_ROWS_5, rfl⟩, kt_ROWS_5 := ⟨_, lT_ROWS_5, vT_ROWS_5⟩, v_ROWS_6 := ⟨_, _, _, lK_ROWS, hK_ROWS, n_ROWS_6, rfl⟩, kt_ROWS_6 := ⟨_, lT_ROWS_6, vT_ROWS_6⟩, v_ROWS_7 := ⟨_, _, _, lK_ROWS, hK_ROWS, n_ROWS_7, rfl⟩, kt_ROWS_7 := ⟨_, lT_ROWS_7, vT_ROWS_7⟩, t_ROWS := ⟨⟨_, _, lK_ROWS, hK_ROWS, sK_ROWS, oK_ROWS⟩⟩, g_LENGTH := PySem.W.mg_of X G aK_LENGTH, g_PLACES := PySem.W.mg_of X G aK_PLACES, v_PLACES_0 := ⟨_, _, _, lK_PLACES, hK_PLACES, n_PLACES_0, r_PLACES_0⟩, v_PLACES_1 := ⟨_, _, _, lK_PLACES, hK_PLACES, n_PLACES_1, r_PLACES_1⟩, v_PLACES_2 := ⟨_, _, _, lK_PLACES, hK_PLACES, n_PLACES_2, r_PLACES_2⟩, v_PLACES_3 := ⟨_, _, _, lK_PLACES, hK_PLACES, n_PLACES_3, r_PLACES_3⟩, v_PLACES_4 := ⟨_, _, _, lK_PLACES, hK_PLACES, n_PLACES_4, r_PLACES_4⟩, v_PLACES_5 := ⟨_, _, _, lK_PLACES, hK_PLACES, n_PLACES_5, r_PLACES_5⟩, t_PLACES := ⟨⟨_, _, lK_PLACES, hK_PLACES, sK_PLACES, oK_PLACES⟩⟩, g_HIGHEST := PySem.W.mg_of X G aK_HIGHEST, v_HIGHEST_0 := ⟨_, _, _, lK_HIGHEST, hK_HIGHEST, n_HIGHEST_0, r_HIGHEST_0⟩, v_HIGHEST_1 := ⟨_, _, _, lK_HIGHEST, hK_HIGHEST, n_HIGHEST_1, r_HIGHEST_1⟩, v_HIGHEST_2 := ⟨_, _, _, lK_HIGHEST, hK_HIGHEST, n_HIGHEST_2, r_HIGHEST_2⟩, v_HIGHEST_3 := ⟨_, _, _, lK_HIGHEST, hK_HIGHEST, n_HIGHEST_3, r_HIGHEST_3⟩, v_HIGHEST_4 := ⟨_, _, _, lK_HIGHEST, hK_HIGHEST, n_HIGHEST_4, r_HIGHEST_4⟩, v_HIGHEST_5 := ⟨_, _, _, lK_HIGHEST, hK_HIGHEST, n_HIGHEST_5, r_HIGHEST_5⟩, t_HIGHEST := ⟨⟨_, _, lK_HIGHEST, hK_HIGHEST, sK_HIGHEST, oK_HIGHEST⟩⟩, g_ASKING := PySem.W.mg_of X G aK_ASKING, t_ASKING := ⟨_, lK_ASKING, vK_ASKING⟩, n_all := PySem.W.mg_none_of X G z_all, n_bool := PySem.W.mg_none_of X G z_bool, n_int := PySem.W.mg_none_of X G z_int, n_isinstance := PySem.W.mg_none_of X G z_isinstance, n_len := PySem.W.mg_none_of X G z_len, n_list := PySem.W.mg_none_of X G z_list, n_range := PySem.W.mg_none_of X G z_range, n_str := PySem.W.mg_none_of X G z_str, n_tuple := PySem.W.mg_none_of X G z_tuple }
  exact ⟨_, fun s v => .of_eq rfl, fun base _ _ => law_ok T⟩
end My
open PySem PySem.W PyProof.Rows
set_option maxRecDepth 100000 in
set_option maxHeartbeats 0 in
theorem PySem.Challenge.cw_plugtree_k10_requests_as_bytes_holds : PySem.Challenge.rw_plugtree_k10_requests_as_bytes.Holds := by
  w_on; o_law; k_head; (case hw => w_witness2)
  k_fill
  refine L2.walk_of (l := PySem.Challenge.rw_plugtree_k10_requests_as_bytes) (n := 63) (k := 7) (x := "_law_script") (CX := fun _ => L2.CX0) (sp := fun w => My.spLaw _) rfl (by decide) rfl ⟨rfl, by decide, by decide⟩ (fun w h Y => PySem.W.kIn_of Y) ?F (fun _ _ a ns hl _ hS => ⟨a, ns, rfl, hS, hl, fun _ => rfl⟩) (fun _ _ _ _ _ h => h)
  case F =>
    intro w mg fa h KX G hmg
    refine' My.all_mk KX G hmg ?a0 ?l0 ?c0 ?k0 ?a1 ?l1 ?c1 ?k1 ?a2 ?l2 ?c2 ?k2 ?a3 ?l3 ?c3 ?k3 ?a4 ?l4 ?c4 ?k4 ?a5 ?l5 ?c5 ?k5 ?a6 ?l6 ?c6 ?k6 ?a7 ?l7 ?c7 ?k7 ?a8 ?l8 ?c8 ?k8 ?a9 ?l9 ?c9 ?k9 ?a10 ?l10 ?c10 ?k10 ?a11 ?l11 ?c11 ?k11 ?a12 ?l12 ?c12 ?k12 ?a13 ?l13 ?c13 ?k13 ?a14 ?l14 ?c14 ?k14 ?a15 ?l15 ?c15 ?k15 ?a16 ?l16 ?c16 ?k16 ?aC_BusError ?aC_BadRequest ?xC_BadRequest ?kC_BadRequest ?bC_BadRequest ?tC_BadRequest ?eb_BusError ?eh_BusError ?et_BusError ?es_BadRequest_BusError ?hg_BadRequest ?hk_BadRequest ?hs_BadRequest ?hd_BadRequest ?ha_BadRequest ?hn_BadRequest ?ht_BadRequest ?hm_BadRequest ?aK_ROWS ?lK_ROWS ?hK_ROWS ?oK_ROWS ?sK_ROWS ?n_ROWS_0 ?lT_ROWS_0 ?vT_ROWS_0 ?n_ROWS_1 ?lT_ROWS_1 ?vT_ROWS_1 ?n_ROWS_2 ?lT_ROWS_2 ?vT_ROWS_2 ?n_ROWS_3 ?lT_ROWS_3 ?vT_ROWS_3 ?n_ROWS_4 ?lT_ROWS_4 ?vT_ROWS_4 ?n_ROWS_5 ?lT_ROWS_5 ?vT_ROWS_5 ?n_ROWS_6 ?lT_ROWS_6 ?vT_ROWS_6 ?n_ROWS_7 ?lT_ROWS_7 ?vT_ROWS_7 ?aK_LENGTH ?aK_PLACES ?lK_PLACES ?hK_PLACES ?oK_PLACES ?sK_PLACES ?n_PLACES_0 ?r_PLACES_0 ?n_PLACES_1 ?r_PLACES_1 ?n_PLACES_2 ?r_PLACES_2 ?n_PLACES_3 ?r_PLACES_3 ?n_PLACES_4 ?r_PLACES_4 ?n_PLACES_5 ?r_PLACES_5 ?aK_HIGHEST ?lK_HIGHEST ?hK_HIGHEST ?oK_HIGHEST ?sK_HIGHEST ?n_HIGHEST_0 ?r_HIGHEST_0 ?n_HIGHEST_1 ?r_HIGHEST_1 ?n_HIGHEST_2 ?r_HIGHEST_2 ?n_HIGHEST_3 ?r_HIGHEST_3 ?n_HIGHEST_4 ?r_HIGHEST_4 ?n_HIGHEST_5 ?r_HIGHEST_5 ?aK_ASKING ?lK_ASKING ?vK_ASKING ?z_all ?z_bool ?z_int ?z_isinstance ?z_len ?z_list ?z_range ?z_str ?z_tuple
    (case a0 => k_is)
    (case l0 => k_is)
    (case c0 => k_is)
    (case k0 => k_is)
    (case a1 => k_is)
    (case l1 => k_is)
    (case c1 => k_is)
    (case k1 => k_is)
    (case a2 => k_is)
    (case l2 => k_is)
    (case c2 => k_is)
    (case k2 => k_is)
    (case a3 => k_is)
    (case l3 => k_is)
    (case c3 => k_is)
    (case k3 => k_is)
    (case a4 => k_is)
    (case l4 => k_is)
    (case c4 => k_is)
    (case k4 => k_is)
    (case a5 => k_is)
    (case l5 => k_is)
    (case c5 => k_is)
    (case k5 => k_is)
    (case a6 => k_is)
    (case l6 => k_is)
    (case c6 => k_is)
    (case k6 => k_is)
    (case a7 => k_is)
    (case l7 => k_is)
    (case c7 => k_is)
    (case k7 => k_is)
    (case a8 => k_is)
    (case l8 => k_is)
    (case c8 => k_is)
    (case k8 => k_is)
    (case a9 => k_is)
    (case l9 => k_is)
    (case c9 => k_is)
    (case k9 => k_is)
    (case a10 => k_is)
    (case l10 => k_is)
    (case c10 => k_is)
    (case k10 => k_is)
    (case a11 => k_is)
    (case l11 => k_is)
    (case c11 => k_is)
    (case k11 => k_is)
    (case a12 => k_is)
    (case l12 => k_is)
    (case c12 => k_is)
    (case k12 => k_is)
    (case a13 => k_is)
    (case l13 => k_is)
    (case c13 => k_is)
    (case k13 => k_is)
    (case a14 => k_is)
    (case l14 => k_is)
    (case c14 => k_is)
    (case k14 => k_is)
    (case a15 => k_is)
    (case l15 => k_is)
    (case c15 => k_is)
    (case k15 => k_is)
    (case a16 => k_is)
    (case l16 => k_is)
    (case c16 => k_is)
    (case k16 => k_is)
    (case aC_BusError => k_is)
    (case aC_BadRequest => k_is)
    (case xC_BadRequest => k_exc)
    (case kC_BadRequest => k_is)
    (case bC_BadRequest => k_is)
    (case tC_BadRequest => k_is)
    (case eb_BusError => k_is)
    (case eh_BusError => k_is)
    (case et_BusError => k_is)
    (case es_BadRequest_BusError => k_is)
    (case hg_BadRequest => k_is)
    (case hk_BadRequest => k_is)
    (case hs_BadRequest => k_is)
    (case hd_BadRequest => k_is)
    (case ha_BadRequest => k_is)
    (case hn_BadRequest => k_is)
    (case ht_BadRequest => k_is)
    (case hm_BadRequest => k_is)
    (case aK_ROWS => k_is)
    (case lK_ROWS => k_is)
    (case hK_ROWS => exact ⟨⟨_, _, rfl, rfl⟩, ⟨_, _, rfl, rfl⟩, ⟨_, _, rfl, rfl⟩, ⟨_, _, rfl, rfl⟩, ⟨_, _, rfl, rfl⟩, ⟨_, _, rfl, rfl⟩, ⟨_, _, rfl, rfl⟩, ⟨_, _, rfl, rfl⟩,  trivial⟩)
    (case oK_ROWS => exact ⟨⟨_, rfl⟩, ⟨_, rfl⟩, ⟨_, rfl⟩, ⟨_, rfl⟩, ⟨_, rfl⟩, ⟨_, rfl⟩, ⟨_, rfl⟩, ⟨_, rfl⟩,  trivial⟩)
    (case sK_ROWS => decide)
    (case n_ROWS_0 => k_is)
    (case lT_ROWS_0 => k_is)
    (case vT_ROWS_0 => exact ⟨rfl, _, _, rfl, by decide, .cons ⟨_, rfl⟩ (.cons ⟨_, rfl⟩ (.cons ⟨_, rfl⟩ (.cons ⟨_, rfl⟩ (.cons ⟨_, rfl⟩ (.cons ⟨_, rfl⟩ (.cons ⟨_, rfl⟩ (.cons ⟨_, rfl⟩ (.nil))))))))⟩)
    (case n_ROWS_1 => k_is)
    (case lT_ROWS_1 => k_is)
    (case vT_ROWS_1 => exact ⟨rfl, _, _, rfl, by decide, .cons ⟨_, rfl⟩ (.cons ⟨_, rfl⟩ (.cons ⟨_, rfl⟩ (.cons ⟨_, rfl⟩ (.cons ⟨_, rfl⟩ (.cons ⟨_, rfl⟩ (.cons ⟨_, rfl⟩ (.cons ⟨_, rfl⟩ (.nil))))))))⟩)
    (case n_ROWS_2 => k_is)
    (case lT_ROWS_2 => k_is)
    (case vT_ROWS_2 => exact ⟨rfl, _, _, rfl, by decide, .cons ⟨_, rfl⟩ (.cons ⟨_, rfl⟩ (.cons ⟨_, rfl⟩ (.cons ⟨_, rfl⟩ (.cons ⟨_, rfl⟩ (.cons ⟨_, rfl⟩ (.cons ⟨_, rfl⟩ (.cons ⟨_, rfl⟩ (.nil))))))))⟩)
    (case n_ROWS_3 => k_is)
    (case lT_ROWS_3 => k_is)
    (case vT_ROWS_3 => exact ⟨rfl, _, _, rfl, by decide, .cons ⟨_, rfl⟩ (.cons ⟨_, rfl⟩ (.cons ⟨_, rfl⟩ (.cons ⟨_, rfl⟩ (.cons ⟨_, rfl⟩ (.cons ⟨_, rfl⟩ (.cons ⟨_, rfl⟩ (.cons ⟨_, rfl⟩ (.nil))))))))⟩)
    (case n_ROWS_4 => k_is)
    (case lT_ROWS_4 => k_is)
    (case vT_ROWS_4 => exact ⟨rfl, _, _, rfl, by decide, .cons ⟨_, rfl⟩ (.cons ⟨_, rfl⟩ (.cons ⟨_, rfl⟩ (.cons ⟨_, rfl⟩ (.cons ⟨_, rfl⟩ (.cons ⟨_, rfl⟩ (.cons ⟨_, rfl⟩ (.cons ⟨_, rfl⟩ (.nil))))))))⟩)
    (case n_ROWS_5 => k_is)
    (case lT_ROWS_5 => k_is)
    (case vT_ROWS_5 => exact ⟨rfl, _, _, rfl, by decide, .cons ⟨_, rfl⟩ (.cons ⟨_, rfl⟩ (.cons ⟨_, rfl⟩ (.cons ⟨_, rfl⟩ (.cons ⟨_, rfl⟩ (.cons ⟨_, rfl⟩ (.cons ⟨_, rfl⟩ (.cons ⟨_, rfl⟩ (.nil))))))))⟩)
    (case n_ROWS_6 => k_is)
    (case lT_ROWS_6 => k_is)
    (case vT_ROWS_6 => exact ⟨rfl, _, _, rfl, by decide, .cons ⟨_, rfl⟩ (.cons ⟨_, rfl⟩ (.cons ⟨_, rfl⟩ (.cons ⟨_, rfl⟩ (.cons ⟨_, rfl⟩ (.cons ⟨_, rfl⟩ (.cons ⟨_, rfl⟩ (.cons ⟨_, rfl⟩ (.nil))))))))⟩)
    (case n_ROWS_7 => k_is)
    (case lT_ROWS_7 => k_is)
    (case vT_ROWS_7 => exact ⟨rfl, _, _, rfl, by decide, .cons ⟨_, rfl⟩ (.cons ⟨_, rfl⟩ (.cons ⟨_, rfl⟩ (.cons ⟨_, rfl⟩ (.cons ⟨_, rfl⟩ (.cons ⟨_, rfl⟩ (.cons ⟨_, rfl⟩ (.cons ⟨_, rfl⟩ (.nil))))))))⟩)
    (case aK_LENGTH => k_is)
    (case aK_PLACES => k_is)
    (case lK_PLACES => k_is)
    (case hK_PLACES => exact ⟨⟨_, _, rfl, rfl⟩, ⟨_, _, rfl, rfl⟩, ⟨_, _, rfl, rfl⟩, ⟨_, _, rfl, rfl⟩, ⟨_, _, rfl, rfl⟩, ⟨_, _, rfl, rfl⟩,  trivial⟩)
    (case oK_PLACES => exact ⟨⟨_, rfl⟩, ⟨_, rfl⟩, ⟨_, rfl⟩, ⟨_, rfl⟩, ⟨_, rfl⟩, ⟨_, rfl⟩,  trivial⟩)
    (case sK_PLACES => decide)
    (case n_PLACES_0 => k_is)
    (case r_PLACES_0 => exact ⟨_, rfl⟩)
    (case n_PLACES_1 => k_is)
    (case r_PLACES_1 => exact ⟨_, rfl⟩)
    (case n_PLACES_2 => k_is)
    (case r_PLACES_2 => exact ⟨_, rfl⟩)
    (case n_PLACES_3 => k_is)
    (case r_PLACES_3 => exact ⟨_, rfl⟩)
    (case n_PLACES_4 => k_is)
    (case r_PLACES_4 => exact ⟨_, rfl⟩)
    (case n_PLACES_5 => k_is)
    (case r_PLACES_5 => exact ⟨_, rfl⟩)
    (case aK_HIGHEST => k_is)
    (case lK_HIGHEST => k_is)
    (case hK_HIGHEST => exact ⟨⟨_, _, rfl, rfl⟩, ⟨_, _, rfl, rfl⟩, ⟨_, _, rfl, rfl⟩, ⟨_, _, rfl, rfl⟩, ⟨_, _, rfl, rfl⟩, ⟨_, _, rfl, rfl⟩,  trivial⟩)
    (case oK_HIGHEST => exact ⟨⟨_, rfl⟩, ⟨_, rfl⟩, ⟨_, rfl⟩, ⟨_, rfl⟩, ⟨_, rfl⟩, ⟨_, rfl⟩,  trivial⟩)
    (case sK_HIGHEST => decide)
    (case n_HIGHEST_0 => k_is)
    (case r_HIGHEST_0 => exact ⟨_, rfl⟩)
    (case n_HIGHEST_1 => k_is)
    (case r_HIGHEST_1 => exact ⟨_, rfl⟩)
    (case n_HIGHEST_2 => k_is)
    (case r_HIGHEST_2 => exact ⟨_, rfl⟩)
    (case n_HIGHEST_3 => k_is)
    (case r_HIGHEST_3 => exact ⟨_, rfl⟩)
    (case n_HIGHEST_4 => k_is)
    (case r_HIGHEST_4 => exact ⟨_, rfl⟩)
    (case n_HIGHEST_5 => k_is)
    (case r_HIGHEST_5 => exact ⟨_, rfl⟩)
    (case aK_ASKING => k_is)
    (case lK_ASKING => k_is)
    (case vK_ASKING => exact ⟨rfl, _, _, rfl, by decide, .cons ⟨_, rfl⟩ (.cons ⟨_, rfl⟩ (.cons ⟨_, rfl⟩ (.nil)))⟩)
    (case z_all => k_is)
    (case z_bool => k_is)
    (case z_int => k_is)
    (case z_isinstance => k_is)
    (case z_len => k_is)
    (case z_list => k_is)
    (case z_range => k_is)
    (case z_str => k_is)
    (case z_tuple => k_is)
