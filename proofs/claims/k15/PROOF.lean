import PyProof.Rows.All
import Wide.All
import OpenK.AllK
import Wide.FinOn
import HandS.ForMost
import HandS.ForExc
import HandS.IsInst
import HandS.ExcIs
import HandS.Style
import HandS.TupAny
import HandS.TupMul
import HandS.Wide
import HandS.More
import HandS.WideBits
import KE.BitLaws
import HandS.SortKw
import HandS.ExcValue
import PySem.Challenge.RW_plugtree_k15_whole_each_piece_once_from
set_option Elab.async false
set_option maxRecDepth 100000
set_option maxHeartbeats 4000000
set_option linter.all false
namespace My
open PySem PySem.Spec PyProof.Rows L2

/-! ### readings by short names -/
abbrev rAddI : R2 := rI0 fun i j => .int (i + j)
abbrev rSubI : R2 := rI0 fun i j => .int (i - j)
abbrev rMulI : R2 := rI CMul fun i j => .int (i * j)
abbrev rModI : R2 := rI (fun _ j => 0 < j) fun i j => .int (i % j)
abbrev rDivW : R2 := rI CDivW fun i j => .int (i / j)
abbrev rPowI : R2 := rI CPow fun i j => .int (i ^ j.toNat)
abbrev rShlI : R2 := rI CPow fun i j => .int (i * 2 ^ j.toNat)
abbrev rShrI : R2 := rI (fun _ j => 0 ≤ j) fun i j => .int (i / 2 ^ j.toNat)
abbrev rAndI : R2 := rI0 fun i j => .int (Builtin.bitAnd i j)
abbrev rOrI : R2 := rI0 fun i j => .int (Builtin.bitOr i j)
abbrev rXorI : R2 := rI0 fun i j => .int (Builtin.bitXor i j)
abbrev rLtI : R2 := rI0 fun i j => .bl (decide (i < j))
abbrev rLeI : R2 := rI0 fun i j => .bl (decide (i ≤ j))
abbrev rGtI : R2 := rI0 fun i j => .bl (decide (j < i))
abbrev rGeI : R2 := rI0 fun i j => .bl (decide (j ≤ i))
abbrev rNegI : V → Hp → VK → Prop := rU fun i => .int (-i)
abbrev rIsN : R2 := fun x y H Q => y = .non ∧ Q (.bl (decide (x = .non))) H
abbrev rNotN : R2 := fun x y H Q => y = .non ∧ Q (.bl (!decide (x = .non))) H
abbrev rAddStr : R2 := fun x y H Q => ∃ i j, x = .str i ∧ y = .str j ∧ i.length + j.length ≤ sizeLine ∧ Q (.str (i ++ j)) H
abbrev rLenQ (K : PySem.W.Frag) : List V → Hp → VK → Prop := fun xs H Q => ∃ p ys, xs = [.ref p] ∧ (SqL K H p ys ∨ SqT K H p ys) ∧ Q (.int ys.length) H
abbrev rListOf (K : PySem.W.Frag) : List V → Hp → VK → Prop := fun xs H Q => ∃ p ys, xs = [.ref p] ∧ (SqL K H p ys ∨ SqT K H p ys) ∧ ∀ l, H l = none → Q (.ref l) (upd H l (.lst ys))
abbrev rTupleOf (K : PySem.W.Frag) : List V → Hp → VK → Prop := fun xs H Q => ∃ p ys, xs = [.ref p] ∧ ((SqL K H p ys ∧ ∀ l, H l = none → Q (.ref l) (upd H l (.tup ys))) ∨ (SqT K H p ys ∧ Q (.ref p) H))
abbrev rStrInt : List V → Hp → VK → Prop := fun xs H Q => ∃ i, xs = [.int i] ∧ i.natAbs.log2 < 1920 ∧ Q (.str (toString i)) H
def tRaiseC (C : Addr) (E : XK) : TS := fun _ _ H => E (.ref C) none H

/-! ### what stays -/
abbrev Ex (H H' : Hp) : Prop := Same H H'
theorem Ex.new {H : Hp} {p : Addr} {o : HO} (h : H p = none) : Ex H (upd H p o) := fun a u e => by
  rw [upd_ne (ne_of_none e h)]
  exact e
theorem Ex.mut {H H' : Hp} {p : Addr} {o : HO} (e : Ex H H') (h : H p = none) : Ex H (upd H' p o) := fun a u ha => by
  rw [upd_ne (ne_of_none ha h)]
  exact e a u ha
theorem Ex.sqL {K : PySem.W.Frag} {H H' : Hp} {a : Addr} {xs : List V} (e : Ex H H') (h : SqL K H a xs) : SqL K H' a xs := by
  rcases h with (h | ⟨o, h⟩) | h
  · exact .inl (.inl (e _ _ h))
  · exact .inl (.inr ⟨o, e _ _ h⟩)
  · exact .inr h
theorem Ex.sqT {K : PySem.W.Frag} {H H' : Hp} {a : Addr} {xs : List V} (e : Ex H H') (h : SqT K H a xs) : SqT K H' a xs := by
  rcases h with (h | ⟨o, h⟩) | h
  · exact .inl (.inl (e _ _ h))
  · exact .inl (.inr ⟨o, e _ _ h⟩)
  · exact .inr h
mutual
theorem Ex.dp {K : PySem.W.Frag} {H H' : Hp} (e : Ex H H') : ∀ (d : PyData) (v : V), Dp K H v d → Dp K H' v d
  | .none, _, h => by cases h; exact .non
  | .bool b, _, h => by cases h; exact .bl b
  | .int i, _, h => by cases h; exact .int i
  | .str x, _, h => by cases h; exact .str x
  | .list ds, _, h => by
    cases h with
    | lst hs ha => exact .lst (e.sqL hs) (Ex.dpAll e ds _ ha)
  | .tuple ds, _, h => by
    cases h with
    | tup hs ha => exact .tup (e.sqT hs) (Ex.dpAll e ds _ ha)
  | .dict _, _, h => by cases h
theorem Ex.dpAll {K : PySem.W.Frag} {H H' : Hp} (e : Ex H H') : ∀ (ds : List PyData) (vs : List V), DpAll K H vs ds → DpAll K H' vs ds
  | [], _, h => by cases h; exact .nil
  | d :: ds, _, h => by
    cases h with
    | cons h1 h2 => exact .cons (Ex.dp e d _ h1) (Ex.dpAll e ds _ h2)
end
theorem DpAll.len {K : PySem.W.Frag} {H : Hp} : ∀ {ds : List PyData} {vs : List V}, DpAll K H vs ds → vs.length = ds.length
  | [], _, h => by cases h; rfl
  | d :: ds, _, h => by
    cases h with
    | cons h1 h2 => rw [List.length_cons, List.length_cons, DpAll.len h2]
theorem DpAll.get {K : PySem.W.Frag} {H : Hp} : ∀ {ds : List PyData} {vs : List V} {i : Nat} {d : PyData}, DpAll K H vs ds → ds[i]? = some d → ∃ v, vs[i]? = some v ∧ Dp K H v d
  | [], _, i, d, h, e => by simp at e
  | x :: ds, _, 0, d, h, e => by
    cases h with
    | cons h1 h2 =>
      simp at e
      subst e
      exact ⟨_, rfl, h1⟩
  | x :: ds, _, i + 1, d, h, e => by
    cases h with
    | cons h1 h2 =>
      obtain ⟨v, e1, e2⟩ := DpAll.get (i := i) (d := d) h2 (by simpa using e)
      exact ⟨v, by simpa using e1, e2⟩
theorem DpAll.ints {K : PySem.W.Frag} {H : Hp} : ∀ ns : List Int, DpAll K H (ns.map V.int) (ns.map PyData.int)
  | [] => .nil
  | n :: ns => .cons (.int n) (DpAll.ints ns)
theorem Dp.ints {K : PySem.W.Frag} {H : Hp} {p : Addr} {ns : List Int} (h : SqL K H p (ns.map V.int)) : Dp K H (.ref p) (.list (ns.map PyData.int)) := .lst h (DpAll.ints ns)
theorem Dp.intsT {K : PySem.W.Frag} {H : Hp} {p : Addr} {ns : List Int} (h : SqT K H p (ns.map V.int)) : Dp K H (.ref p) (.tuple (ns.map PyData.int)) := .tup h (DpAll.ints ns)

/-! ### isinstance of data -/
def tyName : PyData → String
  | .none => "NoneType" | .bool _ => "bool" | .int _ => "int" | .str _ => "str" | .list _ => "list" | .tuple _ => "tuple" | .dict _ => "dict"
theorem Dp.ty {K : PySem.W.Frag} {H : Hp} {d : PyData} {v : V} (h : Dp K H v d) : TyX K H v (.type (tyName d)) := by
  cases h with
  | non => exact .base .non
  | bl b => exact .base (.bl b)
  | int i => exact .base (.int i)
  | str x => exact .base (.str x)
  | lst hs _ =>
    rcases hs with (e | ⟨o, e⟩) | ⟨o, its, n, e, c, _⟩
    · exact .base (.lst e)
    · exact .base (.frz e)
    · exact .kList e c
  | tup hs _ =>
    rcases hs with (e | ⟨o, e⟩) | ⟨o, its, n, e, c, _⟩
    · exact .base (.tup e)
    · exact .fTuple e
    · exact .kTuple e c
def isTypN (n T : String) : Bool := n == T || (n == "bool" && T == "int")
def isTyp (d : PyData) (T : String) : Bool := isTypN (tyName d) T
theorem kitNames : ∀ n ∈ ["NoneType", "int", "bool", "str", "list", "tuple"], ∀ T ∈ ["int", "bool", "str", "list", "tuple"], kitB n T = some (isTypN n T) := by decide +kernel
/-- isinstance(x, T), T one of the five -/
theorem isi {K : PySem.W.Frag} {H : Hp} {d : PyData} {v : V} {T : String} {Q : VK} (h : Dp K H v d) (hT : T ∈ ["int", "bool", "str", "list", "tuple"]) (q : Q (.bl (isTyp d T)) H) :
    rIsi K [v, .ty T] H Q := by
  refine ⟨v, .ty T, _, _, isTyp d T, rfl, .ty T, Dp.ty h, kit_ty (kitNames _ ?_ _ hT), q⟩
  cases h <;> simp [tyName]

/-! ### going on -/
theorem iteB {c : Bool} {A B : Prop} (h1 : c = true → A) (h2 : c = false → B) : if c = true then A else B := by
  cases c with
  | true => rw [if_pos rfl]; exact h1 rfl
  | false => rw [if_neg Bool.false_ne_true]; exact h2 rfl
theorem iteP {p : Prop} [Decidable p] {A B : Prop} (h1 : p → A) (h2 : ¬ p → B) : if decide p = true then A else B :=
  iteB (fun h => h1 (of_decide_eq_true h)) (fun h => h2 (of_decide_eq_false h))
theorem iteNP {p : Prop} [Decidable p] {A B : Prop} (h1 : ¬ p → A) (h2 : p → B) : if (!decide p) = true then A else B := by
  by_cases h : p
  · rw [decide_eq_true h]
    exact iteF (h2 h)
  · rw [decide_eq_false h]
    exact iteT (h1 h)
theorem cmulR {i j : Int} (h : -(2 ^ 64) < j ∧ j < 2 ^ 64) : CMul i j := .inr h
theorem cmulL {i j : Int} (h : -(2 ^ 64) < i ∧ i < 2 ^ 64) : CMul i j := .inl h
theorem cdivS {i j : Int} (h : 0 < j) (h2 : j < 2 ^ 1000) : CDivW i j := wide_div (b := 1000) h (by omega) (by decide) (by decide)
/-! ### loops -/
theorem forL {K : PySem.W.Frag} {tl : TE} {g : TG} {tb : TS} {D : Ends} {σ : L2.St} {H : Hp} {a : Addr} {xs : List V} (i : Nat) (Pv : Nat → L2.St → Hp → Prop) (ht : ∀ R : VK, R (.ref a) H → tl σ H R) (hS : SqL K H a xs) (h0 : Pv 0 σ H)
    (hl : ∀ j σ H, Pv j σ H → SqL K H a xs) (hs : ∀ j x σ H, xs[j]? = some x → Pv j σ H → tb { D with nx := Pv (j + 1), ct := Pv (j + 1), bk := D.nx } (σ.set i (some x)) H) (hd : ∀ σ H, Pv xs.length σ H → D.nx σ H)
    (hg : g = gName i := by rfl) : tFor (iList K tl) g tb D σ H := by
  subst hg
  exact ht _ ⟨a, rfl, ⟨xs, hS⟩, for_list (xs := xs) Pv h0 (fun j σ H _ p => hl j σ H p) (fun j x σ H e p => hs j x σ H e p) hd⟩
theorem forT {K : PySem.W.Frag} {tl : TE} {g : TG} {tb : TS} {D : Ends} {σ : L2.St} {H : Hp} {a : Addr} {xs : List V} (i : Nat) (Pv : Nat → L2.St → Hp → Prop) (ht : ∀ R : VK, R (.ref a) H → tl σ H R) (hS : SqT K H a xs) (h0 : Pv 0 σ H)
    (hl : ∀ j σ H, Pv j σ H → SqT K H a xs) (hs : ∀ j x σ H, xs[j]? = some x → Pv j σ H → tb { D with nx := Pv (j + 1), ct := Pv (j + 1), bk := D.nx } (σ.set i (some x)) H) (hd : ∀ σ H, Pv xs.length σ H → D.nx σ H)
    (hg : g = gName i := by rfl) : tFor (iTup K tl) g tb D σ H := by
  subst hg
  exact ht _ ⟨a, rfl, ⟨xs, hS⟩, for_tup (xs := xs) Pv h0 (fun j σ H _ p => hl j σ H p) (fun j x σ H e p => hs j x σ H e p) hd⟩
theorem forR {ta : TA} {g : TG} {tb : TS} {D : Ends} {σ : L2.St} {H : Hp} {n : Int} (i : Nat) (Pv : Nat → L2.St → Hp → Prop) (ht : ∀ R : List V → Hp → Prop, R [.int n] H → ta σ H R) (hn : n ≤ 2 ^ 60) (hn0 : -(2 ^ 60) ≤ n) (h0 : Pv 0 σ H)
    (hs : ∀ (j : Nat) σ H, (j : Int) < n → Pv j σ H → tb { D with nx := Pv (j + 1), ct := Pv (j + 1), bk := D.nx } (σ.set i (some (.int (j : Nat)))) H) (hd : ∀ σ H, Pv n.toNat σ H → D.nx σ H)
    (hg : g = gName i := by rfl) : tFor (iRng1 ta) g tb D σ H := by
  subst hg
  refine ht _ ⟨n, rfl, by omega, by omega, for_range (lo := 0) (n := n.toNat) Pv h0 (fun j σ H hj p => ?_) hd⟩
  have e : (0 : Int) + (j : Nat) = (j : Nat) := Int.zero_add _
  rw [e]
  exact hs j σ H (by omega) p
theorem forE {K : PySem.W.Frag} {ta : TA} {g : TG} {tb : TS} {D : Ends} {σ : L2.St} {H : Hp} {a : Addr} {xs : List V} (i1 i2 : Nat) (Pv : Nat → L2.St → Hp → Prop) (ht : ∀ R : List V → Hp → Prop, R [.ref a] H → ta σ H R) (hS : SqL K H a xs) (h0 : Pv 0 σ H)
    (hl : ∀ j σ H, Pv j σ H → SqL K H a xs) (hx : ∀ j σ H T o, Pv j σ H → H T = none → Pv j σ (upd H T o))
    (hs : ∀ j x σ H, xs[j]? = some x → Pv j σ H → tb { D with nx := Pv (j + 1), ct := Pv (j + 1), bk := D.nx } ((σ.set i1 (some (.int (j : Nat)))).set i2 (some x)) H) (hd : ∀ σ H, Pv xs.length σ H → D.nx σ H)
    (hg : g = gTup K 2 (gCons (gName i1) (gCons (gName i2) gNil)) := by rfl) : tFor (iEnum K ta) g tb D σ H := by
  subst hg
  refine ht _ ⟨a, xs, rfl, hS, fun i m σ H => m = xs.length - i ∧ i ≤ xs.length ∧ Pv i σ H, ⟨xs.length, by simp, Nat.zero_le _, h0⟩, ?_⟩
  rintro i m σ H ⟨rfl, hi, p⟩
  have q := hl i σ H p
  by_cases hlt : i < xs.length
  · refine .inr ⟨⟨xs, xs[i], q, by simp [hlt]⟩, Pv (i + 1), fun σ' H' p' => ⟨xs.length - (i + 1), by omega, rfl, hlt, p'⟩, fun x H' y => ?_⟩
    obtain ⟨T, x', rfl, hT, rfl, hq⟩ := y
    exact ⟨T, _, rfl, SqT.of upd_same, rfl, _, _, rfl, _, _, rfl, rfl, hs i x' σ _ (hq xs q) (hx i σ H T _ p hT)⟩
  · have e : i = xs.length := by omega
    subst e
    exact .inl ⟨⟨xs, q, Nat.le_refl _⟩, hd σ H p⟩
/-- what a comprehension makes: item by item -/
def Made (n : Nat) (P : Nat → V → Hp → Prop) (ys : List V) (H : Hp) : Prop := ys.length = n ∧ ∀ j, j < n → ∃ v, ys[j]? = some v ∧ P j v H
theorem Made.more {n : Nat} {P : Nat → V → Hp → Prop} {ys : List V} {H H' : Hp} {v : V} (h : Made n P ys H) (hP : ∀ j v, P j v H → P j v H') (hv : P n v H') : Made (n + 1) P (ys ++ [v]) H' := by
  obtain ⟨h1, h2⟩ := h
  refine ⟨by rw [List.length_append, h1]; rfl, fun j hj => ?_⟩
  by_cases e : j < n
  · obtain ⟨u, e1, e2⟩ := h2 j e
    exact ⟨u, by rw [List.getElem?_append_left (by omega)]; exact e1, hP _ _ e2⟩
  · have e' : j = n := by omega
    subst e'
    exact ⟨v, by rw [List.getElem?_append_right (by omega), h1, Nat.sub_self]; rfl, hv⟩
theorem Made.ints {n : Nat} {f : Nat → Int} {ys : List V} {H : Hp} (h : Made n (fun j v _ => v = .int (f j)) ys H) : ys = ((List.range n).map f).map V.int := by
  obtain ⟨h1, h2⟩ := h
  apply List.ext_getElem?
  intro j
  by_cases hj : j < n
  · obtain ⟨v, e1, e2⟩ := h2 j hj
    rw [e1, e2, List.map_map, List.getElem?_map, List.getElem?_range hj]
    rfl
  · rw [List.getElem?_eq_none (by omega), List.getElem?_eq_none (by simp; omega)]
theorem Made.bls {n : Nat} {f : Nat → Bool} {ys : List V} {H : Hp} (h : Made n (fun j v _ => v = .bl (f j)) ys H) : ys = ((List.range n).map f).map V.bl := by
  obtain ⟨h1, h2⟩ := h
  apply List.ext_getElem?
  intro j
  by_cases hj : j < n
  · obtain ⟨v, e1, e2⟩ := h2 j hj
    rw [e1, e2, List.map_map, List.getElem?_map, List.getElem?_range hj]
    rfl
  · rw [List.getElem?_eq_none (by omega), List.getElem?_eq_none (by simp; omega)]
theorem Made.all {K : PySem.W.Frag} {H : Hp} : ∀ {n : Nat} {ds : List PyData} {ys : List V}, Made n (fun j v H => ∃ d, ds[j]? = some d ∧ Dp K H v d) ys H → ds.length = n → DpAll K H ys ds
  | _, [], ys, h, e => by
    obtain ⟨h1, _⟩ := h
    have : ys = [] := List.length_eq_zero_iff.mp (by rw [h1, ← e]; rfl)
    subst this
    exact .nil
  | n, d :: ds, ys, h, e => by
    obtain ⟨h1, h2⟩ := h
    subst e
    cases ys with
    | nil => simp at h1
    | cons y ys =>
      obtain ⟨v, e1, d', e2, e3⟩ := h2 0 (by simp)
      simp at e1 e2
      subst e1 e2
      refine .cons e3 (Made.all (n := ds.length) ⟨by simpa using h1, fun j hj => ?_⟩ rfl)
      obtain ⟨v, e1, e2⟩ := h2 (j + 1) (by simp; omega)
      exact ⟨v, by simpa using e1, by simpa using e2⟩
/-! ### a heap without some objects -/
def wo (B : List Addr) (H : Hp) : Hp := fun b => if b ∈ B then none else H b
theorem wo_get {B : List Addr} {H : Hp} {b : Addr} (h : b ∉ B) : wo B H b = H b := if_neg h
theorem wo_nil {H : Hp} : wo [] H = H := funext fun _ => if_neg (List.not_mem_nil)
theorem wo_ex {B : List Addr} {H : Hp} : Ex (wo B H) H := fun b o h => by
  unfold wo at h
  split at h
  · cases h
  · exact h
theorem Ex.wo {B : List Addr} {H H' : Hp} (e : Ex H H') : Ex (wo B H) (wo B H') := fun b o h => by
  unfold My.wo at h ⊢
  split at h
  · cases h
  · rename_i z
    rw [if_neg z]
    exact e b o h
theorem Ex.woN {B : List Addr} {H H' : Hp} (e : Ex H H') (h : ∀ b, b ∈ B → H b = none) : Ex H (My.wo B H') := fun b o hb => by
  rw [wo_get (fun z => by rw [h b z] at hb; cases hb)]
  exact e b o hb
theorem wo_upd {B : List Addr} {H : Hp} {p : Addr} {o : HO} (h : p ∈ B) : wo B (upd H p o) = wo B H := funext fun b => by
  unfold wo
  split
  · rfl
  · rename_i z
    exact upd_ne fun e => z (e ▸ h)
theorem wo_wo {B C : List Addr} {H : Hp} : wo B (wo C H) = wo (C ++ B) H := funext fun b => by
  unfold wo
  by_cases h1 : b ∈ B <;> by_cases h2 : b ∈ C <;> simp [h1, h2]
theorem wo_mono {B C : List Addr} {H : Hp} (h : ∀ b, b ∈ C → b ∈ B) : Ex (wo B H) (wo C H) := fun b o hb => by
  unfold wo at hb ⊢
  split at hb
  · cases hb
  · rename_i z
    rw [if_neg fun q => z (h b q)]
    exact hb
theorem there_not {B : List Addr} {H : Hp} (h : ∀ b, b ∈ B → H b ≠ none) {p : Addr} (hp : H p = none) : p ∉ B := fun z => h p z hp
theorem Ex.there {H H' : Hp} (e : Ex H H') {b : Addr} (h : H b ≠ none) : H' b ≠ none := by
  cases q : H b with
  | none => exact absurd q h
  | some o =>
    rw [e b o q]
    exact fun z => by cases z
/-- [e for i in range(n)]: the new list at D; what an item is told of is not D -/
theorem lcR {ta : TA} {g : TG} {tt : TT} {te : TE} {vs : List Nat} {σ : L2.St} {H : Hp} {Q : VK} {n : Int} (i : Nat) (P : Nat → V → Hp → Prop) (ht : ∀ R : List V → Hp → Prop, R [.int n] H → ta σ H R) (hn0 : 0 ≤ n) (hn : n ≤ 100000)
    (hP : ∀ j v H H', Ex H H' → P j v H → P j v H')
    (hw : ∀ x, wipe ((wipe σ vs).set i (some x)) vs = wipe σ vs)
    (he : ∀ (j : Nat) D H1 (Q1 : VK), (j : Int) < n → H D = none → H1 D ≠ none → Ex H (wo [D] H1) → (∀ v H2, Ex H1 H2 → P j v (wo [D] H2) → Q1 v H2) → te ((wipe σ vs).set i (some (.int (j : Nat)))) H1 Q1)
    (k : ∀ D H' ys, H D = none → Ex H (wo [D] H') → H' D = some (.lst ys) → Made n.toNat P ys (wo [D] H') → Q (.ref D) H')
    (hg : g = gName i := by rfl) (htt : tt = tYes := by rfl) : tLc (iRng1 ta) g tt te vs σ H Q := by
  subst hg htt
  refine ht _ ⟨n, rfl, by omega, by omega, fun D hD => ?_⟩
  refine lc_range (lo := 0) (n := n.toNat) (fun j H' => Ex H (wo [D] H') ∧ ∃ ys, H' D = some (.lst ys) ∧ Made j P ys (wo [D] H')) ⟨?_, [], upd_same, rfl, fun j hj => absurd hj (Nat.not_lt_zero j)⟩ (fun j H' hj p => ?_) (fun H' p => ?_)
  · exact (Ex.new hD).woN fun b hb => by rw [List.mem_singleton.mp hb]; exact hD
  · obtain ⟨e, ys, hy, hm⟩ := p
    have e0 : (0 : Int) + (j : Nat) = (j : Nat) := Int.zero_add _
    rw [e0]
    refine ⟨hw _, ?_⟩
    simp only [tYes, if_true]
    refine he j D H' _ (by omega) hD (by rw [hy]; exact fun z => by cases z) e (fun v H2 e2 hv => ⟨ys, e2 _ _ hy, ?_, ?_, ys ++ [v], upd_same, ?_⟩)
    · rw [hm.1]
      exact Nat.lt_of_lt_of_le (show j < 100000 by omega) (by decide)
    · rw [wo_upd (List.mem_singleton.mpr rfl)]
      exact e.trans e2.wo
    · rw [wo_upd (List.mem_singleton.mpr rfl)]
      exact hm.more (fun j u hu => hP _ _ _ _ e2.wo hu) hv
  · obtain ⟨e, ys, hy, hm⟩ := p
    exact k D H' ys hD e hy hm
/-- [e for x in t], t a tuple -/
theorem lcT {K : PySem.W.Frag} {tl : TE} {g : TG} {tt : TT} {te : TE} {vs : List Nat} {σ : L2.St} {H : Hp} {Q : VK} {a : Addr} {xs : List V} (i : Nat) (P : Nat → V → Hp → Prop) (ht : ∀ R : VK, R (.ref a) H → tl σ H R) (hS : SqT K H a xs) (hn : xs.length ≤ 100000)
    (hP : ∀ j v H H', Ex H H' → P j v H → P j v H')
    (hw : ∀ x, wipe ((wipe σ vs).set i (some x)) vs = wipe σ vs)
    (he : ∀ (j : Nat) x D H1 (Q1 : VK), xs[j]? = some x → H D = none → H1 D ≠ none → Ex H (wo [D] H1) → (∀ v H2, Ex H1 H2 → P j v (wo [D] H2) → Q1 v H2) → te ((wipe σ vs).set i (some x)) H1 Q1)
    (k : ∀ D H' ys, H D = none → Ex H (wo [D] H') → H' D = some (.lst ys) → Made xs.length P ys (wo [D] H') → Q (.ref D) H')
    (hg : g = gName i := by rfl) (htt : tt = tYes := by rfl) : tLc (iTup K tl) g tt te vs σ H Q := by
  subst hg htt
  refine ht _ ⟨a, rfl, ⟨xs, hS⟩, fun D hD => ?_⟩
  refine lc_tup (xs := xs) (fun j H' => j ≤ xs.length ∧ Ex H (wo [D] H') ∧ ∃ ys, H' D = some (.lst ys) ∧ Made j P ys (wo [D] H')) ⟨Nat.zero_le _, ?_, [], upd_same, rfl, fun j hj => absurd hj (Nat.not_lt_zero j)⟩ (fun j H' _ p => ?_) (fun j x H' hx p => ?_) (fun H' p => ?_)
  · exact (Ex.new hD).woN fun b hb => by rw [List.mem_singleton.mp hb]; exact hD
  · exact Ex.sqT (Same.trans p.2.1 wo_ex) hS
  · obtain ⟨hj, e, ys, hy, hm⟩ := p
    have hjl : j < xs.length := (List.getElem?_eq_some_iff.mp hx).1
    refine ⟨hw _, ?_⟩
    simp only [tYes, if_true]
    refine he j x D H' _ hx hD (by rw [hy]; exact fun z => by cases z) e (fun v H2 e2 hv => ⟨ys, e2 _ _ hy, ?_, hjl, ?_, ys ++ [v], upd_same, ?_⟩)
    · rw [hm.1]
      exact Nat.lt_of_lt_of_le (show j < 100000 by omega) (by decide)
    · rw [wo_upd (List.mem_singleton.mpr rfl)]
      exact e.trans e2.wo
    · rw [wo_upd (List.mem_singleton.mpr rfl)]
      exact hm.more (fun j u hu => hP _ _ _ _ e2.wo hu) hv
  · obtain ⟨_, e, ys, hy, hm⟩ := p
    exact k D H' ys hD e hy hm
/-- [e for x in l], l a list; what tl makes on the way stands in H0 -/
theorem lcL {K : PySem.W.Frag} {tl : TE} {g : TG} {tt : TT} {te : TE} {vs : List Nat} {σ : L2.St} {H0 H : Hp} {Q : VK} {a : Addr} {xs : List V} (i : Nat) (P : Nat → V → Hp → Prop) (ht : ∀ R : VK, R (.ref a) H → tl σ H0 R) (hS : SqL K H a xs) (hn : xs.length ≤ 100000)
    (hP : ∀ j v H H', Ex H H' → P j v H → P j v H')
    (hw : ∀ x, wipe ((wipe σ vs).set i (some x)) vs = wipe σ vs)
    (he : ∀ (j : Nat) x D H1 (Q1 : VK), xs[j]? = some x → H D = none → H1 D ≠ none → Ex H (wo [D] H1) → (∀ v H2, Ex H1 H2 → P j v (wo [D] H2) → Q1 v H2) → te ((wipe σ vs).set i (some x)) H1 Q1)
    (k : ∀ D H' ys, H D = none → Ex H (wo [D] H') → H' D = some (.lst ys) → Made xs.length P ys (wo [D] H') → Q (.ref D) H')
    (hg : g = gName i := by rfl) (htt : tt = tYes := by rfl) : tLc (iList K tl) g tt te vs σ H0 Q := by
  subst hg htt
  refine ht _ ⟨a, rfl, ⟨xs, hS⟩, fun D hD => ?_⟩
  refine lc_list (xs := xs) (fun j H' => j ≤ xs.length ∧ Ex H (wo [D] H') ∧ ∃ ys, H' D = some (.lst ys) ∧ Made j P ys (wo [D] H')) ⟨Nat.zero_le _, ?_, [], upd_same, rfl, fun j hj => absurd hj (Nat.not_lt_zero j)⟩ (fun j H' _ p => ?_) (fun j x H' hx p => ?_) (fun H' p => ?_)
  · exact (Ex.new hD).woN fun b hb => by rw [List.mem_singleton.mp hb]; exact hD
  · exact Ex.sqL (Same.trans p.2.1 wo_ex) hS
  · obtain ⟨hj, e, ys, hy, hm⟩ := p
    have hjl : j < xs.length := (List.getElem?_eq_some_iff.mp hx).1
    refine ⟨hw _, ?_⟩
    simp only [tYes, if_true]
    refine he j x D H' _ hx hD (by rw [hy]; exact fun z => by cases z) e (fun v H2 e2 hv => ⟨ys, e2 _ _ hy, ?_, hjl, ?_, ys ++ [v], upd_same, ?_⟩)
    · rw [hm.1]
      exact Nat.lt_of_lt_of_le (show j < 100000 by omega) (by decide)
    · rw [wo_upd (List.mem_singleton.mpr rfl)]
      exact e.trans e2.wo
    · rw [wo_upd (List.mem_singleton.mpr rfl)]
      exact hm.more (fun j u hu => hP _ _ _ _ e2.wo hu) hv
  · obtain ⟨_, e, ys, hy, hm⟩ := p
    exact k D H' ys hD e hy hm
/-- [e for x in l], l a new list -/
theorem lcLN {K : PySem.W.Frag} {tl : TE} {g : TG} {tt : TT} {te : TE} {vs : List Nat} {σ : L2.St} {H0 : Hp} {Q : VK} {xs : List V} (i : Nat) (P : Nat → V → Hp → Prop) (ht : ∀ R : VK, (∀ a, H0 a = none → R (.ref a) (upd H0 a (.lst xs))) → tl σ H0 R) (hn : xs.length ≤ 100000)
    (hP : ∀ j v H H', Ex H H' → P j v H → P j v H')
    (hw : ∀ x, wipe ((wipe σ vs).set i (some x)) vs = wipe σ vs)
    (he : ∀ (j : Nat) x D H1 (Q1 : VK), xs[j]? = some x → H0 D = none → H1 D ≠ none → Ex H0 (wo [D] H1) → (∀ v H2, Ex H1 H2 → P j v (wo [D] H2) → Q1 v H2) → te ((wipe σ vs).set i (some x)) H1 Q1)
    (k : ∀ D H' ys, H0 D = none → Ex H0 (wo [D] H') → H' D = some (.lst ys) → Made xs.length P ys (wo [D] H') → Q (.ref D) H')
    (hg : g = gName i := by rfl) (htt : tt = tYes := by rfl) : tLc (iList K tl) g tt te vs σ H0 Q := by
  subst hg htt
  refine ht _ fun a ha => ⟨a, rfl, ⟨xs, SqL.of upd_same⟩, fun D hD => ?_⟩
  have hS : SqL K (upd H0 a (.lst xs)) a xs := SqL.of upd_same
  have eH : Ex H0 (upd H0 a (.lst xs)) := Ex.new ha
  have hD0 : H0 D = none := eH.free hD
  generalize upd H0 a (.lst xs) = H at hS hD eH
  refine lc_list (xs := xs) (fun j H' => j ≤ xs.length ∧ Ex H (wo [D] H') ∧ ∃ ys, H' D = some (.lst ys) ∧ Made j P ys (wo [D] H')) ⟨Nat.zero_le _, ?_, [], upd_same, rfl, fun j hj => absurd hj (Nat.not_lt_zero j)⟩ (fun j H' _ p => ?_) (fun j x H' hx p => ?_) (fun H' p => ?_)
  · exact (Ex.new hD).woN fun b hb => by rw [List.mem_singleton.mp hb]; exact hD
  · exact Ex.sqL (Same.trans p.2.1 wo_ex) hS
  · obtain ⟨hj, e, ys, hy, hm⟩ := p
    have hjl : j < xs.length := (List.getElem?_eq_some_iff.mp hx).1
    refine ⟨hw _, ?_⟩
    simp only [tYes, if_true]
    refine he j x D H' _ hx hD0 (by rw [hy]; exact fun z => by cases z) (eH.trans e) (fun v H2 e2 hv => ⟨ys, e2 _ _ hy, ?_, hjl, ?_, ys ++ [v], upd_same, ?_⟩)
    · rw [hm.1]
      exact Nat.lt_of_lt_of_le (show j < 100000 by omega) (by decide)
    · rw [wo_upd (List.mem_singleton.mpr rfl)]
      exact e.trans e2.wo
    · rw [wo_upd (List.mem_singleton.mpr rfl)]
      exact hm.more (fun j u hu => hP _ _ _ _ e2.wo hu) hv
  · obtain ⟨_, e, ys, hy, hm⟩ := p
    exact k D H' ys hD0 (eH.trans e) hy hm
theorem wo_off {H : Hp} {D : Addr} (h : H D = none) : wo [D] H = H := funext fun b => by
  unfold wo
  split
  · rename_i z
    rw [List.mem_singleton.mp z, h]
  · rfl
theorem wo_comm {B C : List Addr} {H : Hp} : wo B (wo C H) = wo C (wo B H) := funext fun b => by
  unfold wo
  by_cases h1 : b ∈ B <;> by_cases h2 : b ∈ C <;> simp [h1, h2]
/-- [e for i in range(n)], where e may change the objects of B; J is what holds of them -/
theorem lcRB {ta : TA} {g : TG} {tt : TT} {te : TE} {vs : List Nat} {σ : L2.St} {H : Hp} {Q : VK} {n : Int} (i : Nat) (B : List Addr) (J : Hp → Prop) (P : Nat → V → Hp → Prop) (ht : ∀ R : List V → Hp → Prop, R [.int n] H → ta σ H R) (hn0 : 0 ≤ n) (hn : n ≤ 100000)
    (hP : ∀ j v H H', Ex H H' → P j v H → P j v H')
    (hw : ∀ x, wipe ((wipe σ vs).set i (some x)) vs = wipe σ vs) (hJ : J H)
    (he : ∀ (j : Nat) D H1 (Q1 : VK), (j : Int) < n → H D = none → H1 D ≠ none → Ex (wo B H) (wo B (wo [D] H1)) → J (wo [D] H1) →
      (∀ v H2, H2 D = H1 D → Ex (wo B (wo [D] H1)) (wo B (wo [D] H2)) → J (wo [D] H2) → P j v (wo B (wo [D] H2)) → Q1 v H2) → te ((wipe σ vs).set i (some (.int (j : Nat)))) H1 Q1)
    (k : ∀ D H' ys, H D = none → Ex (wo B H) (wo B (wo [D] H')) → J (wo [D] H') → H' D = some (.lst ys) → Made n.toNat P ys (wo B (wo [D] H')) → Q (.ref D) H')
    (hg : g = gName i := by rfl) (htt : tt = tYes := by rfl) : tLc (iRng1 ta) g tt te vs σ H Q := by
  subst hg htt
  refine ht _ ⟨n, rfl, by omega, by omega, fun D hD => ?_⟩
  refine lc_range (lo := 0) (n := n.toNat) (fun j H' => Ex (wo B H) (wo B (wo [D] H')) ∧ J (wo [D] H') ∧ ∃ ys, H' D = some (.lst ys) ∧ Made j P ys (wo B (wo [D] H'))) ⟨?_, ?_, [], upd_same, rfl, fun j hj => absurd hj (Nat.not_lt_zero j)⟩ (fun j H' hj p => ?_) (fun H' p => ?_)
  · rw [wo_upd (List.mem_singleton.mpr rfl), wo_off hD]
    exact Same.refl _
  · rw [wo_upd (List.mem_singleton.mpr rfl), wo_off hD]
    exact hJ
  · obtain ⟨e, hj1, ys, hy, hm⟩ := p
    have e0 : (0 : Int) + (j : Nat) = (j : Nat) := Int.zero_add _
    rw [e0]
    refine ⟨hw _, ?_⟩
    simp only [tYes, if_true]
    refine he j D H' _ (by omega) hD (by rw [hy]; exact fun z => by cases z) e hj1 (fun v H2 hD2 e2 hj2 hv => ⟨ys, hD2.trans hy, ?_, ?_, ?_, ys ++ [v], upd_same, ?_⟩)
    · rw [hm.1]
      exact Nat.lt_of_lt_of_le (show j < 100000 by omega) (by decide)
    · rw [wo_upd (List.mem_singleton.mpr rfl)]
      exact e.trans e2
    · rw [wo_upd (List.mem_singleton.mpr rfl)]
      exact hj2
    · rw [wo_upd (List.mem_singleton.mpr rfl)]
      exact hm.more (fun j u hu => hP _ _ _ _ e2 hu) hv
  · obtain ⟨e, hj1, ys, hy, hm⟩ := p
    exact k D H' ys hD e hj1 hy hm
/-! ### isinstance of the exception that a suite holds -/
def rIsE2 (K : PySem.W.Frag) (D a : Addr) (cls : Value) (d : Option Addr) : List V → Hp → VK → Prop := fun xs H Q => cls = .ref D ∧ d = none ∧ rIsE K D a xs H Q
theorem call_isE2 {X : Cx} {a D : Addr} {oe : Obj} {pn : List (Addr × Obj)} {cls : Value} {d : Option Addr} (C : ExcC X.K D) (hz : Zc cls d oe) (hf : ∃ vs, oe.data = .fields vs) :
    CallR (X.suite a ((a, oe) :: pn)) (.builtin "isinstance") (rIsE2 X.K D a cls d) := by
  intro pins s σ H xs us Q I r h
  obtain ⟨rfl, rfl, h⟩ := h
  exact call_isE C hz hf pins s σ H xs us Q I r h
end My

namespace My
open PySem PySem.Spec PyProof.Rows L2
theorem tuple_mul1 (l : Addr) (items : Array Value) (n : Nat) (dd : Option Addr) (sl : Array (Option Value)) (u : Tok) :
    Meets (Builtin.«tuple.__mul__» ⟨[.ref l, .int 1 u], []⟩) (fun _ R s => s.heap.get? l = some { cls := .type "tuple", dict := dd, data := .seq items n, slots := sl } ∧ R (.ok (.ret (Value.ref l))) s) :=
  .of_wp fun prog w A R s h => by
    obtain ⟨hp, g, d, tk, os⟩ := s
    obtain ⟨hl, h⟩ := h
    have f1 := AutoSeq1.idx_int
    have c1 : (items.isEmpty || (1 : Int) == 1) = true := by simp
    wp_walk using wpAny_loadPart' hl
    repeat (first
      | (refine wpAny_ite_true (by rw [c1]) ?_; wp_walk using wpAny_loadPart' hl)
      | (refine wpAny_ite_true (decide_eq_true (by rw [c1])) ?_; wp_walk using wpAny_loadPart' hl))
    exact ⟨_, rfl, h⟩
theorem tuple_mul0 (l : Addr) (items : Array Value) (n : Nat) (dd : Option Addr) (sl : Array (Option Value)) (u : Tok) (hn : items.isEmpty = false) :
    Meets (Builtin.«tuple.__mul__» ⟨[.ref l, .int 0 u], []⟩) (fun _ R s => s.heap.get? l = some { cls := .type "tuple", dict := dd, data := .seq items n, slots := sl } ∧
      R (.ok (.ret (Value.ref s.heap.objs.size))) { s with heap := s.heap.push { cls := Value.type "tuple", data := Data.seq #[] }, toks := s.toks }) :=
  .of_wp fun prog w A R s h => by
    obtain ⟨hp, g, d, tk, os⟩ := s
    obtain ⟨hl, h⟩ := h
    have f1 := AutoSeq1.idx_int
    have c1 : (items.isEmpty || (0 : Int) == 1) = false := by rw [hn]; rfl
    wp_walk using wpAny_loadPart' hl
    exact ⟨_, rfl, h⟩
/-- t * k, k not below 0: once is t itself -/
def rRepT2 (K : PySem.W.Frag) : R2 := fun x y H Q => ∃ l k xs, x = .ref l ∧ y = .int k ∧ SqT K H l xs ∧ xs ≠ [] ∧ 0 ≤ k ∧ k ≤ 1000 ∧ xs.length ≤ 1000 ∧ (k = 1 → Q (.ref l) H) ∧ (k ≠ 1 → ∀ p, H p = none → Q (.ref p) (upd H p (.tup (List.replicate k.toNat xs).flatten)))
theorem op_repT2 {X : Cx} : OpR X (binaryOp .Mult) (rRepT2 X.K) := by
  intro pins s σ H x y v u Q I rx ry h
  obtain ⟨l, k, xs, rfl, rfl, hT, hne, h1, h2, hz, q1, q2⟩ := h
  by_cases k1 : k = 1
  · subst k1
    cases rx
    obtain ⟨t, rfl⟩ := ry
    obtain ⟨its, r, ⟨⟨cls, dd, data, sl⟩, ho, hc, n, hd⟩, hs⟩ := I.tuple hT
    simp only at hc hd
    subst hc hd
    exact wpAny_binaryOp_repeat_ref (T := "tuple") (U := "int") (by decide) ⟨_, ho, rfl⟩ (fun s' => typeIs_int s' 1 t) noFill_tuple_mul F.fills_int_mul F.slot_int_rmul repeat_tuple F.slot_int_index.lookup
      (call_meets F.slot_int_rmul (typeIs_int s 1 t) F.entry_int_rmul (F.args_int_rmul_2 _ _) (int_rmul_tuple 1 t l its.toArray n dd sl)
        ⟨ho, rfl, ⟨_, ho, rfl⟩, call_meets F.slot_tuple_mul ⟨_, ho, rfl⟩ F.entry_tuple_mul (F.args_tuple_mul_2 _ _) (tuple_mul1 l its.toArray n dd sl t) ⟨ho, ⟨.ref l, H, I, rfl, q1 rfl⟩⟩⟩)
  · by_cases k0 : k = 0
    · subst k0
      cases rx
      obtain ⟨t, rfl⟩ := ry
      obtain ⟨its, r, ⟨⟨cls, dd, data, sl⟩, ho, hc, n, hd⟩, hs⟩ := I.tuple hT
      simp only at hc hd
      subst hc hd
      have hi : its.toArray.isEmpty = false := by
        cases its with
        | nil =>
          cases r
          exact absurd rfl hne
        | cons a b => rfl
      exact wpAny_binaryOp_repeat_ref (T := "tuple") (U := "int") (by decide) ⟨_, ho, rfl⟩ (fun s' => typeIs_int s' 0 t) noFill_tuple_mul F.fills_int_mul F.slot_int_rmul repeat_tuple F.slot_int_index.lookup
        (call_meets F.slot_int_rmul (typeIs_int s 0 t) F.entry_int_rmul (F.args_int_rmul_2 _ _) (int_rmul_tuple 0 t l its.toArray n dd sl)
          ⟨ho, rfl, ⟨_, ho, rfl⟩, call_meets F.slot_tuple_mul ⟨_, ho, rfl⟩ F.entry_tuple_mul (F.args_tuple_mul_2 _ _) (tuple_mul0 l its.toArray n dd sl t hi)
            ⟨ho, ⟨.ref s.heap.objs.size, _, I.laid (t' := s.toks) (o := .tup []) (fun b ob q => Heap.get?_push_of_some _ q) (Nat.le_refl _) ⟨by show 0 ≤ sizeLine; decide, [], .nil, IsTup.new _ _⟩, rfl, q2 k1 _ (I.hok.fresh (Nat.le_refl _))⟩⟩⟩)
    · exact op_repT pins s σ H _ _ v u Q I rx ry ⟨l, k, xs, rfl, rfl, hT, hne, by omega, h2, hz, q2 k1⟩
/-! ### tuples and dicts of the written part -/
def TupObj (o : Obj) (xs : List V) : Prop := o.cls = .type "tuple" ∧ ∃ (its : Array Value) (n : Nat), o.data = .seq its n ∧ its.size ≤ sizeLine ∧ Vals xs its.toList
def KTup (K : PySem.W.Frag) (a : Addr) (xs : List V) : Prop := ∃ o, K.lookup a = some o ∧ TupObj o xs
theorem KTup.sq {K : PySem.W.Frag} {a : Addr} {xs : List V} (h : KTup K a xs) (H : Hp) : SqT K H a xs := by
  obtain ⟨o, h1, h2, its, n, h3, h4, h5⟩ := h
  exact .inr ⟨o, its, n, h1, h2, h3, h4, h5⟩
def KeyOrd : List DictEntry → List Str → Prop
  | [], [] => True
  | e :: r, x :: xs => (∃ t, e.key = .str x t) ∧ KeyOrd r xs
  | _, _ => False
theorem KeyOrd.get : ∀ {es : List DictEntry} {ks : List Str} {i : Nat} {x : Str}, KeyOrd es ks → ks[i]? = some x → ∃ e t, es[i]? = some e ∧ e.key = .str x t
  | [], [], i, x, _, h => by simp at h
  | e :: r, y :: ys, 0, x, h, q => by
    obtain ⟨⟨t, h1⟩, _⟩ := h
    have e1 : y = x := Option.some.inj q
    subst e1
    exact ⟨e, t, rfl, h1⟩
  | e :: r, y :: ys, i + 1, x, h, q => by
    obtain ⟨e', t, h1, h2⟩ := KeyOrd.get (es := r) (ks := ys) (i := i) (x := x) h.2 (by simpa using q)
    exact ⟨e', t, by simpa using h1, h2⟩
  | [], _ :: _, _, _, h, _ => h.elim
  | _ :: _, [], _, _, h, _ => h.elim
theorem KeyOrd.len : ∀ {es : List DictEntry} {ks : List Str}, KeyOrd es ks → es.length = ks.length
  | [], [], _ => rfl
  | e :: r, y :: ys, h => by rw [List.length_cons, List.length_cons, KeyOrd.len h.2]
  | [], _ :: _, h => h.elim
  | _ :: _, [], h => h.elim
structure KDt (K : PySem.W.Frag) (w : World) (d : Addr) (kvs : List (Str × Int)) : Prop where
  all : ∀ p ∈ kvs, KDct K w d p.1 (.int p.2)
  keys : ∃ es n, K.lookup d = some ⟨.type "dict", none, .dict es n, #[]⟩ ∧ (d == sysModules) = false ∧ KeyOrd es.toList (kvs.map (·.1))
/-- the keys of a written dict, in their order -/
def KKeys (K : PySem.W.Frag) (d : Addr) (ks : List Str) : Prop := ∃ es n, K.lookup d = some ⟨.type "dict", none, .dict es n, #[]⟩ ∧ (d == sysModules) = false ∧ KeyOrd es.toList ks
def Itkk (ks : List Str) : It := ⟨fun i _ => i < ks.length, fun i H x H' => H' = H ∧ ∃ k, ks[i]? = some k ∧ x = .str k, fun i _ => ks.length ≤ i⟩
theorem turn_kkeys {P : Program} {w : World} {K : PySem.W.Frag} {tg : Expr} {d : Addr} {ks : List Str} {es : Array DictEntry} {n : Nat} (it : Addr) (hl : K.lookup d = some ⟨.type "dict", none, .dict es n, #[]⟩) (ho : KeyOrd es.toList ks) :
    Turn P w K tg (Itkk ks) [it] it (fun i h => h.IsKeyIter it d i ks.length n) where
  mem := by simp
  obj := fun i h st b hb => by
    have e : b = it := by simpa using hb
    subst e
    obtain ⟨oi, e, c, dd⟩ := st
    exact ⟨oi, e, fun v z => by rw [dd] at z; cases z⟩
  keep := fun i h h' st k => st.at fun oi e => k it (by simp) oi e
  item := by
    intro X hP hw hK hc i pins s σ H E I hf st hg
    subst hP hw hK
    obtain ⟨f0, f1, f2, f3, f4, f5⟩ := hf it (by simp)
    have hgd := I.kIn _ _ hl
    have hks : ks[i]? = some ks[i] := List.getElem?_eq_getElem hg
    obtain ⟨en, t, hen, hkey⟩ := ho.get hks
    have hsz : es.size = ks.length := by
      have := ho.len
      simpa using this
    refine next_key_item st hgd rfl hsz (en := en) (by simpa using hen) fun h' st' sb => ?_
    have I1 : Inv X pins σ H { s with heap := h' } := I.turned (t' := s.toks) (fun b ob hb e => (sb.2 b hb).trans e) f0 f1 f3 f4 f5
    obtain ⟨oi, e, c, dd⟩ := id st'
    exact ⟨en.key, rfl, go_of (s := { s with heap := h' }) e c dd (by decide) ⟨.str ks[i], H, I1, ⟨t, hkey⟩, ⟨rfl, _, hks, rfl⟩, st', fun b hb => (hf b hb).1⟩⟩
  done := by
    intro X hP hw hK hc i pins s σ H E I hf st hg
    subst hP hw hK
    obtain ⟨f0, f1, f2, f3, f4, f5⟩ := hf it (by simp)
    have hgd := I.kIn _ _ hl
    have hsz : es.size = ks.length := by
      have := ho.len
      simpa using this
    exact next_key_end (I.ok.hd hc) st hgd rfl hsz hg fun h' eb => ⟨rfl, I.turned (t' := s.toks) (fun b ob hb e => eb b ob hb e) f0 f1 f3 f4 f5⟩
  self := fun A i s Q E st h => wpAny_pyIter_keyiter st h
def iKKeys (K : PySem.W.Frag) (td : TE) : TI := fun σ H R => td σ H fun x H1 => ∃ d ks, x = .ref d ∧ KKeys K d ks ∧ R (Itkk ks) H1
theorem pi_kkeys {X : Cx} {tg e : Expr} {td : TE} (he : PE X e td) : PI X tg e (iKKeys X.K td) := by
  refine ⟨fun pins s σ H R I h => ?_⟩
  refine thn (he.run pins s σ H _ I h) fun u s1 ⟨x, H1, I1, rx, d, ks, ex, ⟨es, n, hl, hd, ho⟩, q⟩ => ?_
  subst ex
  obtain rfl : u = Value.ref d := rx
  have hsz : es.size = ks.length := by
    have := ho.len
    simpa using this
  refine iter_keys hd (I1.kIn _ _ hl) ⟨rfl, rfl, rfl⟩ rfl (pi_one (tk := s1.toks) I1 _ (turn_kkeys _ hl ho) ⟨_, Heap.get?_push_size _ rfl, rfl, ?_⟩ q)
  rw [hsz]
  rfl
end My

namespace My
open PySem PySem.Spec PyProof.Rows L2
/-! ### the mathematics -/
def bitsL (n : Int) (m : Nat) : List Int := (List.range m).map fun i => n / 2 ^ i % 2
def numOf : List Int → Int
  | [] => 0
  | b :: r => b + 2 * numOf r
def highOf (l : List Int) : Int := l.foldl (fun f b => 2 * f + b) 0
def Bit (l : List Int) : Prop := ∀ b ∈ l, b = 0 ∨ b = 1
def okD : Nat → PyData → Prop
  | _, .none => True
  | _, .bool _ => True
  | _, .int _ => True
  | _, .str _ => True
  | 0, .list _ => False
  | 0, .tuple _ => False
  | n + 1, .list ds => ds.length ≤ 1000 ∧ ∀ d ∈ ds, okD n d
  | n + 1, .tuple ds => ds.length ≤ 1000 ∧ ∀ d ∈ ds, okD n d
  | _, .dict _ => False
/-- the bag of a law at p: the script (the list cs at c), a place, what is left of a number, a knot -/
def Bag (K : PySem.W.Frag) (c : Addr) (cs : List Int) (H : Hp) (p : Addr) : Prop := ∃ i s k : Int, H p = some (.lst [.ref c, .int i, .int s, .int k]) ∧ SqL K H c (cs.map V.int) ∧ cs.length ≤ 63 ∧ 0 ≤ i
def isNum (d : PyData) (lo hi : Int) : Bool := match d with
  | .int i => decide (lo ≤ i) && decide (i ≤ hi)
  | _ => false
def isInt (d : PyData) : Bool := match d with
  | .int _ => true
  | _ => false
def bitsOk (n m : Int) : Prop := 0 ≤ n ∧ 0 ≤ m ∧ m ≤ 64
/-! ### the mathematics, shown -/
theorem bitsL_len (n : Int) (m : Nat) : (bitsL n m).length = m := by simp [bitsL]
theorem bitsL_get {n : Int} {m j : Nat} (h : j < m) : (bitsL n m)[j]? = some (n / 2 ^ j % 2) := by
  simp [bitsL, h]
theorem bitsL_more (n : Int) (m : Nat) : bitsL n (m + 1) = bitsL n m ++ [n / 2 ^ m % 2] := by
  simp [bitsL, List.range_succ]
theorem bitsL_bit (n : Int) (m : Nat) : Bit (bitsL n m) := by
  intro b hb
  simp only [bitsL, List.mem_map] at hb
  obtain ⟨i, _, rfl⟩ := hb
  omega
theorem Bit.rev {l : List Int} (h : Bit l) : Bit l.reverse := fun b hb => h b (List.mem_reverse.mp hb)
theorem take_one {α : Type} : ∀ {l : List α} {i : Nat} {x : α}, l[i]? = some x → l.take (i + 1) = l.take i ++ [x]
  | [], i, x, h => by simp at h
  | a :: l, 0, x, h => by
    have e : a = x := Option.some.inj h
    subst e
    rfl
  | a :: l, i + 1, x, h => by
    have ih := take_one (l := l) (i := i) (x := x) h
    show a :: l.take (i + 1) = a :: l.take i ++ [x]
    rw [ih]
    rfl
theorem numOf_app : ∀ (l : List Int) (b : Int), numOf (l ++ [b]) = numOf l + b * 2 ^ l.length
  | [], b => by simp [numOf]
  | a :: l, b => by
    have ih := numOf_app l b
    show a + 2 * numOf (l ++ [b]) = a + 2 * numOf l + b * 2 ^ (l.length + 1)
    rw [ih, Int.pow_succ, Int.mul_add]
    have e : 2 * (b * 2 ^ l.length) = b * (2 ^ l.length * 2) := by
      rw [Int.mul_comm 2 (b * 2 ^ l.length), Int.mul_assoc]
    rw [e]
    omega
theorem numOf_take {l : List Int} {j : Nat} {b : Int} (h : l[j]? = some b) : numOf (l.take (j + 1)) = numOf (l.take j) + b * 2 ^ j := by
  have hl : j < l.length := (List.getElem?_eq_some_iff.mp h).1
  rw [take_one h, numOf_app, List.length_take, Nat.min_eq_left (by omega)]
theorem highOf_app (l : List Int) (b : Int) : highOf (l ++ [b]) = 2 * highOf l + b := by
  simp [highOf, List.foldl_append]
theorem highOf_rev : ∀ l : List Int, highOf l.reverse = numOf l
  | [] => rfl
  | b :: l => by
    rw [List.reverse_cons, highOf_app, highOf_rev l]
    show 2 * numOf l + b = b + 2 * numOf l
    omega
theorem highOf_num (l : List Int) : highOf l = numOf l.reverse := by
  have := highOf_rev l.reverse
  rw [List.reverse_reverse] at this
  exact this
theorem cutV_all {xs : List V} {k : Int} (h : (xs.length : Int) ≤ k) : cutV xs none (some k) = xs := by
  obtain ⟨n, rfl⟩ : ∃ n : Nat, k = n := ⟨k.toNat, by omega⟩
  unfold cutV
  rw [HT.sIx_none, HT.sIx_nat, List.drop_zero, Nat.min_eq_right (by omega), Nat.sub_zero, List.take_length]
theorem half_half (n : Int) (j : Nat) : n / 2 ^ j / 2 = n / 2 ^ (j + 1) := by
  rw [Int.pow_succ, Int.ediv_ediv_of_nonneg (Int.pow_nonneg (by decide))]
/-! ### bits of natural numbers -/
theorem xor_and_sum : ∀ (n a b : Nat), a < 2 ^ n → a + b = (a ^^^ b) + 2 * (a &&& b)
  | 0, a, b, h => by
    have : a = 0 := by simpa using h
    subst this
    simp
  | n + 1, a, b, h => by
    have ih := xor_and_sum n (a / 2) (b / 2) (by omega)
    have h1 : (a ^^^ b) / 2 = a / 2 ^^^ b / 2 := Nat.xor_div_two
    have h2 : (a &&& b) / 2 = a / 2 &&& b / 2 := Nat.and_div_two
    have h3 : (a ^^^ b) % 2 = 1 ↔ ¬ ((a % 2 = 1) ↔ (b % 2 = 1)) := Nat.xor_mod_two_eq_one
    have h4 : (a &&& b) % 2 = 1 ↔ (a % 2 = 1 ∧ b % 2 = 1) := Nat.and_mod_two_eq_one
    rw [← h1, ← h2] at ih
    generalize a ^^^ b = x at *
    generalize a &&& b = y at *
    omega
theorem bitAnd_nn (a b : Nat) : Builtin.bitAnd (a : Int) (b : Int) = ((a &&& b : Nat) : Int) := by
  unfold Builtin.bitAnd
  simp
theorem bitXor_nn (a b : Nat) : Builtin.bitXor (a : Int) (b : Int) = ((a ^^^ b : Nat) : Int) := by
  rw [bitXor_and, bitAnd_nn]
  have := xor_and_sum a a b Nat.lt_two_pow_self
  omega
def bit (b : Bool) : Int := if b then 1 else 0
theorem bit_inj {a b : Bool} : bit a = bit b ↔ a = b := by cases a <;> cases b <;> simp [bit]
theorem bit_one {a : Bool} : bit a = 1 ↔ a = true := by cases a <;> simp [bit]
theorem bit_xor (a b : Bool) : (bit a + bit b) % 2 = bit (a ^^ b) := by cases a <;> cases b <;> rfl
theorem bit_not (a : Bool) : 1 - bit a = bit (!a) := by cases a <;> rfl
theorem bit_of {x : Int} (h : x = 0 ∨ x = 1) : x = bit (decide (x = 1)) := by rcases h with rfl | rfl <;> rfl
theorem bit_01 (a : Bool) : bit a = 0 ∨ bit a = 1 := by cases a <;> simp [bit]
theorem highOf_bits : ∀ (w N : Nat), N < 2 ^ w → highOf ((List.range w).map fun t => bit (N.testBit (w - 1 - t))) = N
  | 0, N, h => by
    have : N = 0 := by simpa using h
    subst this
    rfl
  | w + 1, N, h => by
    rw [List.range_succ, List.map_append]
    show highOf (_ ++ [_]) = _
    rw [highOf_app]
    have e : ((List.range w).map fun t => bit (N.testBit (w + 1 - 1 - t))) = (List.range w).map fun t => bit ((N / 2).testBit (w - 1 - t)) := by
      apply List.map_congr_left
      intro t ht
      have := List.mem_range.mp ht
      rw [show w + 1 - 1 - t = (w - 1 - t) + 1 by omega, Nat.testBit_succ]
    rw [e, highOf_bits w (N / 2) (by omega)]
    show 2 * ((N / 2 : Nat) : Int) + bit (N.testBit (w + 1 - 1 - w)) = N
    rw [show w + 1 - 1 - w = 0 by omega, Nat.testBit_zero]
    by_cases c : N % 2 = 1
    · rw [decide_eq_true c]
      show 2 * ((N / 2 : Nat) : Int) + 1 = N
      omega
    · rw [decide_eq_false c]
      show 2 * ((N / 2 : Nat) : Int) + 0 = N
      omega
/-! ### the register -/
def crcStep (w m : Nat) (h : Nat) (b : Int) : Nat := if (bit (h.testBit (w - 1))) ≠ b then ((2 * h) % 2 ^ w) ^^^ m else (2 * h) % 2 ^ w
def crcHeld (w m : Nat) (l : List Int) : Nat := l.foldl (crcStep w m) (2 ^ w - 1)
def crc (w m : Nat) (l : List Int) : Nat := crcHeld w m l ^^^ (2 ^ w - 1)
theorem crcStep_lt {w m h : Nat} {b : Int} (hm : m < 2 ^ w) : crcStep w m h b < 2 ^ w := by
  have h1 : (2 * h) % 2 ^ w < 2 ^ w := Nat.mod_lt _ (Nat.two_pow_pos w)
  unfold crcStep
  split
  · exact Nat.xor_lt_two_pow h1 hm
  · exact h1
theorem crcHeld_app (w m : Nat) (l : List Int) (b : Int) : crcHeld w m (l ++ [b]) = crcStep w m (crcHeld w m l) b := by
  unfold crcHeld
  rw [List.foldl_append]
  rfl
theorem foldl_lt {w m : Nat} (hm : m < 2 ^ w) : ∀ (l : List Int) (h : Nat), h < 2 ^ w → l.foldl (crcStep w m) h < 2 ^ w
  | [], h, hh => hh
  | b :: l, h, _ => foldl_lt hm l _ (crcStep_lt hm)
theorem crcHeld_lt {w m : Nat} (hm : m < 2 ^ w) (l : List Int) : crcHeld w m l < 2 ^ w := foldl_lt hm l _ (Nat.sub_lt (Nat.two_pow_pos w) (by decide))
theorem crc_lt {w m : Nat} (hm : m < 2 ^ w) (l : List Int) : crc w m l < 2 ^ w := Nat.xor_lt_two_pow (crcHeld_lt hm l) (Nat.sub_lt (Nat.two_pow_pos w) (by decide))
theorem top_bit {w h : Nat} (hw : 1 ≤ w) (hh : h < 2 ^ w) : ((h / 2 ^ (w - 1) : Nat) : Int) = bit (h.testBit (w - 1)) := by
  have h2 : h / 2 ^ (w - 1) < 2 := by
    rw [Nat.div_lt_iff_lt_mul (Nat.two_pow_pos _)]
    have : 2 ^ w = 2 * 2 ^ (w - 1) := by
      rw [← Nat.pow_succ']
      congr 1
      omega
    omega
  rw [Nat.testBit_eq_decide_div_mod_eq]
  have : h / 2 ^ (w - 1) = 0 ∨ h / 2 ^ (w - 1) = 1 := by
    generalize h / 2 ^ (w - 1) = x at *
    omega
  rcases this with e | e <;> rw [e] <;> rfl
/-! ### the long division -/
def mnum (ms : List Int) : Nat := (highOf ms).toNat
def rowb (l : List Int) (j : Nat) : Bool := decide (l.getD j 0 = 1)
/-- what stands at j when i places are divided away -/
def ex (w m : Nat) (l : List Int) (i j : Nat) : Bool := rowb l j ^^ (decide (j < i + w) && (crcHeld w m (l.take i)).testBit (w - 1 - (j - i)))
theorem ex_step {w m : Nat} {l : List Int} {i j : Nat} (hl : Bit l) (hw : 1 ≤ w) (hi : i < l.length) (hj : i + 1 ≤ j) :
    ex w m l (i + 1) j = (ex w m l i j ^^ (ex w m l i i && (decide (j ≤ i + w) && m.testBit (w - (j - i))))) := by
  have hb : l[i]? = some l[i] := List.getElem?_eq_getElem hi
  have ht : l.take (i + 1) = l.take i ++ [l[i]] := take_one hb
  have h01 := hl l[i] (List.getElem_mem hi)
  unfold ex
  rw [ht, crcHeld_app]
  generalize crcHeld w m (l.take i) = h
  have ri : rowb l i = decide (l[i] = 1) := by
    unfold rowb
    rw [List.getD_eq_getElem?_getD, hb]
    rfl
  rw [ri]
  generalize rowb l j = rj
  generalize l[i] = b at h01
  have cond : (bit (h.testBit (w - 1)) ≠ b) ↔ (decide (b = 1) ^^ (decide (i < i + w) && h.testBit (w - 1 - (i - i)))) = true := by
    rw [decide_eq_true (show i < i + w by omega), Nat.sub_self, Nat.sub_zero, Bool.true_and]
    generalize h.testBit (w - 1) = x
    rcases h01 with rfl | rfl <;> cases x <;> simp [bit]
  have stp : ∀ k, k < w → (crcStep w m h b).testBit k = ((decide (k ≠ 0) && h.testBit (k - 1)) ^^ ((decide (b = 1) ^^ (decide (i < i + w) && h.testBit (w - 1 - (i - i)))) && m.testBit k)) := by
    intro k hk
    have h2 : ((2 * h) % 2 ^ w).testBit k = (decide (k ≠ 0) && h.testBit (k - 1)) := by
      rw [Nat.testBit_mod_two_pow, decide_eq_true hk, Bool.true_and]
      cases k with
      | zero => simp
      | succ k => rw [Nat.testBit_succ, Nat.mul_div_cancel_left _ (by decide)]; simp
    unfold crcStep
    by_cases c : bit (h.testBit (w - 1)) ≠ b
    · rw [if_pos c, cond.mp c, Nat.testBit_xor, h2, Bool.true_and]
    · have c2 := Bool.eq_false_iff.mpr (fun z => c (cond.mpr z))
      rw [if_neg c, c2, h2, Bool.false_and, Bool.xor_false]
  by_cases c1 : j < i + w
  · rw [decide_eq_true (show j < i + 1 + w by omega), decide_eq_true c1, decide_eq_true (show j ≤ i + w by omega), Bool.true_and, Bool.true_and, Bool.true_and, stp _ (by omega)]
    rw [show w - 1 - (j - (i + 1)) = w - (j - i) by omega, decide_eq_true (show w - (j - i) ≠ 0 by omega), Bool.true_and, show w - (j - i) - 1 = w - 1 - (j - i) by omega, Bool.xor_assoc]
  · by_cases c2 : j = i + w
    · rw [decide_eq_true (show j < i + 1 + w by omega), decide_eq_false c1, decide_eq_true (show j ≤ i + w by omega), Bool.true_and, Bool.false_and, Bool.true_and, Bool.xor_false, stp _ (by omega)]
      rw [show w - 1 - (j - (i + 1)) = 0 by omega, show w - (j - i) = 0 by omega]
      simp
    · rw [decide_eq_false (show ¬ j < i + 1 + w by omega), decide_eq_false c1, decide_eq_false (show ¬ j ≤ i + w by omega)]
      simp
theorem ex_start {w m : Nat} {l : List Int} {j : Nat} (hw : 1 ≤ w) : ex w m l 0 j = (rowb l j ^^ decide (j < w)) := by
  unfold ex crcHeld
  rw [List.take_zero, List.foldl_nil, Nat.testBit_two_pow_sub_one, Nat.sub_zero, Nat.zero_add, decide_eq_true (show w - 1 - j < w by omega), Bool.and_true]
theorem ex_end {w m : Nat} {l : List Int} {t : Nat} (ht : t < w) : (!(ex w m l l.length (l.length + t))) = (crc w m l).testBit (w - 1 - t) := by
  unfold ex crc
  rw [List.take_length, Nat.testBit_xor, Nat.testBit_two_pow_sub_one, decide_eq_true (show w - 1 - t < w by omega), Bool.xor_true, Nat.add_sub_cancel_left, decide_eq_true (show l.length + t < l.length + w by omega), Bool.true_and]
  have : rowb l (l.length + t) = false := by
    unfold rowb
    rw [List.getD_eq_getElem?_getD, List.getElem?_eq_none (by omega)]
    rfl
  rw [this, Bool.false_xor]
/-! ### the bag -/
theorem bag_ne {K : PySem.W.Frag} {H : Hp} {p c : Addr} {cs : List Int} {ys : List V} (h : H p = some (.lst (.ref c :: ys))) (hS : SqL K H c (cs.map V.int)) : (∀ o, SqL K (upd H p o) c (cs.map V.int)) := fun o => by
  rcases hS with (e | ⟨ob, e⟩) | e
  · refine .inl (.inl ?_)
    rw [upd_ne]
    · exact e
    · intro z
      subst z
      rw [h] at e
      cases cs <;> simp at e
  · refine .inl (.inr ⟨ob, ?_⟩)
    rw [upd_ne]
    · exact e
    · intro z
      subst z
      rw [h] at e
      cases e
  · exact .inr e
theorem upd_off {H : Hp} {p : Addr} {o : HO} : ∀ b, b ≠ p → upd H p o b = H b := fun b h => upd_ne h
theorem bag_mk {K : PySem.W.Frag} {H : Hp} {p c : Addr} {cs : List Int} {i s k i' s' k' : Int} (h : H p = some (.lst [.ref c, .int i, .int s, .int k])) (hS : SqL K H c (cs.map V.int)) (hl : cs.length ≤ 63) (h0 : 0 ≤ i') :
    Bag K c cs (upd H p (.lst [.ref c, .int i', .int s', .int k'])) p := ⟨i', s', k', upd_same, bag_ne h hS _, hl, h0⟩
theorem Bag.mono {K : PySem.W.Frag} {H H' : Hp} {B c : Addr} {cs : List Int} (b : Bag K c cs H B) (e : Ex H H') : Bag K c cs H' B := by
  obtain ⟨i, s, k, h1, h2, h3, h4⟩ := b
  exact ⟨i, s, k, e _ _ h1, e.sqL h2, h3, h4⟩
theorem Bag.there {K : PySem.W.Frag} {H : Hp} {B c : Addr} {cs : List Int} (b : Bag K c cs H B) : H B ≠ none := by
  obtain ⟨i, s, k, h1, h2, h3, h4⟩ := b
  rw [h1]
  exact fun z => nomatch z
/-- the bag turned, all else as it was: so too without an object -/
theorem Bag.turned {K : PySem.W.Frag} {H H' : Hp} {B D c : Addr} {cs : List Int} (b : Bag K c cs (wo [D] H) B) (b' : Bag K c cs H' B) (off : ∀ x, x ≠ B → H' x = H x) : Bag K c cs (wo [D] H') B := by
  obtain ⟨i, s, k, h1, h2, h3, h4⟩ := b
  obtain ⟨i', s', k', h1', _, _, h4'⟩ := b'
  have nD : B ∉ [D] := fun z => by
    unfold wo at h1
    rw [if_pos z] at h1
    cases h1
  refine ⟨i', s', k', by rw [wo_get nD]; exact h1', ?_, h3, h4'⟩
  have o2 : ∀ x, x ≠ B → wo [D] H' x = wo [D] H x := fun x hx => by
    unfold wo
    split
    · rfl
    · exact off x hx
  rcases h2 with (e | ⟨ob, e⟩) | e
  · refine .inl (.inl ?_)
    rw [o2]
    · exact e
    · intro z
      subst z
      rw [h1] at e
      cases cs <;> simp at e
  · refine .inl (.inr ⟨ob, ?_⟩)
    rw [o2]
    · exact e
    · intro z
      subst z
      rw [h1] at e
      cases e
  · exact .inr e
theorem off_wo {B : Addr} {H H' : Hp} (off : ∀ x, x ≠ B → H' x = H x) : Ex (wo [B] H) (wo [B] H') := fun b o h => by
  unfold wo at h ⊢
  split at h
  · cases h
  · rename_i z
    rw [if_neg z, off b (fun e => z (by rw [e]; exact List.mem_singleton.mpr rfl))]
    exact h
theorem atI_ints {ns : List Int} {i : Int} (h0 : 0 ≤ i) (h1 : i < ns.length) : ∃ x, x ∈ ns ∧ atI (ns.map V.int) i = some (.int x) := by
  refine ⟨ns[i.toNat]'(by omega), List.getElem_mem _, ?_⟩
  refine at_of (j := i.toNat) (by omega) ?_
  rw [List.getElem?_map, List.getElem?_eq_getElem (by omega)]
  rfl
theorem okD_len {n : Nat} {ds : List PyData} : okD n (.list ds) → ds.length ≤ 1000 ∧ ∃ k, n = k + 1 ∧ ∀ d ∈ ds, okD k d := by
  intro h
  cases n with
  | zero => exact h.elim
  | succ k => exact ⟨h.1, k, rfl, h.2⟩
theorem okD_lenT {n : Nat} {ds : List PyData} : okD n (.tuple ds) → ds.length ≤ 1000 ∧ ∃ k, n = k + 1 ∧ ∀ d ∈ ds, okD k d := by
  intro h
  cases n with
  | zero => exact h.elim
  | succ k => exact ⟨h.1, k, rfl, h.2⟩
theorem all_true (n : Nat) : ((List.range n).map fun _ => true).all id = true := by
  rw [List.all_eq_true]
  intro b hb
  obtain ⟨_, _, rfl⟩ := List.mem_map.mp hb
  rfl
theorem tyS : (∀ b, isTyp (.bool b) "bool" = true) ∧ (∀ b, isTyp (.bool b) "int" = true) ∧ (∀ i, isTyp (.int i) "bool" = false) ∧ (∀ i, isTyp (.int i) "int" = true) ∧ (∀ x, isTyp (.str x) "bool" = false) ∧ (∀ x, isTyp (.str x) "int" = false) ∧ (∀ x, isTyp (.str x) "str" = true) :=
  ⟨fun _ => by show isTypN _ _ = _; simp only [tyName]; decide, fun _ => by show isTypN _ _ = _; simp only [tyName]; decide, fun _ => by show isTypN _ _ = _; simp only [tyName]; decide, fun _ => by show isTypN _ _ = _; simp only [tyName]; decide, fun _ => by show isTypN _ _ = _; simp only [tyName]; decide, fun _ => by show isTypN _ _ = _; simp only [tyName]; decide, fun _ => by show isTypN _ _ = _; simp only [tyName]; decide⟩
theorem tyL (ds : List PyData) : isTyp (.list ds) "bool" = false ∧ isTyp (.list ds) "int" = false ∧ isTyp (.list ds) "str" = false ∧ isTyp (.list ds) "list" = true ∧ isTyp (.list ds) "tuple" = false := by
  refine ⟨?_, ?_, ?_, ?_, ?_⟩ <;> (show isTypN _ _ = _; simp only [tyName]; decide)
theorem tyT (ds : List PyData) : isTyp (.tuple ds) "bool" = false ∧ isTyp (.tuple ds) "int" = false ∧ isTyp (.tuple ds) "str" = false ∧ isTyp (.tuple ds) "list" = false ∧ isTyp (.tuple ds) "tuple" = true := by
  refine ⟨?_, ?_, ?_, ?_, ?_⟩ <;> (show isTypN _ _ = _; simp only [tyName]; decide)
theorem kit_self {K : PySem.W.Frag} {v : Value} : PySem.W.kitOne K v v = some true := if_pos (beq_self_eq_true v)
theorem kit_bi {K : PySem.W.Frag} {C : Addr} {T : String} {b : Bool} (h : PySem.W.kitMeta T = true) (hs : PySem.W.subIn K (.ref C) (.type T) = some b) : PySem.W.kitOne K (.ref C) (.type T) = some b := by
  show (if (Value.ref C == Value.type T) = true then some true else if PySem.W.kitMeta T = true then PySem.W.subIn K (.ref C) (.type T) else none) = some b
  rw [if_neg (by rw [beq_eq_false_iff_ne.mpr (fun z => by cases z)]; decide), if_pos h]
  exact hs
def RD (sp : Sp) (t : TS) (N : List Str) : Prop := ∀ vs H Q E, sp vs H Q E → t { nx := fun _ H' => Q .non H', rt := Q } (start N vs) H
def RDX (sp : Sp) (t : XK → TS) (N : List Str) : Prop := ∀ vs H Q E, sp vs H Q E → t E { nx := fun _ H' => Q .non H', rt := Q } (start N vs) H
/-- [y for x in t for y in f(x)], t a tuple, f(x) a new list ys j -/
theorem lc2TL {K : PySem.W.Frag} {tl tl1 : TE} {g g1 : TG} {tt tt1 : TT} {te : TE} {vs vs1 : List Nat} {σ : L2.St} {H : Hp} {Q : VK} {a : Addr} {xs : List V} (i i1 : Nat) (ys : Nat → List V) (ht : ∀ R : VK, R (.ref a) H → tl σ H R) (hS : SqT K H a xs)
    (hn : ((List.range xs.length).flatMap ys).length ≤ 100000)
    (hw : ∀ x, wipe ((wipe σ vs).set i (some x)) vs = wipe σ vs)
    (hw1 : ∀ x y, wipe ((wipe ((wipe σ vs).set i (some x)) vs1).set i1 (some y)) vs1 = wipe ((wipe σ vs).set i (some x)) vs1)
    (hin : ∀ (j : Nat) x H1 (R : VK), xs[j]? = some x → (∀ b H2, H1 b = none → Ex H1 H2 → H2 b = some (.lst (ys j)) → R (.ref b) H2) → tl1 ((wipe σ vs).set i (some x)) H1 R)
    (he : ∀ x y H1 (R : VK), R y H1 → te ((wipe ((wipe σ vs).set i (some x)) vs1).set i1 (some y)) H1 R)
    (k : ∀ D H', H D = none → Ex H H' → H' D = some (.lst ((List.range xs.length).flatMap ys)) → Q (.ref D) H')
    (hg : g = gName i := by rfl) (hg1 : g1 = gName i1 := by rfl) (htt : tt = tYes := by rfl) (htt1 : tt1 = tYes := by rfl) : tLc2 (iTup K tl) g tt (iList K tl1) g1 tt1 te vs vs1 σ H Q := by
  subst hg hg1 htt htt1
  refine ht _ ⟨a, rfl, ⟨xs, hS⟩, fun D hD => ?_⟩
  have acc1 : ∀ j, (List.range (j + 1)).flatMap ys = (List.range j).flatMap ys ++ ys j := fun j => by simp [List.range_succ]
  have hmono : ∀ j, j ≤ xs.length → ((List.range j).flatMap ys).length ≤ 100000 := by
    intro j hj
    refine Nat.le_trans ?_ hn
    obtain ⟨d, e⟩ : ∃ d, xs.length = j + d := ⟨xs.length - j, by omega⟩
    rw [e, List.range_add, List.flatMap_append, List.length_append]
    omega
  refine ⟨fun j m H' => m = xs.length - j ∧ j ≤ xs.length ∧ Ex H H' ∧ H' D = some (.lst ((List.range j).flatMap ys)), ⟨xs.length, by simp, Nat.zero_le _, Ex.new hD, upd_same⟩, ?_⟩
  rintro j m H1 ⟨rfl, hj, e, hd⟩
  have q := Ex.sqT e hS
  by_cases hlt : j < xs.length
  · refine .inr ⟨⟨xs, xs[j], q, by simp [hlt]⟩, fun H' => Ex H H' ∧ H' D = some (.lst ((List.range (j + 1)).flatMap ys)), fun H' p => ⟨xs.length - (j + 1), by omega, rfl, hlt, p.1, p.2⟩, fun x H' y => ?_⟩
    obtain ⟨e', y⟩ := y
    subst e'
    have hx := y xs q
    refine ⟨hw x, ?_⟩
    simp only [tYes, if_true]
    refine hin j x _ _ hx (fun b H2 hb e2 hb2 => ?_)
    have nbD : b ≠ D := fun z => by
      rw [z, hd] at hb
      cases hb
    refine ⟨b, rfl, ⟨_, SqL.of hb2⟩, fun t k H' => k = (ys j).length - t ∧ t ≤ (ys j).length ∧ Ex H H' ∧ H' b = some (.lst (ys j)) ∧ H' D = some (.lst ((List.range j).flatMap ys ++ (ys j).take t)), ⟨(ys j).length, by simp, Nat.zero_le _, Same.trans e e2, hb2, ?_⟩, ?_⟩
    · rw [List.take_zero, List.append_nil]
      exact e2 _ _ hd
    · rintro t k H3 ⟨rfl, htl, e3, hb3, hd3⟩
      have q3 : SqL K H3 b (ys j) := SqL.of hb3
      by_cases hl2 : t < (ys j).length
      · refine .inr ⟨⟨ys j, (ys j)[t], q3, by simp [hl2]⟩, fun H' => Ex H H' ∧ H' b = some (.lst (ys j)) ∧ H' D = some (.lst ((List.range j).flatMap ys ++ (ys j).take (t + 1))), fun H' p => ⟨(ys j).length - (t + 1), by omega, rfl, hl2, p.1, p.2.1, p.2.2⟩, fun y' H' yy => ?_⟩
        obtain ⟨e', yy⟩ := yy
        subst e'
        have hy := yy _ q3
        refine ⟨hw1 x y', ?_⟩
        simp only [tYes, if_true]
        refine he x y' _ _ ⟨_, hd3, ?_, ?_, ?_, ?_⟩
        · have h1 := hmono (j + 1) hlt
          rw [acc1, List.length_append] at h1
          rw [List.length_append, List.length_take]
          exact Nat.lt_of_le_of_lt (show _ ≤ 100000 by omega) (by decide)
        · exact Ex.mut e3 hD
        · rw [upd_ne nbD]
          exact hb3
        · rw [upd_same, take_one hy, List.append_assoc]
      · have et : t = (ys j).length := by omega
        subst et
        refine .inl ⟨⟨_, q3, Nat.le_refl _⟩, e3, ?_⟩
        rw [hd3, acc1, List.take_length]
  · have ej : j = xs.length := by omega
    subst ej
    exact .inl ⟨⟨xs, q, Nat.le_refl _⟩, k D H1 hD e hd⟩
/-! ### tuples cut and joined -/
theorem cut_take {xs : List V} {i : Int} (h : 0 ≤ i) : cutV xs none (some i) = xs.take i.toNat := by
  obtain ⟨n, rfl⟩ : ∃ n : Nat, i = n := ⟨i.toNat, by omega⟩
  unfold cutV
  rw [HT.sIx_none, HT.sIx_nat, List.drop_zero, Nat.sub_zero, Int.toNat_natCast]
  by_cases c : n ≤ xs.length
  · rw [Nat.min_eq_left c]
  · rw [Nat.min_eq_right (by omega), List.take_length, List.take_of_length_le (by omega)]
theorem cut_drop {xs : List V} {i : Int} (h : 0 ≤ i) : cutV xs (some i) none = xs.drop i.toNat := by
  obtain ⟨n, rfl⟩ : ∃ n : Nat, i = n := ⟨i.toNat, by omega⟩
  unfold cutV
  rw [HT.sIx_none, HT.sIx_nat, Int.toNat_natCast]
  by_cases c : n ≤ xs.length
  · rw [Nat.min_eq_left c, List.take_of_length_le (by rw [List.length_drop]; exact Nat.le_refl _)]
  · rw [Nat.min_eq_right (by omega), List.drop_length, List.take_nil, List.drop_eq_nil_of_le (by omega)]
theorem slT_go {K : PySem.W.Frag} {H : Hp} {t : Addr} {xs : List V} {lo hi : Option Int} {Q : VK} (hS : SqT K H t xs) (k : ∀ t' H', Ex H H' → SqT K H' t' (cutV xs lo hi) → Q (.ref t') H') : rSlA K (.ref t) lo hi H Q := by
  refine ⟨t, xs, rfl, hS, fun hw => ?_, fun _ p hp => k p _ (Ex.new hp) (SqT.of upd_same)⟩
  refine k t H (Same.refl _) ?_
  have : cutV xs lo hi = xs := by
    unfold cutV
    rw [hw.1, hw.2, List.drop_zero, Nat.sub_zero, List.take_length]
  rw [this]
  exact hS
theorem catT_go {K : PySem.W.Frag} {H : Hp} {t u : Addr} {xs ys : List V} {Q : VK} (hx : SqT K H t xs) (hy : SqT K H u ys) (hl : xs.length + ys.length ≤ 100000) (k : ∀ t' H', Ex H H' → SqT K H' t' (xs ++ ys) → Q (.ref t') H') : rCatA K (.ref t) (.ref u) H Q := by
  refine ⟨t, u, xs, ys, rfl, rfl, hx, hy, Nat.le_trans hl (by decide), fun e => ?_, fun _ e => ?_, fun _ _ p hp => k p _ (Ex.new hp) (SqT.of upd_same)⟩
  · subst e
    exact k u H (Same.refl _) hy
  · subst e
    rw [List.append_nil] at k
    exact k t H (Same.refl _) hx
theorem cpow {b e : Int} (h1 : 0 ≤ b) (h2 : b < 1000) (h3 : 0 ≤ e) (h4 : e < 1000) : CPow b e := ⟨h3, by omega, by omega⟩
def byteN (n : Int) : Bool := decide (0 ≤ n) && decide (n ≤ 255)
def sum5N (n : Int) : Nat := crc 5 5 (bitsL n 11)
def bytesBits (ns : List Int) : List Int := ns.flatMap fun n => bitsL n 8
def sum16N (ns : List Int) : Nat := crc 16 32773 (bytesBits ns)
/-! ### packets -/
inductive Arg where
  | int (i : Int)
  | byt (ns : List Int)
def Arg.d : Arg → PyData
  | .int i => .int i
  | .byt ns => .tuple (ns.map PyData.int)
def tokW : List Str := ["out", "in", "setup"]
def ansW : List Str := ["ack", "nak", "stall"]
def code (w : Str) : Int :=
  if w = "out" then 1 else if w = "ack" then 2 else if w = "frame" then 5 else if w = "in" then 9 else if w = "nak" then 10 else if w = "setup" then 13 else 14
def hd (c : Int) : Int := c + 16 * (15 - c)
def two (n : Int) : List Int := [n % 256, n / 256]
def num11 (n : Int) : Int := n + 2048 * numOf (bitsL (sum5N n) 5).reverse
def num16 (ns : List Int) : Int := numOf (bitsL (sum16N ns) 16).reverse
inductive Pk where
  | tok (w : Str) (n e : Int)
  | frm (n : Int)
  | dat (m : Int) (ns : List Int)
  | ans (w : Str)
def Pk.ok : Pk → Prop
  | .tok w n e => w ∈ tokW ∧ 0 ≤ n ∧ n ≤ 127 ∧ 0 ≤ e ∧ e ≤ 15
  | .frm n => 0 ≤ n ∧ n ≤ 2047
  | .dat m ns => (m = 0 ∨ m = 1) ∧ ns.length ≤ 64 ∧ ns.all byteN = true
  | .ans w => w ∈ ansW
def Pk.ds : Pk → List PyData
  | .tok w n e => [.str w, .int n, .int e]
  | .frm n => [.str "frame", .int n]
  | .dat m ns => [.str "data", .int m, .tuple (ns.map PyData.int)]
  | .ans w => [.str w]
def Pk.bytes : Pk → List Int
  | .tok w n e => hd (code w) :: two (num11 (n + 128 * e))
  | .frm n => hd 5 :: two (num11 n)
  | .dat m ns => hd (if m = 0 then 3 else 11) :: (ns ++ two (num16 ns))
  | .ans w => [hd (code w)]
/-- a tuple as it may be handed in: none, or a word and numbers or rows of numbers -/
def Shape (ds : List PyData) : Prop := ds = [] ∨ ∃ (w : Str) (args : List Arg), ds = .str w :: args.map Arg.d
def isTokD : List PyData → Bool
  | [.str w, x, y] => decide (w ∈ tokW) && (isNum x 0 127 && isNum y 0 15)
  | _ => false
def isFrmD : List PyData → Bool
  | [.str w, x] => decide (w = "frame") && isNum x 0 2047
  | _ => false
def isPcD : PyData → Bool
  | .tuple ds => decide (ds.length ≤ 64) && ds.all fun d => isNum d 0 255
  | _ => false
def isDatD : List PyData → Bool
  | [.str w, m, x] => decide (w = "data") && (isNum m 0 1 && isPcD x)
  | _ => false
def isAnsD : List PyData → Bool
  | [.str w] => decide (w ∈ ansW)
  | _ => false
theorem inV_strs (w : Str) (ws : List Str) : inV (.str w) (ws.map V.str) = decide (w ∈ ws) := by
  induction ws with
  | nil => rfl
  | cons x ws ih =>
    show (eqV (.str x) (.str w) || inV (.str w) (ws.map V.str)) = _
    rw [ih]
    by_cases e : x = w
    · subst e
      simp [eqV]
    · simp [eqV, e, Ne.symm e]
end My

namespace My
open PySem PySem.Spec PyProof.Rows L2
def Small (ds : List PyData) : Prop := ∀ ns : List Int, PyData.tuple (ns.map PyData.int) ∈ ds → ns.length ≤ 1000
def cutB (row : List Int) : List Int := (row.drop 1).take (row.length - 3)
/-- the packet of a word that might write a row -/
def wordD (w : Str) (row : List Int) : List PyData :=
  if w ∈ ansW then [.str w] else if row.length ≠ 3 then [] else
    let n := (row.getD 1 0 + 256 * row.getD 2 0) % 2048
    if w = "frame" then [.str w, .int n] else [.str w, .int (n % 128), .int (n / 128)]
def codeW : List Str := ["out", "ack", "frame", "in", "nak", "setup", "stall"]
def likelyD (row : List Int) : List PyData :=
  if row.length = 0 then [] else
    match codeW.find? (fun w => decide (row.getD 0 0 = hd (code w))) with
    | some w => wordD w row
    | none => if row.getD 0 0 = hd 3 then [.str "data", .int 0, .tuple ((cutB row).map PyData.int)] else
        if row.getD 0 0 = hd 11 then [.str "data", .int 1, .tuple ((cutB row).map PyData.int)] else []
/-! ### packets: the mathematics -/
theorem eqv_ints : ∀ as bs : List Int, PyData.eqvAll (as.map PyData.int) (bs.map PyData.int) = decide (as = bs)
  | [], [] => rfl
  | [], _ :: _ => rfl
  | _ :: _, [] => rfl
  | a :: as, b :: bs => by
    show (a == b && PyData.eqvAll (as.map PyData.int) (bs.map PyData.int)) = _
    rw [eqv_ints as bs]
    by_cases e : a = b <;> by_cases f : as = bs <;> simp [e, f]
theorem eqvT (as bs : List Int) : PyData.eqv (.tuple (as.map PyData.int)) (.tuple (bs.map PyData.int)) = decide (as = bs) := by
  show PyData.eqvAll _ _ = _
  exact eqv_ints as bs
theorem shapedT (ns : List Int) : SeqAt.shaped (.tuple (ns.map PyData.int)) = true := by
  have h1 := PySem.W.depthAll_ints ns
  have h2 : PyData.depth (.tuple (ns.map PyData.int)) ≤ 64 := by simp only [PyData.depth]; omega
  show (PyData.canLay0 (.tuple (ns.map PyData.int)) && decide (PyData.depth (.tuple (ns.map PyData.int)) ≤ 64)) = true
  rw [Bool.and_eq_true]
  exact ⟨by simp only [PyData.canLay0]; exact PySem.W.canLayAll0_ints ns, decide_eq_true h2⟩
theorem numOf_lt : ∀ l : List Int, Bit l → 0 ≤ numOf l ∧ numOf l < 2 ^ l.length
  | [], _ => ⟨by decide, by decide⟩
  | b :: l, h => by
    have ih := numOf_lt l fun x hx => h x (List.mem_cons_of_mem _ hx)
    have hb := h b List.mem_cons_self
    show 0 ≤ b + 2 * numOf l ∧ b + 2 * numOf l < 2 ^ (l.length + 1)
    rw [Int.pow_succ]
    omega
theorem numOf_append : ∀ a b : List Int, numOf (a ++ b) = numOf a + 2 ^ a.length * numOf b
  | [], b => by simp [numOf]
  | x :: a, b => by
    have ih := numOf_append a b
    show x + 2 * numOf (a ++ b) = x + 2 * numOf a + 2 ^ (a.length + 1) * numOf b
    rw [ih, Int.pow_succ, Int.mul_add]
    have : 2 * (2 ^ a.length * numOf b) = 2 ^ a.length * 2 * numOf b := by
      rw [Int.mul_comm (2 ^ a.length) 2, Int.mul_assoc]
    omega
theorem turned_lt (s m : Nat) : 0 ≤ numOf (bitsL s m).reverse ∧ numOf (bitsL s m).reverse < 2 ^ m := by
  have := numOf_lt (bitsL (s : Int) m).reverse (bitsL_bit _ _).rev
  rwa [List.length_reverse, bitsL_len] at this
theorem num11_lt {n : Int} (h0 : 0 ≤ n) (h1 : n ≤ 2047) : 0 ≤ num11 n ∧ num11 n < 65536 ∧ num11 n % 2048 = n := by
  have := turned_lt (sum5N n) 5
  unfold num11
  generalize numOf (bitsL (sum5N n) 5).reverse = x at *
  omega
theorem isNum_int {d : PyData} {lo hi : Int} (h : isNum d lo hi = true) : ∃ i, d = .int i ∧ lo ≤ i ∧ i ≤ hi := by
  cases d with
  | int i =>
    simp [isNum] at h
    exact ⟨i, rfl, h.1, h.2⟩
  | _ => cases h
theorem isPc_byt {d : PyData} (h : isPcD d = true) : ∃ ns : List Int, d = .tuple (ns.map PyData.int) ∧ ns.length ≤ 64 ∧ ns.all byteN = true := by
  cases d with
  | tuple ds =>
    simp only [isPcD, Bool.and_eq_true, decide_eq_true_eq] at h
    obtain ⟨h1, h2⟩ := h
    have : ∃ ns : List Int, ds = ns.map PyData.int := by
      clear h1
      induction ds with
      | nil => exact ⟨[], rfl⟩
      | cons d ds ih =>
        rw [List.all_cons, Bool.and_eq_true] at h2
        obtain ⟨i, rfl, _, _⟩ := isNum_int h2.1
        obtain ⟨ns, rfl⟩ := ih h2.2
        exact ⟨i :: ns, rfl⟩
    obtain ⟨ns, rfl⟩ := this
    rw [List.length_map] at h1
    refine ⟨ns, rfl, h1, ?_⟩
    rw [List.all_map] at h2
    exact h2
  | _ => cases h
theorem tok_of {ds : List PyData} (h : isTokD ds = true) : ∃ w n e, ds = (Pk.tok w n e).ds ∧ (Pk.tok w n e).ok := by
  unfold isTokD at h
  split at h
  · rename_i w x y
    simp only [Bool.and_eq_true, decide_eq_true_eq] at h
    obtain ⟨n, rfl, n0, n1⟩ := isNum_int h.2.1
    obtain ⟨e, rfl, e0, e1⟩ := isNum_int h.2.2
    exact ⟨w, n, e, rfl, h.1, n0, n1, e0, e1⟩
  · cases h
theorem frm_of {ds : List PyData} (h : isFrmD ds = true) : ∃ n, ds = (Pk.frm n).ds ∧ (Pk.frm n).ok := by
  unfold isFrmD at h
  split at h
  · rename_i w x
    simp only [Bool.and_eq_true, decide_eq_true_eq] at h
    obtain ⟨n, rfl, n0, n1⟩ := isNum_int h.2
    obtain ⟨rfl, _⟩ := h
    exact ⟨n, rfl, n0, n1⟩
  · cases h
theorem dat_of {ds : List PyData} (h : isDatD ds = true) : ∃ m ns, ds = (Pk.dat m ns).ds ∧ (Pk.dat m ns).ok := by
  unfold isDatD at h
  split at h
  · rename_i w x y
    simp only [Bool.and_eq_true, decide_eq_true_eq] at h
    obtain ⟨n, rfl, n0, n1⟩ := isNum_int h.2.1
    obtain ⟨ns, rfl, l1, l2⟩ := isPc_byt h.2.2
    obtain ⟨rfl, _⟩ := h
    exact ⟨n, ns, rfl, by omega, l1, l2⟩
  · cases h
theorem ans_of {ds : List PyData} (h : isAnsD ds = true) : ∃ w, ds = (Pk.ans w).ds ∧ (Pk.ans w).ok := by
  unfold isAnsD at h
  split at h
  · rename_i w
    exact ⟨w, rfl, show w ∈ ansW from of_decide_eq_true h⟩
  · cases h
theorem isPcD_ints (ns : List Int) : isPcD (.tuple (ns.map PyData.int)) = (decide (ns.length ≤ 64) && ns.all byteN) := by
  show (decide ((ns.map PyData.int).length ≤ 64) && (ns.map PyData.int).all fun d => isNum d 0 255) = _
  rw [List.length_map, List.all_map]
  rfl
/-- each packet passes its own look, and no earlier one -/
theorem ok_looks {k : Pk} (h : k.ok) : match k with
    | .tok _ _ _ => isTokD k.ds = true
    | .frm _ => isTokD k.ds = false ∧ isFrmD k.ds = true
    | .dat _ _ => isTokD k.ds = false ∧ isFrmD k.ds = false ∧ isDatD k.ds = true
    | .ans _ => isTokD k.ds = false ∧ isFrmD k.ds = false ∧ isDatD k.ds = false ∧ isAnsD k.ds = true := by
  cases k with
  | tok w n e =>
    obtain ⟨h1, h2, h3, h4, h5⟩ := h
    show (decide (w ∈ tokW) && ((decide (0 ≤ n) && decide (n ≤ 127)) && (decide (0 ≤ e) && decide (e ≤ 15)))) = true
    simp [h1, h2, h3, h4, h5]
  | frm n =>
    obtain ⟨h1, h2⟩ := h
    refine ⟨rfl, ?_⟩
    show (decide (("frame" : Str) = "frame") && (decide (0 ≤ n) && decide (n ≤ 2047))) = true
    simp [h1, h2]
  | dat m ns =>
    obtain ⟨h1, h2, h3⟩ := h
    refine ⟨?_, rfl, ?_⟩
    · show (decide (("data" : Str) ∈ tokW) && (isNum (.int m) 0 127 && isNum (.tuple (ns.map PyData.int)) 0 15)) = false
      rw [show decide (("data" : Str) ∈ tokW) = false by decide, Bool.false_and]
    · show (decide (("data" : Str) = "data") && ((decide (0 ≤ m) && decide (m ≤ 1)) && isPcD (.tuple (ns.map PyData.int)))) = true
      rw [isPcD_ints, h3]
      rcases h1 with rfl | rfl <;> simp [h2]
  | ans w =>
    refine ⟨rfl, rfl, rfl, ?_⟩
    show decide (w ∈ ansW) = true
    exact decide_eq_true h
theorem none_ok {ds : List PyData} (h1 : isTokD ds = false) (h2 : isFrmD ds = false) (h3 : isDatD ds = false) (h4 : isAnsD ds = false) : ∀ k : Pk, k.ok → k.ds ≠ ds := by
  intro k hk e
  have := ok_looks hk
  subst e
  cases k with
  | tok w n e => rw [show isTokD _ = true from this] at h1; cases h1
  | frm n => rw [this.2] at h2; cases h2
  | dat m ns => rw [this.2.2] at h3; cases h3
  | ans w => rw [this.2.2.2] at h4; cases h4
theorem ds_bytes {k k' : Pk} (h : k.ok) (h' : k'.ok) (e : k.ds = k'.ds) : k.bytes = k'.bytes := by
  cases k <;> cases k' <;> simp only [Pk.ds, List.cons.injEq, PyData.int.injEq, PyData.str.injEq, PyData.tuple.injEq, and_true, true_and, eq_self, reduceCtorEq, and_false, false_and] at e
  · obtain ⟨rfl, rfl, rfl⟩ := e
    rfl
  · subst e
    rfl
  · obtain ⟨rfl, e2⟩ := e
    have := (List.map_inj_right (fun a b h => PyData.int.inj h)).mp e2
    subst this
    rfl
  · subst e
    rfl
theorem likely_ok {k : Pk} (h : k.ok) : likelyD k.bytes = k.ds := by
  cases k with
  | tok w n e =>
    obtain ⟨hw, n0, n1, e0, e1⟩ := h
    have hx := num11_lt (n := n + 128 * e) (by omega) (by omega)
    show likelyD [hd (code w), num11 (n + 128 * e) % 256, num11 (n + 128 * e) / 256] = [.str w, .int n, .int e]
    generalize num11 (n + 128 * e) = N at hx
    have e3 : (N % 256 + 256 * (N / 256)) % 2048 = n + 128 * e := by omega
    have hf : codeW.find? (fun v => decide (hd (code w) = hd (code v))) = some w := by
      rcases (by simpa [tokW] using hw) with rfl | rfl | rfl <;> decide
    have na : w ∉ ansW := by
      rcases (by simpa [tokW] using hw) with rfl | rfl | rfl <;> decide
    have nf : w ≠ "frame" := by
      rcases (by simpa [tokW] using hw) with rfl | rfl | rfl <;> decide
    unfold likelyD
    rw [if_neg (by simp)]
    show (match codeW.find? (fun v => decide (hd (code w) = hd (code v))) with | some w' => _ | none => _) = _
    rw [hf]
    show wordD w [hd (code w), N % 256, N / 256] = _
    unfold wordD
    rw [if_neg na, if_neg (by simp)]
    show (if w = "frame" then _ else [PyData.str w, .int ((N % 256 + 256 * (N / 256)) % 2048 % 128), .int ((N % 256 + 256 * (N / 256)) % 2048 / 128)]) = _
    rw [if_neg nf, e3]
    congr 3
    · omega
    · congr 2
      omega
  | frm n =>
    obtain ⟨n0, n1⟩ := h
    have hx := num11_lt n0 n1
    show likelyD [hd 5, num11 n % 256, num11 n / 256] = [.str "frame", .int n]
    generalize num11 n = N at hx
    have e3 : (N % 256 + 256 * (N / 256)) % 2048 = n := by omega
    unfold likelyD
    rw [if_neg (by simp)]
    rw [show codeW.find? (fun v => decide ([hd 5, N % 256, N / 256].getD 0 0 = hd (code v))) = some "frame" from (by decide : codeW.find? (fun v => decide (hd 5 = hd (code v))) = some "frame")]
    show wordD "frame" [hd 5, N % 256, N / 256] = _
    unfold wordD
    rw [if_neg (by decide), if_neg (by simp)]
    show (if ("frame" : Str) = "frame" then [PyData.str "frame", .int ((N % 256 + 256 * (N / 256)) % 2048)] else [PyData.str "frame", .int ((N % 256 + 256 * (N / 256)) % 2048 % 128), .int ((N % 256 + 256 * (N / 256)) % 2048 / 128)]) = _
    rw [if_pos rfl, e3]
  | dat m ns =>
    obtain ⟨hm, hl, hb⟩ := h
    have hc : cutB (hd (if m = 0 then 3 else 11) :: (ns ++ two (num16 ns))) = ns := by
      unfold cutB two
      rw [List.drop_one, List.tail_cons]
      simp
    show likelyD (hd (if m = 0 then 3 else 11) :: (ns ++ two (num16 ns))) = [.str "data", .int m, .tuple (ns.map PyData.int)]
    unfold likelyD
    rw [if_neg (by simp), hc]
    show (match codeW.find? (fun v => decide (hd (if m = 0 then 3 else 11) = hd (code v))) with | some w' => _ | none => if hd (if m = 0 then 3 else 11) = hd 3 then _ else if hd (if m = 0 then 3 else 11) = hd 11 then _ else _) = _
    rcases hm with rfl | rfl
    · rw [show codeW.find? (fun v => decide (hd (if (0 : Int) = 0 then 3 else 11) = hd (code v))) = none by decide]
      rfl
    · rw [show codeW.find? (fun v => decide (hd (if (1 : Int) = 0 then 3 else 11) = hd (code v))) = none by decide]
      rfl
  | ans w =>
    show likelyD [hd (code w)] = [.str w]
    rcases (by simpa [ansW] using (show w ∈ ansW from h)) with rfl | rfl | rfl <;> rfl
theorem likely_shape (row : List Int) : Shape (likelyD row) := by
  have hw : ∀ w, Shape (wordD w row) := fun w => by
    unfold wordD
    split
    · exact .inr ⟨w, [], rfl⟩
    · split
      · exact .inl rfl
      · dsimp only
        split
        · exact .inr ⟨w, [.int _], rfl⟩
        · exact .inr ⟨w, [.int _, .int _], rfl⟩
  unfold likelyD
  split
  · exact .inl rfl
  · split
    · exact hw _
    · split
      · exact .inr ⟨"data", [.int 0, .byt (cutB row)], rfl⟩
      · split
        · exact .inr ⟨"data", [.int 1, .byt (cutB row)], rfl⟩
        · exact .inl rfl
theorem likely_small (row : List Int) (hl : row.length ≤ 1000) : Small (likelyD row) := by
  intro ns
  have hw : ∀ w, PyData.tuple (ns.map PyData.int) ∉ wordD w row := fun w h => by
    unfold wordD at h
    split at h
    · simp at h
    · split at h
      · simp at h
      · dsimp only at h
        split at h <;> simp at h
  have hc : (cutB row).length ≤ 1000 := by
    unfold cutB
    rw [List.length_take, List.length_drop]
    omega
  have hm : ns.map PyData.int = (cutB row).map PyData.int → ns.length ≤ 1000 := fun e => by
    have := congrArg List.length e
    rw [List.length_map, List.length_map] at this
    omega
  intro h
  unfold likelyD at h
  split at h
  · simp at h
  · split at h
    · exact absurd h (hw _)
    · split at h
      · simp at h
        exact hm h
      · split at h
        · simp at h
          exact hm h
        · simp at h
end My

namespace My
open PySem PySem.Spec PyProof.Rows L2
end My
namespace L2
open PySem PySem.Spec PyProof.Rows My
/-! ### data opened and made -/
theorem Dp.tupE {K : PySem.W.Frag} {H : Hp} {v : V} {ds : List PyData} (h : Dp K H v (.tuple ds)) : ∃ p xs, v = .ref p ∧ SqT K H p xs ∧ DpAll K H xs ds := by
  cases h with
  | tup hs ha => exact ⟨_, _, rfl, hs, ha⟩
theorem Dp.lstE {K : PySem.W.Frag} {H : Hp} {v : V} {ds : List PyData} (h : Dp K H v (.list ds)) : ∃ p xs, v = .ref p ∧ SqL K H p xs ∧ DpAll K H xs ds := by
  cases h with
  | lst hs ha => exact ⟨_, _, rfl, hs, ha⟩
theorem Dp.intE {K : PySem.W.Frag} {H : Hp} {v : V} {i : Int} (h : Dp K H v (.int i)) : v = .int i := by cases h; rfl
theorem Dp.blE {K : PySem.W.Frag} {H : Hp} {v : V} {i : Bool} (h : Dp K H v (.bool i)) : v = .bl i := by cases h; rfl
theorem Dp.strE {K : PySem.W.Frag} {H : Hp} {v : V} {i : Str} (h : Dp K H v (.str i)) : v = .str i := by cases h; rfl
theorem DpAll.consE {K : PySem.W.Frag} {H : Hp} {vs : List V} {d : PyData} {ds : List PyData} (h : DpAll K H vs (d :: ds)) : ∃ v r, vs = v :: r ∧ Dp K H v d ∧ DpAll K H r ds := by
  cases h with
  | cons h1 h2 => exact ⟨_, _, rfl, h1, h2⟩
theorem DpAll.nilE {K : PySem.W.Frag} {H : Hp} {vs : List V} (h : DpAll K H vs []) : vs = [] := by cases h; rfl
theorem DpAll.intsE {K : PySem.W.Frag} {H : Hp} : ∀ {vs : List V} {ns : List Int}, DpAll K H vs (ns.map PyData.int) → vs = ns.map V.int
  | vs, [], h => h.nilE
  | vs, n :: ns, h => by
    obtain ⟨v, r, rfl, h1, h2⟩ := DpAll.consE (d := .int n) (ds := ns.map PyData.int) h
    rw [h1.intE, DpAll.intsE h2]
    rfl
theorem Dp.intsE {K : PySem.W.Frag} {H : Hp} {v : V} {ns : List Int} (h : Dp K H v (.tuple (ns.map PyData.int))) : ∃ p, v = .ref p ∧ SqT K H p (ns.map V.int) := by
  obtain ⟨p, xs, rfl, h1, h2⟩ := h.tupE
  rw [h2.intsE] at h1
  exact ⟨p, rfl, h1⟩
theorem DpAll.app {K : PySem.W.Frag} {H : Hp} : ∀ {xs ys : List V} {ds es : List PyData}, DpAll K H xs ds → DpAll K H ys es → DpAll K H (xs ++ ys) (ds ++ es)
  | _, _, [], _, h, g => by
    cases h
    exact g
  | _, _, d :: ds, _, h, g => by
    cases h with
    | cons h1 h2 => exact .cons h1 (DpAll.app h2 g)
theorem DpAll.drop {K : PySem.W.Frag} {H : Hp} : ∀ {n : Nat} {xs : List V} {ds : List PyData}, DpAll K H xs ds → DpAll K H (xs.drop n) (ds.drop n)
  | 0, _, _, h => h
  | n + 1, _, [], h => by
    cases h
    exact .nil
  | n + 1, _, d :: ds, h => by
    cases h with
    | cons h1 h2 => exact DpAll.drop (n := n) h2
theorem DpAll.take {K : PySem.W.Frag} {H : Hp} : ∀ {n : Nat} {xs : List V} {ds : List PyData}, DpAll K H xs ds → DpAll K H (xs.take n) (ds.take n)
  | 0, _, _, _ => .nil
  | n + 1, _, [], h => by
    cases h
    exact .nil
  | n + 1, _, d :: ds, h => by
    cases h with
    | cons h1 h2 => exact .cons h1 (DpAll.take (n := n) h2)
/-- a new tuple -/
theorem Dp.newT {K : PySem.W.Frag} {H : Hp} {t : Addr} {xs : List V} {ds : List PyData} (ht : H t = none) (h : DpAll K H xs ds) : Dp K (upd H t (.tup xs)) (.ref t) (.tuple ds) :=
  .tup (SqT.of upd_same) (Ex.dpAll (Ex.new ht) _ _ h)
theorem Dp.newL {K : PySem.W.Frag} {H : Hp} {t : Addr} {xs : List V} {ds : List PyData} (ht : H t = none) (h : DpAll K H xs ds) : Dp K (upd H t (.lst xs)) (.ref t) (.list ds) :=
  .lst (SqL.of upd_same) (Ex.dpAll (Ex.new ht) _ _ h)
end L2
namespace My
open PySem PySem.Spec PyProof.Rows L2
/-! ### data without lists stands apart from the bag -/
mutual
def noL : PyData → Bool
  | .none => true
  | .bool _ => true
  | .int _ => true
  | .str _ => true
  | .list _ => false
  | .tuple ds => noLs ds
  | .dict _ => false
def noLs : List PyData → Bool
  | [] => true
  | d :: ds => noL d && noLs ds
end
theorem sqT_offL {K : PySem.W.Frag} {p : Addr} {l : List V} {H : Hp} {t : Addr} {xs : List V} (h1 : H p = some (.lst l)) (h : SqT K H t xs) : SqT K (wo [p] H) t xs := by
  have ne : ∀ o, H t = some o → (∀ l, o ≠ .lst l) → t ∉ [p] := fun o e no z => by
    rw [List.mem_singleton.mp z, h1] at e
    cases e
    exact no _ rfl
  rcases h with (e | ⟨o, e⟩) | e
  · exact .inl (.inl (by rw [wo_get (ne _ e fun l z => by cases z)]; exact e))
  · exact .inl (.inr ⟨o, by rw [wo_get (ne _ e fun l z => by cases z)]; exact e⟩)
  · exact .inr e
theorem Bag.isL {K : PySem.W.Frag} {p c : Addr} {cs : List Int} {H : Hp} (bag : Bag K c cs H p) : ∃ l, H p = some (.lst l) := by
  obtain ⟨i, s, k, h1, _⟩ := bag
  exact ⟨_, h1⟩
theorem sqT_offB {K : PySem.W.Frag} {p c : Addr} {cs : List Int} {H : Hp} {t : Addr} {xs : List V} (bag : Bag K c cs H p) (h : SqT K H t xs) : SqT K (wo [p] H) t xs := by
  obtain ⟨l, h1⟩ := bag.isL
  exact sqT_offL h1 h
end My
namespace L2
open PySem PySem.Spec PyProof.Rows My
mutual
theorem Dp.offL {K : PySem.W.Frag} {p : Addr} {l : List V} {H : Hp} (h1 : H p = some (.lst l)) : ∀ (d : PyData) (v : V), noL d = true → Dp K H v d → Dp K (wo [p] H) v d
  | .none, _, _, h => by cases h; exact .non
  | .bool b, _, _, h => by cases h; exact .bl b
  | .int i, _, _, h => by cases h; exact .int i
  | .str x, _, _, h => by cases h; exact .str x
  | .list ds, _, n, h => by unfold noL at n; exact Bool.noConfusion n
  | .tuple ds, _, n, h => by
    unfold noL at n
    cases h with
    | tup hs ha => exact .tup (sqT_offL h1 hs) (Dp.offLAll h1 ds _ n ha)
  | .dict _, _, _, h => by cases h
theorem Dp.offLAll {K : PySem.W.Frag} {p : Addr} {l : List V} {H : Hp} (h1 : H p = some (.lst l)) : ∀ (ds : List PyData) (vs : List V), noLs ds = true → DpAll K H vs ds → DpAll K (wo [p] H) vs ds
  | [], _, _, h => by cases h; exact .nil
  | d :: ds, _, n, h => by
    unfold noLs at n
    obtain ⟨n1, n2⟩ := Bool.and_eq_true_iff.mp n
    cases h with
    | cons h2 h3 => exact .cons (Dp.offL h1 d _ n1 h2) (Dp.offLAll h1 ds _ n2 h3)
end
theorem Dp.offAll' {K : PySem.W.Frag} {p c : Addr} {cs : List Int} {H : Hp} (bag : Bag K c cs H p) {ds : List PyData} {vs : List V} (n : noLs ds = true) (h : DpAll K H vs ds) : DpAll K (wo [p] H) vs ds := by
  obtain ⟨l, h1⟩ := bag.isL
  exact Dp.offLAll h1 ds vs n h
theorem Dp.off {K : PySem.W.Frag} {p c : Addr} {cs : List Int} {H : Hp} (bag : Bag K c cs H p) (d : PyData) (v : V) (n : noL d = true) (h : Dp K H v d) : Dp K (wo [p] H) v d := by
  obtain ⟨l, h1⟩ := bag.isL
  exact Dp.offL h1 d v n h
end L2
namespace My
open PySem PySem.Spec PyProof.Rows L2
theorem noLs_ints : ∀ ns : List Int, noLs (ns.map PyData.int) = true
  | [] => rfl
  | n :: ns => by
    show (noL (.int n) && noLs (ns.map PyData.int)) = true
    rw [noLs_ints ns]
    rfl
theorem noLs_all : ∀ {ds : List PyData}, (∀ d ∈ ds, noL d = true) → noLs ds = true
  | [], _ => rfl
  | d :: ds, h => by
    unfold noLs
    rw [h d (List.mem_cons_self), noLs_all fun x hx => h x (List.mem_cons_of_mem _ hx)]
    rfl
/-! ### comprehensions and walks whose range, list or tuple a call makes -/
theorem lcAt {ta : TA} {g : TG} {tt : TT} {te : TE} {vs : List Nat} {σ : L2.St} {H : Hp} {Q : VK} (S : Int → Hp → Prop) (ht : ∀ R : List V → Hp → Prop, (∀ n H0, S n H0 → R [.int n] H0) → ta σ H R)
    (k : ∀ n H0, S n H0 → tLc (iRng1 fun _ H' R => R [.int n] H') g tt te vs σ H0 Q) : tLc (iRng1 ta) g tt te vs σ H Q :=
  ht _ fun n H0 s => k n H0 s
theorem lcAtL {K : PySem.W.Frag} {tl : TE} {g : TG} {tt : TT} {te : TE} {vs : List Nat} {σ : L2.St} {H : Hp} {Q : VK} (S : Addr → Hp → Prop) (ht : ∀ R : VK, (∀ p H0, S p H0 → R (.ref p) H0) → tl σ H R)
    (k : ∀ p H0, S p H0 → tLc (iList K fun _ H' R => R (.ref p) H') g tt te vs σ H0 Q) : tLc (iList K tl) g tt te vs σ H Q :=
  ht _ fun p H0 s => k p H0 s
/-- what a comprehension made, as rows of what each of its items is -/
theorem Made.some {α : Type} {K : PySem.W.Frag} {H : Hp} {f : α → PyData} {G : α → Prop} : ∀ {n : Nat} {ys : List V}, Made n (fun _ v H => ∃ x, G x ∧ Dp K H v (f x)) ys H → ∃ xs : List α, xs.length = n ∧ (∀ x ∈ xs, G x) ∧ DpAll K H ys (xs.map f)
  | n, [], ⟨h1, _⟩ => ⟨[], h1, fun x hx => (List.not_mem_nil hx).elim, .nil⟩
  | n, y :: ys, ⟨h1, h2⟩ => by
    obtain ⟨v, e1, x, gx, dx⟩ := h2 0 (by rw [← h1]; simp)
    have e2 : y = v := by simpa using e1
    subst e2
    obtain ⟨xs, l1, g1, d1⟩ := Made.some (n := ys.length) (ys := ys) (f := f) (G := G) ⟨rfl, fun j hj => by
      obtain ⟨u, e3, r⟩ := h2 (j + 1) (by rw [← h1]; simp; omega)
      exact ⟨u, by simpa using e3, r⟩⟩
    refine ⟨x :: xs, by rw [← h1]; simp [l1], fun z hz => ?_, .cons dx d1⟩
    rcases List.mem_cons.mp hz with rfl | hz
    · exact gx
    · exact g1 z hz
/-! ### data that == may be asked of -/
theorem depth_tup (ds : List PyData) : PyData.depth (.tuple ds) = PyData.depthAll ds + 1 := by simp only [PyData.depth]
theorem depth_lst (ds : List PyData) : PyData.depth (.list ds) = PyData.depthAll ds + 1 := by simp only [PyData.depth]
theorem depthAll_le {n : Nat} : ∀ {ds : List PyData}, (∀ d ∈ ds, PyData.depth d ≤ n) → PyData.depthAll ds ≤ n
  | [], _ => by simp [PyData.depthAll]
  | d :: ds, h => by
    have := depthAll_le (n := n) (ds := ds) fun x hx => h x (List.mem_cons_of_mem _ hx)
    have h2 := h d (List.mem_cons_self)
    simp only [PyData.depthAll]
    omega
theorem canAll : ∀ {ds : List PyData}, (∀ d ∈ ds, PyData.canLay0 d = true) → PyData.canLayAll0 ds = true
  | [], _ => by simp only [PyData.canLayAll0]
  | d :: ds, h => by
    simp only [PyData.canLayAll0]
    rw [h d (List.mem_cons_self), canAll fun x hx => h x (List.mem_cons_of_mem _ hx)]
    rfl
def Shp (n : Nat) (d : PyData) : Prop := PyData.canLay0 d = true ∧ PyData.depth d ≤ n
theorem Shp.shaped {n : Nat} {d : PyData} (h : Shp n d) (hn : n ≤ 64) : SeqAt.shaped d = true := by
  show (PyData.canLay0 d && decide (PyData.depth d ≤ 64)) = true
  rw [h.1, decide_eq_true (Nat.le_trans h.2 hn)]
  rfl
theorem Shp.int (i : Int) : Shp 1 (.int i) := ⟨by simp only [PyData.canLay0], by simp only [PyData.depth]; omega⟩
theorem Shp.bool (i : Bool) : Shp 1 (.bool i) := ⟨by simp only [PyData.canLay0], by simp only [PyData.depth]; omega⟩
theorem Shp.str {i : Str} (h : i.cps.all (· < 0x110000) = true) : Shp 1 (.str i) := ⟨by simp only [PyData.canLay0]; exact h, by simp only [PyData.depth]; omega⟩
theorem Shp.mono {n m : Nat} {d : PyData} (h : Shp n d) (hn : n ≤ m) : Shp m d := ⟨h.1, Nat.le_trans h.2 hn⟩
theorem Shp.tup {n : Nat} {ds : List PyData} (h : ∀ d ∈ ds, Shp n d) : Shp (n + 1) (.tuple ds) :=
  ⟨by simp only [PyData.canLay0]; exact canAll fun d hd => (h d hd).1, by rw [depth_tup]; exact Nat.succ_le_succ (depthAll_le fun d hd => (h d hd).2)⟩
theorem Shp.lst {n : Nat} {ds : List PyData} (h : ∀ d ∈ ds, Shp n d) : Shp (n + 1) (.list ds) :=
  ⟨by simp only [PyData.canLay0]; exact canAll fun d hd => (h d hd).1, by rw [depth_lst]; exact Nat.succ_le_succ (depthAll_le fun d hd => (h d hd).2)⟩
theorem Shp.ints (ns : List Int) : Shp 2 (.tuple (ns.map PyData.int)) := Shp.tup fun d hd => by
  obtain ⟨i, _, rfl⟩ := List.mem_map.mp hd
  exact Shp.int i
theorem okTup (n : Nat) {ds : List PyData} (h : ds.length ≤ 1000) (g : ∀ d ∈ ds, okD n d) : okD (n + 1) (.tuple ds) := ⟨h, g⟩
theorem okLst (n : Nat) {ds : List PyData} (h : ds.length ≤ 1000) (g : ∀ d ∈ ds, okD n d) : okD (n + 1) (.list ds) := ⟨h, g⟩
theorem okInt (n : Nat) (i : Int) : okD n (.int i) := by cases n <;> trivial
theorem okBool (n : Nat) (i : Bool) : okD n (.bool i) := by cases n <;> trivial
theorem okStr (n : Nat) (i : Str) : okD n (.str i) := by cases n <;> trivial
theorem okIntsT (n : Nat) {ns : List Int} (h : ns.length ≤ 1000) : okD (n + 1) (.tuple (ns.map PyData.int)) := okTup n (by rw [List.length_map]; exact h) fun d hd => by
  obtain ⟨i, _, rfl⟩ := List.mem_map.mp hd
  exact okInt n i
theorem mem1 {α : Type} {P : α → Prop} {a : α} (h : P a) : ∀ x ∈ [a], P x := fun x hx => by rw [List.mem_singleton.mp hx]; exact h
theorem memC {α : Type} {P : α → Prop} {a : α} {l : List α} (h : P a) (g : ∀ x ∈ l, P x) : ∀ x ∈ a :: l, P x := fun x hx => by
  rcases List.mem_cons.mp hx with rfl | hx
  · exact h
  · exact g x hx
theorem mem0 {α : Type} {P : α → Prop} : ∀ x ∈ ([] : List α), P x := fun x hx => (List.not_mem_nil hx).elim
theorem iteY {c : Bool} {A B : Prop} (h : c = true) (a : A) : if c = true then A else B := by rw [if_pos h]; exact a
theorem iteN {c : Bool} {A B : Prop} (h : c = false) (b : B) : if c = true then A else B := by subst h; exact b
abbrev rInt1 : List V → Hp → VK → Prop := fun xs H Q => (∃ i, xs = [.int i] ∧ Q (.int i) H) ∨ ∃ k, xs = [.bl k] ∧ Q (.int (if k then 1 else 0)) H
theorem atH (x : V) (r : List V) : atI (x :: r) 0 = some x := at_of (j := 0) (by simp) rfl
theorem Bag.turnedX {K : PySem.W.Frag} {H H' : Hp} {B D c : Addr} {cs : List Int} (b : Bag K c cs (wo [D] H) B) (b' : Bag K c cs H' B) (e : Ex (wo [B] (wo [D] H)) (wo [B] (wo [D] H'))) : Bag K c cs (wo [D] H') B := by
  obtain ⟨i, s, k, h1, h2, h3, h4⟩ := b
  obtain ⟨i', s', k', h1', _, _, h4'⟩ := b'
  have nD : B ∉ [D] := fun z => by
    unfold wo at h1
    rw [if_pos z] at h1
    cases h1
  refine ⟨i', s', k', by rw [wo_get nD]; exact h1', ?_, h3, h4'⟩
  have o2 : ∀ x o, x ≠ B → wo [D] H x = some o → wo [D] H' x = some o := fun x o hx ho => by
    have := e x o (by rw [wo_get (by rw [List.mem_singleton]; exact hx)]; exact ho)
    rwa [wo_get (by rw [List.mem_singleton]; exact hx)] at this
  rcases h2 with (f | ⟨ob, f⟩) | f
  · refine .inl (.inl (o2 _ _ ?_ f))
    intro z
    subst z
    rw [h1] at f
    cases cs <;> simp at f
  · refine .inl (.inr ⟨ob, o2 _ _ ?_ f⟩)
    intro z
    subst z
    rw [h1] at f
    cases f
  · exact .inr f
/-- [e for i in range(n)], where e may change the objects of B; J is what holds of them; the new list is a list -/
theorem lcRB2 {ta : TA} {g : TG} {tt : TT} {te : TE} {vs : List Nat} {σ : L2.St} {H : Hp} {Q : VK} {n : Int} (i : Nat) (B : List Addr) (J : Hp → Prop) (P : Nat → V → Hp → Prop) (ht : ∀ R : List V → Hp → Prop, R [.int n] H → ta σ H R) (hn0 : 0 ≤ n) (hn : n ≤ 100000)
    (hP : ∀ j v H H', Ex H H' → P j v H → P j v H')
    (hw : ∀ x, wipe ((wipe σ vs).set i (some x)) vs = wipe σ vs) (hJ : J H)
    (he : ∀ (j : Nat) D H1 (Q1 : VK) acc, (j : Int) < n → H D = none → H1 D = some (.lst acc) → Ex (wo B H) (wo B (wo [D] H1)) → J (wo [D] H1) →
      (∀ v H2, H2 D = H1 D → Ex (wo B (wo [D] H1)) (wo B (wo [D] H2)) → J (wo [D] H2) → P j v (wo B (wo [D] H2)) → Q1 v H2) → te ((wipe σ vs).set i (some (.int (j : Nat)))) H1 Q1)
    (k : ∀ D H' ys, H D = none → Ex (wo B H) (wo B (wo [D] H')) → J (wo [D] H') → H' D = some (.lst ys) → Made n.toNat P ys (wo B (wo [D] H')) → Q (.ref D) H')
    (hg : g = gName i := by rfl) (htt : tt = tYes := by rfl) : tLc (iRng1 ta) g tt te vs σ H Q := by
  subst hg htt
  refine ht _ ⟨n, rfl, by omega, by omega, fun D hD => ?_⟩
  refine lc_range (lo := 0) (n := n.toNat) (fun j H' => Ex (wo B H) (wo B (wo [D] H')) ∧ J (wo [D] H') ∧ ∃ ys, H' D = some (.lst ys) ∧ Made j P ys (wo B (wo [D] H'))) ⟨?_, ?_, [], upd_same, rfl, fun j hj => absurd hj (Nat.not_lt_zero j)⟩ (fun j H' hj p => ?_) (fun H' p => ?_)
  · rw [wo_upd (List.mem_singleton.mpr rfl), wo_off hD]
    exact Same.refl _
  · rw [wo_upd (List.mem_singleton.mpr rfl), wo_off hD]
    exact hJ
  · obtain ⟨e, hj1, ys, hy, hm⟩ := p
    have e0 : (0 : Int) + (j : Nat) = (j : Nat) := Int.zero_add _
    rw [e0]
    refine ⟨hw _, ?_⟩
    simp only [tYes, if_true]
    refine he j D H' _ ys (by omega) hD hy e hj1 (fun v H2 hD2 e2 hj2 hv => ⟨ys, hD2.trans hy, ?_, ?_, ?_, ys ++ [v], upd_same, ?_⟩)
    · rw [hm.1]
      exact Nat.lt_of_lt_of_le (show j < 100000 by omega) (by decide)
    · rw [wo_upd (List.mem_singleton.mpr rfl)]
      exact e.trans e2
    · rw [wo_upd (List.mem_singleton.mpr rfl)]
      exact hj2
    · rw [wo_upd (List.mem_singleton.mpr rfl)]
      exact hm.more (fun j u hu => hP _ _ _ _ e2 hu) hv
  · obtain ⟨e, hj1, ys, hy, hm⟩ := p
    exact k D H' ys hD e hj1 hy hm
/-- an object that stands apart stays -/
theorem stay {B D : Addr} {H H' : Hp} {o : HO} (e : Ex (wo [B] H) (wo [B] H')) (hB : D ≠ B) (h : H D = some o) : H' D = some o := by
  have := e D o (by rw [wo_get (by rw [List.mem_singleton]; exact hB)]; exact h)
  rwa [wo_get (by rw [List.mem_singleton]; exact hB)] at this
/-- one turn of a comprehension by a call that turns the bag and makes data without lists -/
theorem turn_data {K : PySem.W.Frag} {B D c : Addr} {cs : List Int} {H3 H4 : Hp} {acc : List V} {v : V} {d : PyData} (DB : D ≠ B) (hD : H3 D = some (.lst acc)) (J : Bag K c cs (wo [D] H3) B) (bag : Bag K c cs H4 B) (e : Ex (wo [B] H3) (wo [B] H4))
    (n : noL d = true) (h : Dp K (wo [B] H4) v d) : H4 D = H3 D ∧ Ex (wo [B] (wo [D] H3)) (wo [B] (wo [D] H4)) ∧ Bag K c cs (wo [D] H4) B ∧ Dp K (wo [B] (wo [D] H4)) v d := by
  have h4 := stay e DB hD
  have key : Ex (wo [B] (wo [D] H3)) (wo [B] (wo [D] H4)) := by
    rw [wo_comm, wo_comm (H := H4)]
    exact e.wo
  refine ⟨h4.trans hD.symm, key, J.turnedX bag key, ?_⟩
  rw [wo_comm]
  exact Dp.offL (l := acc) (by rw [wo_get (by rw [List.mem_singleton]; exact DB)]; exact h4) d v n h
theorem up1 {a : V} : ([a] : List V).length ≤ sizeLine := (by decide : 1 ≤ sizeLine)
theorem up2 {a b : V} : ([a, b] : List V).length ≤ sizeLine := (by decide : 2 ≤ sizeLine)
theorem up3 {a b c : V} : ([a, b, c] : List V).length ≤ sizeLine := (by decide : 3 ≤ sizeLine)
theorem up4 {a b c d : V} : ([a, b, c, d] : List V).length ≤ sizeLine := (by decide : 4 ≤ sizeLine)
/-! ### displays evaluated whole -/
def EvD (K : PySem.W.Frag) (te : TE) (σ : L2.St) (d : PyData) : Prop := ∀ (H : Hp) (Q : VK), (∀ v H', Ex H H' → Dp K H' v d → Q v H') → te σ H Q
def EvDs (K : PySem.W.Frag) (ta : TA) (σ : L2.St) (ds : List PyData) : Prop := ∀ (H : Hp) (Q : List V → Hp → Prop), (∀ vs H', Ex H H' → DpAll K H' vs ds → Q vs H') → ta σ H Q
theorem evInt {K : PySem.W.Frag} {σ : L2.St} {i : Int} : EvD K (tC (.int i)) σ (.int i) := fun H Q q => q _ _ (Same.refl _) (.int i)
theorem evStr {K : PySem.W.Frag} {σ : L2.St} {i : Str} : EvD K (tC (.str i)) σ (.str i) := fun H Q q => q _ _ (Same.refl _) (.str i)
theorem evBl {K : PySem.W.Frag} {σ : L2.St} {i : Bool} : EvD K (tC (.bl i)) σ (.bool i) := fun H Q q => q _ _ (Same.refl _) (.bl i)
theorem evNil {K : PySem.W.Frag} {σ : L2.St} : EvDs K tNil σ [] := fun H Q q => q _ _ (Same.refl _) .nil
theorem evCons {K : PySem.W.Frag} {σ : L2.St} {te : TE} {ta : TA} {d : PyData} {ds : List PyData} (h : EvD K te σ d) (g : EvDs K ta σ ds) : EvDs K (tCons te ta) σ (d :: ds) := fun H Q q =>
  h H _ fun v H1 e1 d1 => g H1 _ fun vs H2 e2 d2 => q _ _ (Same.trans e1 e2) (.cons (Ex.dp e2 _ _ d1) d2)
theorem evTup {K : PySem.W.Frag} {σ : L2.St} {ta : TA} {ds : List PyData} (h : EvDs K ta σ ds) (hl : ds.length ≤ 1000) : EvD K (tTup ta) σ (.tuple ds) := fun H Q q =>
  h H _ fun vs H1 e1 d1 => ⟨Nat.le_trans (by rw [DpAll.len d1]; exact hl) (by decide : 1000 ≤ sizeLine), fun t ht => q _ _ (Same.trans e1 (Ex.new ht)) (Dp.newT ht d1)⟩
/-- a new list of data, that is ours -/
theorem evLst {K : PySem.W.Frag} {σ : L2.St} {ta : TA} {ds : List PyData} (h : EvDs K ta σ ds) (hl : ds.length ≤ 1000) {H : Hp} {Q : VK} (q : ∀ p xs H', H p = none → Ex H H' → H' p = some (.lst xs) → DpAll K H' xs ds → Q (.ref p) H') : tLst ta σ H Q :=
  h H _ fun vs H1 e1 d1 => ⟨Nat.le_trans (by rw [DpAll.len d1]; exact hl) (by decide : 1000 ≤ sizeLine), fun t ht => q _ _ _ (e1.free ht) (Same.trans e1 (Ex.new ht)) upd_same (Ex.dpAll (Ex.new ht) _ _ d1)⟩
/-- for .. in a list that a call makes -/
theorem forLC {K : PySem.W.Frag} {tl : TE} {g : TG} {tb : TS} {D : Ends} {σ : L2.St} {H : Hp} (S : Addr → List V → Hp → Prop) (Pv : Addr → List V → Nat → L2.St → Hp → Prop) (ht : ∀ R : VK, (∀ p xs H0, S p xs H0 → R (.ref p) H0) → tl σ H R) (hS : ∀ p xs H0, S p xs H0 → SqL K H0 p xs) (h0 : ∀ p xs H0, S p xs H0 → Pv p xs 0 σ H0)
    (hl : ∀ p xs j σ H, Pv p xs j σ H → SqL K H p xs) (hs : ∀ p xs j x σ H, xs[j]? = some x → Pv p xs j σ H → g x σ H fun σ2 H2 => tb { D with nx := Pv p xs (j + 1), ct := Pv p xs (j + 1), bk := D.nx } σ2 H2) (hd : ∀ p xs σ H, Pv p xs xs.length σ H → D.nx σ H) :
    tFor (iList K tl) g tb D σ H :=
  ht _ fun p xs H0 s => ⟨p, rfl, ⟨xs, hS p xs H0 s⟩, for_list (xs := xs) (Pv p xs) (h0 p xs H0 s) (fun j σ H _ q => hl p xs j σ H q) (fun j x σ H e q => hs p xs j x σ H e q) (hd p xs)⟩
theorem smallLen {n : Nat} (h : n ≤ 1000) : n ≤ sizeLine := Nat.le_trans h (by decide)
end My

namespace My
open PySem PySem.Spec PyProof.Rows L2
/-! ### sum(xs, start=t), xs a list of tuples or of lists -/
section
variable {prog : Program} {w : World} {A : Around} {E : Value → Shared → Prop} {s : Shared}
theorem call_treeK {id : String} {b : Builtin} {args : List Value} {kw : List (Str × Value)} {Q : Value → Shared → Prop} (hk : builtinKind id = none) (hp : plainId id = true)
    (hb : entryFor table id = some b) (ha : argsOk id ⟨args, kw⟩)
    (hc : wpAny (model prog w) A.in1 (b ⟨args, kw⟩) (fun fin s' => match fin with
      | .done f => (match (Except.ok f : Result) with | .ok (.ret v) => Q v s' | .ok _ => False | .error e => E e s')
      | .again c' => c'.quiet = true ∧ codeAny (model prog w) A c' (fun r s' => match r with | .ok (.ret v) => Q v s' | .ok _ => False | .error e => E e s') s') E s) :
    wpAny (model prog w) A (call (.builtin id) args kw) Q E s := by
  refine wpAny_call (codeAny_call_builtin hp hb ?_)
  simp only [checkBuiltinCall, hk]
  cases hsig : Manifest.signature? id with
  | none => exact wpAny_pure hc
  | some sig =>
    simp only [argsOk, hsig] at ha
    have h2 : Bind.checkArgs id sig ⟨args, kw⟩ = pure () := ha
    show wpAny _ A.in1 (Bind.checkArgs id sig ⟨args, kw⟩) _ _ s
    rw [h2]; exact wpAny_pure hc
theorem args_sumS (a b : Value) : argsOk "sum" ⟨[a], [(Str.ofString "start", b)]⟩ := by unfold argsOk; kernel_rfl
theorem sub_tuple_str : isSubtype (.type "tuple") (.type "str") = pure false := by rw [isSubtype_type]; kernel_rfl
theorem sub_tuple_bytes : isSubtype (.type "tuple") (.type "bytes") = pure false := by rw [isSubtype_type]; kernel_rfl
theorem sub_tuple_bytearray : isSubtype (.type "tuple") (.type "bytearray") = pure false := by rw [isSubtype_type]; kernel_rfl
theorem sub_list_str : isSubtype (.type "list") (.type "str") = pure false := by rw [isSubtype_type]; kernel_rfl
theorem sub_list_bytes : isSubtype (.type "list") (.type "bytes") = pure false := by rw [isSubtype_type]; kernel_rfl
theorem sub_list_bytearray : isSubtype (.type "list") (.type "bytearray") = pure false := by rw [isSubtype_type]; kernel_rfl
/-- what stands as the sum behind i items, whatever becomes of the iterator I and the state S; one more item added -/
structure CurOk (prog : Program) (w : World) (A : Around) (items : Array Value) (I S : Addr) (Cur : Nat → Heap → Value → Prop) : Prop where
  isRef : ∀ i h v, Cur i h v → ∃ a, v = .ref a
  keep : ∀ i h h' v, Cur i h v → (∀ b o, b ≠ I → b ≠ S → h.get? b = some o → h'.get? b = some o) → Cur i h' v
  step : ∀ i (s : Shared) v x (Q : Value → Shared → Prop) (E : Value → Shared → Prop), items[i]? = some x → Cur i s.heap v → (∃ o, s.heap.get? I = some o) → (∃ o, s.heap.get? S = some o) →
    (∀ v' h' tk, Cur (i + 1) h' v' → (∀ b o, s.heap.get? b = some o → h'.get? b = some o) → Q v' { s with heap := h', toks := tk }) → wpAny (model prog w) A (binaryOp .Add v x) Q E s
theorem sum_loopO {R : Result → Shared → Prop} (hh : A.in1.handled = none) {I S l : Addr} {items : Array Value} (hIl : l ≠ I) (hSI : S ≠ I) (hSl : S ≠ l) {Cur : Nat → Heap → Value → Prop} (C : CurOk prog w A.in1 items I S Cur) :
    ∀ (k i : Nat) (s : Shared) (v : Value) (c : Nat), items.size - i = k → i ≤ items.size → (s.heap.IsListIter I l i ∧ s.heap.IsList l items) → Cur i s.heap v →
    s.heap.get? S = some { cls := .type "list", dict := none, data := .seq #[v] c, slots := #[] } →
    (∀ v' h' tk, Cur items.size h' v' → (∀ b o, b ≠ I → b ≠ S → s.heap.get? b = some o → h'.get? b = some o) → R (.ok (.ret v')) { s with heap := h', toks := tk }) →
    codeAny (model prog w) A (.builtin "sum.loop" ⟨[.ref I, .ref S, rawInt 2, rawInt 0], []⟩) R s := by
  have W := Walks.list (prog := prog) (w := w) (A := A.in1) hh I l hIl items
  intro k
  induction k with
  | zero =>
    intro i s v c hk hi hst hc hS hR
    have hin : i = items.size := by omega
    subst hin
    obtain ⟨a, rfl⟩ := C.isRef _ _ _ hc
    refine codeAny_builtin F.entry_sum_loop ?_
    rw [Around.under_plainId F.plain_sum_loop _]
    show wpAny _ A.in1 (seqItems? (.ref S) >>= _) _ _ s
    refine wpAny_bind (wpAny_seqItems hS rfl ?_)
    show wpAny _ A.in1 (tryCatch (pyNext (.ref I)) _ >>= _) _ _ s
    refine wpAny_bind (wpAny_tryCatch (W.done s _ _ hst fun h' tk hk' => ?_))
    have hk2 : ∀ b o, b ≠ I → b ≠ S → s.heap.get? b = some o → h'.get? b = some o := fun b o h1 _ e => hk' b o (by simpa using h1) e
    exact wpAny_pure (hR (.ref a) h' tk (C.keep _ _ _ _ hc hk2) hk2)
  | succ k ih =>
    intro i s v c hk hi hst hc hS hR
    have hlt : i < items.size := by omega
    obtain ⟨a, rfl⟩ := C.isRef _ _ _ hc
    refine codeAny_builtin F.entry_sum_loop ?_
    rw [Around.under_plainId F.plain_sum_loop _]
    show wpAny _ A.in1 (seqItems? (.ref S) >>= _) _ _ s
    refine wpAny_bind (wpAny_seqItems hS rfl ?_)
    show wpAny _ A.in1 (tryCatch (pyNext (.ref I)) _ >>= _) _ _ s
    refine wpAny_bind (wpAny_tryCatch (W.item i s _ _ hlt hst fun x h1 tk hP hst1 hk1 => ?_))
    have hS1 := hk1 S _ (by simpa using hSI) hS
    have hkk1 : ∀ b o, b ≠ I → b ≠ S → s.heap.get? b = some o → h1.get? b = some o := fun b o z _ e => hk1 b o (by simpa using z) e
    have hc1 := C.keep _ _ _ _ hc hkk1
    show wpAny _ A.in1 ((holding [x] (binaryOp .Add (.ref a) x)).attempt >>= _) _ _ _
    refine wpAny_bind (wpAny_attempt (wpAny_holding (C.step i { s with heap := h1, toks := tk } _ _ _ _ hP hc1 (let ⟨o, e, _⟩ := hst1.1; ⟨o, e⟩) ⟨_, hS1⟩ fun v' h2 tk2 hc2 hk2 => ?_)))
    have hS2 := hk2 S _ hS1
    obtain ⟨a', rfl⟩ := C.isRef _ _ _ hc2
    have st2 : h2.IsListIter I l (i + 1) ∧ h2.IsList l items := ⟨hst1.1.at fun o e => hk2 I o e, hst1.2.at fun o e => hk2 l o e⟩
    show wpAny _ A.in1 (updateSeq S (fun _ => #[.ref a']) >>= _) _ _ _
    refine wpAny_bind (wpAny_updateSeq hS2 rfl ?_)
    have hS3 := Heap.get?_update_self (Obj.mapSeq fun _ => #[Value.ref a']) hS2 rfl
    refine wpAny_bind (wpAny_letGo ?_)
    have ot : ∀ (b : Addr) o, b ≠ S → h2.get? b = some o → (h2.update S (Obj.mapSeq fun _ => #[Value.ref a'])).get? b = some o := fun b o z e => (Heap.get?_update_other _ _ (fun h : S = b => z h.symm)).trans e
    have hc3 := C.keep _ _ _ _ hc2 fun b o _ z e => ot b o z e
    have st3 : (h2.update S (Obj.mapSeq fun _ => #[Value.ref a'])).IsListIter I l (i + 1) ∧ (h2.update S (Obj.mapSeq fun _ => #[Value.ref a'])).IsList l items := ⟨st2.1.at fun o e => ot I o (fun z => hSI z.symm) e, st2.2.at fun o e => ot l o (fun z => hSl z.symm) e⟩
    refine wpAny_bind (wpAny_updateSeq hS3 rfl (wpAny_pure ⟨plainId_quiet F.plain_sum_loop _, ?_⟩))
    have ot2 : ∀ (b : Addr) o, b ≠ S → h2.get? b = some o → ((h2.update S (Obj.mapSeq fun _ => #[Value.ref a'])).update S (Obj.mapSeq fun _ => #[Value.ref a'])).get? b = some o := fun b o z e => (Heap.get?_update_other _ _ (fun h : S = b => z h.symm)).trans (ot b o z e)
    refine ih (i + 1) _ (.ref a') _ (by omega) hlt ⟨st3.1.at fun o e => (Heap.get?_update_other _ _ hSI).trans e, st3.2.at fun o e => (Heap.get?_update_other _ _ hSl).trans e⟩ ?_ (Heap.get?_update_self _ hS3 rfl) fun v'' h'' tk'' hc'' hk'' => ?_
    · exact C.keep _ _ _ _ hc2 fun b o _ z e => ot2 b o z e
    · exact hR v'' h'' tk'' hc'' fun b o z1 z2 e => hk'' b o z1 z2 (ot2 b o z2 (hk2 b o (hkk1 b o z1 z2 e)))
theorem call_sumO {Q : Value → Shared → Prop} (hh : A.handled = none) {l t : Addr} {items : Array Value} {T : String} (hl : s.heap.IsList l items) (hT : s.TypeIs (.ref t) T) (u1 : isSubtype (.type T) (.type "str") = pure false) (u2 : isSubtype (.type T) (.type "bytes") = pure false) (u3 : isSubtype (.type T) (.type "bytearray") = pure false)
    {Cur : Nat → Heap → Value → Prop} (C : CurOk prog w A.in1 items s.heap.objs.size (s.heap.objs.size + 1) Cur) (h0 : ∀ h' : Heap, (∀ b o, s.heap.get? b = some o → h'.get? b = some o) → Cur 0 h' (.ref t))
    (h : ∀ v' h' tk, Cur items.size h' v' → (∀ b o, s.heap.get? b = some o → h'.get? b = some o) → Q v' { s with heap := h', toks := tk }) :
    wpAny (model prog w) A (call (.builtin "sum") [.ref l] [(Str.ofString "start", .ref t)]) Q E s := by
  refine call_treeK F.kind_sum F.plain_sum F.entry_sum (args_sumS _ _) ?_
  unfold Builtin.«sum»
  simp only [List.length_cons, List.length_nil]
  rw [if_neg (by decide)]
  refine wpAny_bind (wpAny_of_eq (show Builtin.Builtins.bindParams "sum" ["start"] 0 ⟨[], [(Str.ofString "start", Value.ref t)]⟩ = pure [some (Value.ref t)] from rfl) ?_)
  have hlt : l < s.heap.objs.size := by
    obtain ⟨o, e, _⟩ := id hl
    exact Heap.lt_size e
  refine wpAny_bind (wpAny_pyIter_list hl ?_)
  refine wpAny_bind (wpAny_pure ?_)
  have hT1 : ({ s with heap := s.heap.push { cls := .type "list_iterator", data := .fields #[.ref l, .int 0 0] } } : Shared).TypeIs (.ref t) T := by
    obtain ⟨o, e, c⟩ := hT
    exact ⟨o, Heap.get?_push_of_some _ e, c⟩
  simp only [List.forIn_cons, List.forIn_nil]
  refine wpAny_bind (wpAny_bind (wpAny_bind (wpAny_isInstance (b := false) hT1 u1 ?_)))
  simp only [Bool.false_eq_true, if_false]
  refine wpAny_pure (wpAny_bind (wpAny_bind (wpAny_isInstance (b := false) hT1 u2 ?_)))
  simp only [Bool.false_eq_true, if_false]
  refine wpAny_pure (wpAny_bind (wpAny_bind (wpAny_isInstance (b := false) hT1 u3 ?_)))
  simp only [Bool.false_eq_true, if_false]
  refine wpAny_pure (wpAny_pure ?_)
  refine wpAny_bind (wpAny_newObj_type ?_)
  have k1 : ∀ (b : Addr) o, s.heap.get? b = some o → (s.heap.push { cls := .type "list_iterator", data := .fields #[.ref l, .int 0 0] }).get? b = some o := fun b o e => Heap.get?_push_of_some _ e
  have sz : (s.heap.push { cls := .type "list_iterator", data := .fields #[.ref l, .int 0 0] }).objs.size = s.heap.objs.size + 1 := by simp [Heap.push]
  have k2 : ∀ (b : Addr) o, s.heap.get? b = some o → ((s.heap.push { cls := .type "list_iterator", data := .fields #[.ref l, .int 0 0] }).push { cls := .type "list", data := .seq #[.ref t] }).get? b = some o := fun b o e => Heap.get?_push_of_some _ (k1 b o e)
  have hit : (s.heap.push { cls := .type "list_iterator", data := .fields #[.ref l, .int 0 0] }).IsListIter s.heap.objs.size l 0 := ⟨_, Heap.get?_push_size _ rfl, rfl, rfl⟩
  refine wpAny_pure ⟨plainId_quiet F.plain_sum_loop _, ?_⟩
  rw [sz]
  refine sum_loopO (items := items) hh (Nat.ne_of_lt hlt) (Nat.ne_of_gt (Nat.lt_succ_self _)) (Nat.ne_of_gt (Nat.lt_succ_of_lt hlt)) C items.size 0 _ (.ref t) 0 rfl (Nat.zero_le _) ⟨hit.at fun o e => Heap.get?_push_of_some _ e, hl.at fun o e => k2 l o e⟩ (h0 _ k2) ?_ fun v' h' tk hc hk => ?_
  · have : ((s.heap.push { cls := .type "list_iterator", data := .fields #[.ref l, .int 0 0] }).push { cls := .type "list", data := .seq #[.ref t] }).get? (s.heap.push { cls := .type "list_iterator", data := .fields #[.ref l, .int 0 0] }).objs.size = some { cls := .type "list", data := .seq #[.ref t] } := Heap.get?_push_size _ rfl
    rw [sz] at this
    exact this
  · exact h v' h' tk hc fun b o e => hk b o (Nat.ne_of_lt (Heap.lt_size e)) (Nat.ne_of_lt (Nat.lt_succ_of_lt (Heap.lt_size e))) (k2 b o e)
end
theorem Vals.zero' {xs : List V} (r : Vals xs []) : xs = [] := by
  cases xs with
  | nil => rfl
  | cons x xs => cases r
/-- sum(xs, start=t), xs a list of tuples -/
def rSumT (K : PySem.W.Frag) : List V → List V → Hp → VK → Prop := fun vs zs H Q => ∃ (l t : Addr) (ps : List Addr) (yss : List (List V)) (ys0 : List V), vs = [.ref l] ∧ zs = [.ref t] ∧ SqL K H l (ps.map V.ref) ∧ SqT K H t ys0 ∧ ps.length = yss.length ∧
  (∀ (i : Nat) p ys, ps[i]? = some p → yss[i]? = some ys → SqT K H p ys) ∧ (ys0 ++ yss.flatten).length ≤ 100000 ∧ ∀ t' H', Ex H H' → SqT K H' t' (ys0 ++ yss.flatten) → Q (.ref t') H'
theorem flatten_take {α : Type} (yss : List (List α)) (i : Nat) : ((yss.take i).flatten).length ≤ yss.flatten.length := by
  have h := congrArg List.length (congrArg List.flatten (List.take_append_drop i yss))
  rw [List.flatten_append, List.length_append] at h
  omega
theorem cr_sumT {X : Cx} (hc : X.calm = true) : CallRK X (.builtin "sum") [Str.ofString "start"] (rSumT X.K) := by
  intro pins s σ H vs zs us ws Q I r rz h
  obtain ⟨l, t, ps, yss, ys0, rfl, rfl, hl, ht, hlen, hps, hsz, q⟩ := h
  rw [Vals.ref1 r]
  obtain ⟨w1, rfl, e1⟩ := vals1 rz
  cases e1
  obtain ⟨its, rv, hL, _⟩ := I.list hl
  obtain ⟨it0, rv0, hT0, _⟩ := I.tuple ht
  have hlI : its.length = ps.length := by
    have := rv.length
    rw [List.length_map] at this
    exact this.symm
  refine call_sumO (T := "tuple") (items := its.toArray) (I.ok.hd hc) hL.isList hT0.typeIs sub_tuple_str sub_tuple_bytes sub_tuple_bytearray
    (Cur := fun i h v => ∃ cur ws, v = .ref cur ∧ cur ≠ s.heap.objs.size ∧ cur ≠ s.heap.objs.size + 1 ∧ IsTup h cur (List.toArray ws) ∧ Vals (ys0 ++ (yss.take i).flatten) ws ∧ (SqT X.K H cur (ys0 ++ (yss.take i).flatten) ∨ s.heap.get? cur = none) ∧ ∀ b o, s.heap.get? b = some o → h.get? b = some o)
    ⟨fun i h v ⟨cur, ws, e, _⟩ => ⟨cur, e⟩, fun i h h' v ⟨cur, ws, e, n1, n2, ht, rw, hs, kp⟩ k => ⟨cur, ws, e, n1, n2, ?_, rw, hs, fun b o e => k b o (Nat.ne_of_lt (Heap.lt_size e)) (Nat.ne_of_lt (Nat.lt_succ_of_lt (Heap.lt_size e))) (kp b o e)⟩, fun i s' v x Q E hx ⟨cur, ws, e, n1, n2, ht, rw, hs, kp⟩ hI hS kk => ?_⟩ (fun h' k => ⟨t, it0, rfl, Nat.ne_of_lt ?_, Nat.ne_of_lt (Nat.lt_succ_of_lt ?_), hT0.keeps k, ?_, .inl ?_, k⟩) ?_
  · obtain ⟨o, eo, ro⟩ := ht
    exact ⟨o, k _ _ n1 n2 eo, ro⟩
  · have hx' : its[i]? = some x := by simpa using hx
    have hi : i < its.length := (List.getElem?_eq_some_iff.mp hx').1
    have hp1 : ps[i]? = some ps[i] := List.getElem?_eq_getElem (by omega)
    have hy1 : yss[i]? = some yss[i] := List.getElem?_eq_getElem (by omega)
    have hsp := hps i _ _ hp1 hy1
    generalize ps[i] = p at hp1 hsp
    obtain ⟨u, hu1, hu2⟩ := rv.get (i := i) (x := .ref p) (by rw [List.getElem?_map, hp1]; rfl)
    rw [hx'] at hu1
    cases hu1
    cases hu2
    have e1 : (yss.take (i + 1)).flatten = (yss.take i).flatten ++ yss[i] := by
      rw [take_one hy1, List.flatten_append]
      simp
    have e2 : ys0 ++ (yss.take (i + 1)).flatten = (ys0 ++ (yss.take i).flatten) ++ yss[i] := by rw [e1, List.append_assoc]
    have hle := flatten_take yss (i + 1)
    rw [e1, List.length_append] at hle
    rw [List.length_append] at hsz
    obtain ⟨ip, rp, hTp, _⟩ := I.tuple hsp
    subst e
    have hTp' := hTp.keeps kp
    have ltp := hTp.lt
    by_cases z : ws = []
    · subst z
      have z2 := Vals.zero' rw
      refine cat_tup0 ht hTp' (kk (.ref p) s'.heap s'.toks ⟨p, ip, rfl, Nat.ne_of_lt ltp, Nat.ne_of_lt (Nat.lt_succ_of_lt ltp), hTp', ?_, .inl ?_, kp⟩ fun _ _ e => e)
      · rw [e2, z2]
        exact rp
      · rw [e2, z2]
        exact hsp
    · refine HT.cat_tup ht hTp' z (fun y => ?_) (fun y => ?_) ?_
      · have y2 : yss[i] = [] := Vals.zero' (y ▸ rp)
        refine kk (.ref cur) s'.heap s'.toks ⟨cur, ws, rfl, n1, n2, ht, ?_, ?_, kp⟩ fun _ _ e => e
        · rw [e2, y2, List.append_nil]
          exact rw
        · rw [e2, y2, List.append_nil]
          exact hs
      · refine kk (.ref s'.heap.objs.size) _ s'.toks ⟨s'.heap.objs.size, ws ++ ip, rfl, ?_, ?_, IsTup.new _ _, ?_, .inr ?_, fun b o e => Heap.get?_push_of_some _ (kp b o e)⟩ fun b o e => Heap.get?_push_of_some _ e
        · obtain ⟨o, eo⟩ := hI
          exact Nat.ne_of_gt (Heap.lt_size eo)
        · obtain ⟨o, eo⟩ := hS
          exact Nat.ne_of_gt (Heap.lt_size eo)
        · rw [e2]
          exact rw.append rp
        · cases g : s.heap.get? s'.heap.objs.size with
          | none => rfl
          | some o => exact absurd (Heap.lt_size (kp _ _ g)) (Nat.lt_irrefl _)
      · have l1 := rw.length
        have l2 := rp.length
        rw [List.length_append] at l1
        exact Nat.le_trans (show _ ≤ 100000 by omega) (by decide)
  · exact hT0.lt
  · exact hT0.lt
  · simpa using rv0
  · simpa using ht
  · rintro v' h' tk ⟨cur, ws, rfl, n1, n2, ht', rw, hs, kp⟩ _
    have ea : yss.take its.toArray.size = yss := by
      rw [List.size_toArray, hlI, hlen]
      exact List.take_length
    rw [ea] at rw hs
    rcases hs with hs | hs
    · exact ⟨.ref cur, H, I.kept kp, rfl, q cur H (Same.refl _) hs⟩
    · have hn := I.hok.gone hs
      exact ⟨.ref cur, _, I.laidN (o := .tup (ys0 ++ yss.flatten)) kp hs hn ⟨Nat.le_trans hsz (by decide), ws, rw, ht'⟩, rfl, q cur _ (Ex.new hn) (SqT.of upd_same)⟩
/-- sum(xs, start=t), xs a list of lists of ours -/
def rSumL (K : PySem.W.Frag) : List V → List V → Hp → VK → Prop := fun vs zs H Q => ∃ (l t : Addr) (ps : List Addr) (yss : List (List V)) (ys0 : List V), vs = [.ref l] ∧ zs = [.ref t] ∧ SqL K H l (ps.map V.ref) ∧ H t = some (.lst ys0) ∧ ps.length = yss.length ∧
  (∀ (i : Nat) p ys, ps[i]? = some p → yss[i]? = some ys → H p = some (.lst ys)) ∧ (ys0 ++ yss.flatten).length ≤ 100000 ∧ ∀ t' H', Ex H H' → H' t' = some (.lst (ys0 ++ yss.flatten)) → (t' = t ∨ H t' = none) → Q (.ref t') H'
theorem cr_sumL {X : Cx} (hc : X.calm = true) : CallRK X (.builtin "sum") [Str.ofString "start"] (rSumL X.K) := by
  intro pins s σ H vs zs us ws Q I r rz h
  obtain ⟨l, t, ps, yss, ys0, rfl, rfl, hl, ht, hlen, hps, hsz, q⟩ := h
  rw [Vals.ref1 r]
  obtain ⟨w1, rfl, e1⟩ := vals1 rz
  cases e1
  obtain ⟨its, rv, hL, _⟩ := I.list hl
  obtain ⟨z0, it0, m0, rv0, hl0, eT0⟩ := I.lstM ht
  have hlI : its.length = ps.length := by
    have := rv.length
    rw [List.length_map] at this
    exact this.symm
  have lt0 := Heap.lt_size eT0
  refine call_sumO (T := "list") (items := its.toArray) (I.ok.hd hc) hL.isList ⟨_, eT0, rfl⟩ sub_list_str sub_list_bytes sub_list_bytearray
    (Cur := fun i h v => ∃ cur ws n, v = .ref cur ∧ cur ≠ s.heap.objs.size ∧ cur ≠ s.heap.objs.size + 1 ∧ h.get? cur = some { cls := .type "list", data := .seq (List.toArray ws) n } ∧ Vals (ys0 ++ (yss.take i).flatten) ws ∧ ((cur = t ∧ H cur = some (.lst (ys0 ++ (yss.take i).flatten))) ∨ s.heap.get? cur = none) ∧ ∀ b o, s.heap.get? b = some o → h.get? b = some o)
    ⟨fun i h v ⟨cur, ws, n, e, _⟩ => ⟨cur, e⟩, fun i h h' v ⟨cur, ws, n, e, n1, n2, ht, rw, hs, kp⟩ k => ⟨cur, ws, n, e, n1, n2, k _ _ n1 n2 ht, rw, hs, fun b o e => k b o (Nat.ne_of_lt (Heap.lt_size e)) (Nat.ne_of_lt (Nat.lt_succ_of_lt (Heap.lt_size e))) (kp b o e)⟩, fun i s' v x Q E hx ⟨cur, ws, n, e, n1, n2, ht, rw, hs, kp⟩ hI hS kk => ?_⟩ (fun h' k => ⟨t, it0, m0, rfl, Nat.ne_of_lt lt0, Nat.ne_of_lt (Nat.lt_succ_of_lt lt0), k _ _ eT0, ?_, .inl ⟨rfl, ?_⟩, k⟩) ?_
  · have hx' : its[i]? = some x := by simpa using hx
    have hi : i < its.length := (List.getElem?_eq_some_iff.mp hx').1
    have hp1 : ps[i]? = some ps[i] := List.getElem?_eq_getElem (by omega)
    have hy1 : yss[i]? = some yss[i] := List.getElem?_eq_getElem (by omega)
    have hsp := hps i _ _ hp1 hy1
    generalize ps[i] = p at hp1 hsp
    obtain ⟨u, hu1, hu2⟩ := rv.get (i := i) (x := .ref p) (by rw [List.getElem?_map, hp1]; rfl)
    rw [hx'] at hu1
    cases hu1
    cases hu2
    have e1 : (yss.take (i + 1)).flatten = (yss.take i).flatten ++ yss[i] := by
      rw [take_one hy1, List.flatten_append]
      simp
    have e2 : ys0 ++ (yss.take (i + 1)).flatten = (ys0 ++ (yss.take i).flatten) ++ yss[i] := by rw [e1, List.append_assoc]
    have hle := flatten_take yss (i + 1)
    rw [e1, List.length_append] at hle
    rw [List.length_append] at hsz
    obtain ⟨zp, ip, mp, rp, hlp, eTp⟩ := I.lstM hsp
    subst e
    have l1 := rw.length
    have l2 := rp.length
    rw [List.length_append] at l1
    refine PySem.P.add_list ht (kp _ _ eTp) ?_ (by rw [List.size_toArray, List.size_toArray]; exact Nat.le_trans (show _ ≤ 100000 by omega) (by decide))
    have ea : ws.toArray ++ ip.toArray = (ws ++ ip).toArray := by simp
    rw [ea]
    refine kk (.ref s'.heap.objs.size) _ s'.toks ⟨s'.heap.objs.size, ws ++ ip, 0, rfl, ?_, ?_, Heap.get?_push_size _ rfl, ?_, .inr ?_, fun b o e => Heap.get?_push_of_some _ (kp b o e)⟩ fun b o e => Heap.get?_push_of_some _ e
    · obtain ⟨o, eo⟩ := hI
      exact Nat.ne_of_gt (Heap.lt_size eo)
    · obtain ⟨o, eo⟩ := hS
      exact Nat.ne_of_gt (Heap.lt_size eo)
    · rw [e2]
      exact rw.append rp
    · cases g : s.heap.get? s'.heap.objs.size with
      | none => rfl
      | some o => exact absurd (Heap.lt_size (kp _ _ g)) (Nat.lt_irrefl _)
  · simpa using rv0
  · simpa using ht
  · rintro v' h' tk ⟨cur, ws, n, rfl, n1, n2, ht', rw, hs, kp⟩ _
    have ea : yss.take its.toArray.size = yss := by
      rw [List.size_toArray, hlI, hlen]
      exact List.take_length
    rw [ea] at rw hs
    rcases hs with ⟨hc, hs⟩ | hs
    · exact ⟨.ref cur, H, I.kept kp, rfl, q cur H (Same.refl _) hs (.inl hc)⟩
    · have hn := I.hok.gone hs
      exact ⟨.ref cur, _, I.laidN (o := .lst (ys0 ++ yss.flatten)) kp hs hn ⟨Nat.le_trans hsz (by decide), ws, n, rw, ht'⟩, rfl, q cur _ (Ex.new hn) upd_same (.inr hn)⟩
end My

namespace My
open PySem PySem.Spec PyProof.Rows L2
def topS (i : Nat) : Stmt := PySem.Challenge.pw_plugtree_k15_whole_each_piece_once_from.main.body.getD i (.Pass ⟨0, 0, 0, 0⟩)
abbrev s_is_number : Stmt := topS 4
abbrev s_need_number : Stmt := topS 5
abbrev s_cut : Stmt := topS 8
abbrev s_asked : Stmt := topS 9
abbrev s_went : Stmt := topS 10
abbrev s__law_bag : Stmt := topS 12
abbrev s__law_pull : Stmt := topS 13
abbrev s__law_bytes : Stmt := topS 14
abbrev s__law_fates : Stmt := topS 15
abbrev s__law_taken : Stmt := topS 16
abbrev s__law_rows : Stmt := topS 17
abbrev s__law_right : Stmt := topS 18
abbrev s_law : Stmt := topS 19
structure Ad where
  w : World
  f_is_number : Addr
  d_is_number : FuncData
  f_need_number : Addr
  d_need_number : FuncData
  f_cut : Addr
  d_cut : FuncData
  f_asked : Addr
  d_asked : FuncData
  f_went : Addr
  d_went : FuncData
  f__law_bag : Addr
  d__law_bag : FuncData
  f__law_pull : Addr
  d__law_pull : FuncData
  f__law_bytes : Addr
  d__law_bytes : FuncData
  f__law_fates : Addr
  d__law_fates : FuncData
  f__law_taken : Addr
  d__law_taken : FuncData
  f__law_rows : Addr
  d__law_rows : FuncData
  f__law_right : Addr
  d__law_right : FuncData
  f_law : Addr
  d_law : FuncData
  c_BusError : Addr
  c_BadNumber : Addr
  k_MOST_SIZE : Tok
structure Txt (K : PySem.W.Frag) (mg : Str → Option Value) (a : Ad) : Prop where
  F_is_number : Fun K "is_number" "is_number" s_is_number a.f_is_number a.d_is_number
  g_is_number : mg "is_number" = some (.ref a.f_is_number)
  b_is_number : Binds K a.d_is_number ["value", "low", "high"] []
  F_need_number : Fun K "need_number" "need_number" s_need_number a.f_need_number a.d_need_number
  g_need_number : mg "need_number" = some (.ref a.f_need_number)
  b_need_number : Binds K a.d_need_number ["number", "low", "high"] []
  F_cut : Fun K "cut" "cut" s_cut a.f_cut a.d_cut
  g_cut : mg "cut" = some (.ref a.f_cut)
  b_cut : Binds K a.d_cut ["data", "size"] []
  F_asked : Fun K "asked" "asked" s_asked a.f_asked a.d_asked
  g_asked : mg "asked" = some (.ref a.f_asked)
  b_asked : Binds K a.d_asked ["half"] []
  F_went : Fun K "went" "went" s_went a.f_went a.d_went
  g_went : mg "went" = some (.ref a.f_went)
  b_went : Binds K a.d_went ["half"] []
  F__law_bag : Fun K "_law_bag" "_law_bag" s__law_bag a.f__law_bag a.d__law_bag
  g__law_bag : mg "_law_bag" = some (.ref a.f__law_bag)
  b__law_bag : Binds K a.d__law_bag ["_law_script"] []
  F__law_pull : Fun K "_law_pull" "_law_pull" s__law_pull a.f__law_pull a.d__law_pull
  g__law_pull : mg "_law_pull" = some (.ref a.f__law_pull)
  b__law_pull : Binds K a.d__law_pull ["_law_bag_here", "_law_upto"] []
  F__law_bytes : Fun K "_law_bytes" "_law_bytes" s__law_bytes a.f__law_bytes a.d__law_bytes
  g__law_bytes : mg "_law_bytes" = some (.ref a.f__law_bytes)
  b__law_bytes : Binds K a.d__law_bytes ["_law_bag_here", "_law_most"] []
  F__law_fates : Fun K "_law_fates" "_law_fates" s__law_fates a.f__law_fates a.d__law_fates
  g__law_fates : mg "_law_fates" = some (.ref a.f__law_fates)
  b__law_fates : Binds K a.d__law_fates ["_law_bag_here", "_law_many"] []
  F__law_taken : Fun K "_law_taken" "_law_taken" s__law_taken a.f__law_taken a.d__law_taken
  g__law_taken : mg "_law_taken" = some (.ref a.f__law_taken)
  b__law_taken : Binds K a.d__law_taken ["_law_half", "_law_fates_here"] []
  F__law_rows : Fun K "_law_rows" "_law_rows" s__law_rows a.f__law_rows a.d__law_rows
  g__law_rows : mg "_law_rows" = some (.ref a.f__law_rows)
  b__law_rows : Binds K a.d__law_rows ["_law_many"] []
  F__law_right : Fun K "_law_right" "_law_right" s__law_right a.f__law_right a.d__law_right
  g__law_right : mg "_law_right" = some (.ref a.f__law_right)
  b__law_right : Binds K a.d__law_right ["_law_pieces", "_law_half", "_law_got"] []
  F_law : Fun K "law" "law" s_law a.f_law a.d_law
  g_law : mg "law" = some (.ref a.f_law)
  b_law : Binds K a.d_law ["_law_script"] []
  gC_BusError : mg "BusError" = some (.ref a.c_BusError)
  gC_BadNumber : mg "BadNumber" = some (.ref a.c_BadNumber)
  xC_BadNumber : PySem.W.excIn K a.c_BadNumber [.type "ValueError", .type "Exception", .type "BaseException", .type "object"] "ValueError.__new__" = true
  kC_BadNumber : PySem.W.keepIn K (.ref a.c_BadNumber) = true
  bC_BadNumber : PySem.W.subIn K (.ref a.c_BadNumber) (.type "BaseException") = some true
  tC_BadNumber : PySem.W.typeIn K (.ref a.c_BadNumber) = some (.type "type")
  g_MOST_SIZE : mg "MOST_SIZE" = some (.int 64 a.k_MOST_SIZE)
  n_int : mg "int" = none
  n_isinstance : mg "isinstance" = none
  n_len : mg "len" = none
  n_list : mg "list" = none
  n_range : mg "range" = none
  n_sum : mg "sum" = none
  n_tuple : mg "tuple" = none
/-! ### the promises -/
def sp_is_number (K : PySem.W.Frag) (_ : Ad) : Sp := fun vs H Q _ => ∃ (v : V) (d : PyData) (lo hi : Int), vs = [v, .int lo, .int hi] ∧ Dp K H v d ∧ (∀ b, d ≠ .bool b) ∧ Q (.bl (isNum d lo hi)) H
def sp_need_number (_ : PySem.W.Frag) (a : Ad) : Sp := fun vs H Q E => ∃ n lo hi : Int, vs = [.int n, .int lo, .int hi] ∧ (lo ≤ n ∧ n ≤ hi → Q .non H) ∧ (¬ (lo ≤ n ∧ n ≤ hi) → E (.ref a.c_BadNumber) none H)
def sp__law_bag (K : PySem.W.Frag) (_ : Ad) : Sp := fun vs H Q _ => ∃ (p : Addr) (cs : List Int), vs = [.ref p] ∧ SqL K H p (cs.map V.int) ∧ cs.length ≤ 63 ∧ ∀ q c H', H q = none → Ex H H' → Bag K c cs H' q → Q (.ref q) H'
def sp__law_pull (K : PySem.W.Frag) (_ : Ad) : Sp := fun vs H Q _ => ∃ (p c : Addr) (cs : List Int) (u : Int), vs = [.ref p, .int u] ∧ Bag K c cs H p ∧ 0 < u ∧ u < 2 ^ 1000 ∧
  ∀ r H', 0 ≤ r → r < u → Bag K c cs H' p → (∀ b, b ≠ p → H' b = H b) → Q (.int r) H'
def spLaw (K : PySem.W.Frag) : Sp := fun vs H Q _ => ∃ (p : Addr) (cs : List Int), vs = [.ref p] ∧ SqL K H p (cs.map V.int) ∧ cs.length ≤ 63 ∧ ∀ H', Q (.bl true) H'
def sp_law (K : PySem.W.Frag) (_ : Ad) : Sp := spLaw K
def sp__law_bytes (K : PySem.W.Frag) (_ : Ad) : Sp := fun vs H Q _ => ∃ (p c : Addr) (cs : List Int) (u : Int), vs = [.ref p, .int u] ∧ Bag K c cs H p ∧ 0 ≤ u ∧ u ≤ 900 ∧
  ∀ (t : Addr) (ns : List Int) (H' : Hp), (ns.length : Int) ≤ u → ns.all byteN = true → Bag K c cs H' p → Ex (wo [p] H) (wo [p] H') → SqT K (wo [p] H') t (ns.map V.int) → Q (.ref t) H'
/-- rows of numbers -/
def pcD (ps : List (List Int)) : List PyData := ps.map fun p => .tuple (p.map PyData.int)
def ghD (m : Int) (b : Bool) (ps : List (List Int)) : PyData := .tuple [.int m, .bool b, .tuple (pcD ps)]
def askedD (m : Int) (b : Bool) (ps : List (List Int)) : PyData := if b = true then .tuple [.str "stall"] else match ps with
  | [] => .tuple [.str "nak"]
  | p :: _ => .tuple [.str "data", .int m, .tuple (p.map PyData.int)]
def wentD (m : Int) (b : Bool) (ps : List (List Int)) : PyData := if b = true ∨ ps = [] then ghD m b ps else ghD (1 - m) false ps.tail
def thD (m : Int) (b : Bool) (r : Int) (ns : List Int) : PyData := .tuple [.int m, .bool b, .int r, .tuple (ns.map PyData.int)]
def sp_asked (K : PySem.W.Frag) (_ : Ad) : Sp := fun vs H Q _ => ∃ (v : V) (m : Int) (b : Bool) (ps : List (List Int)), vs = [v] ∧ Dp K H v (ghD m b ps) ∧ ∀ v' H', Ex H H' → Dp K H' v' (askedD m b ps) → Q v' H'
def sp_went (K : PySem.W.Frag) (_ : Ad) : Sp := fun vs H Q _ => ∃ (v : V) (m : Int) (b : Bool) (ps : List (List Int)), vs = [v] ∧ Dp K H v (ghD m b ps) ∧ ∀ v' H', Ex H H' → Dp K H' v' (wentD m b ps) → Q v' H'
/-- a message's pieces -/
def cutL (ns : List Int) (k : Nat) : List (List Int) := (List.range (ns.length / k + 1)).map fun j => (ns.drop (j * k)).take k
/-- a new list of pieces -/
def RetP (K : PySem.W.Frag) (pss : List (List Int)) (H : Hp) (Q : VK) : Prop := ∀ (l : Addr) (xs : List V) (H' : Hp), H l = none → Ex H H' → H' l = some (.lst xs) → DpAll K H' xs (pcD pss) → Q (.ref l) H'
def sp_cut (K : PySem.W.Frag) (_ : Ad) : Sp := fun vs H Q _ => ∃ (p : Addr) (ns : List Int) (k : Int), vs = [.ref p, .int k] ∧ SqT K H p (ns.map V.int) ∧ 1 ≤ k ∧ k ≤ 64 ∧ ns.length ≤ 1000 ∧ RetP K (cutL ns k.toNat) H Q
/-- a new list of numbers -/
def RetL (ns : List Int) (H : Hp) (Q : VK) : Prop := ∀ (l : Addr) (H' : Hp), H l = none → Ex H H' → H' l = some (.lst (ns.map V.int)) → Q (.ref l) H'
def sp__law_fates (K : PySem.W.Frag) (_ : Ad) : Sp := fun vs H Q _ => ∃ (p c : Addr) (cs : List Int) (u : Int), vs = [.ref p, .int u] ∧ Bag K c cs H p ∧ 0 ≤ u ∧ u ≤ 900 ∧
  ∀ (l : Addr) (ns : List Int) (H' : Hp), H l = none → (ns.length : Int) ≤ u → Bag K c cs H' p → Ex (wo [p] H) (wo [p] H') → H' l = some (.lst (ns.map V.int)) → Q (.ref l) H'
/-- rows of numbers, lists in a list -/
def RowsAt (H : Hp) (xs : List V) : Prop := ∀ x ∈ xs, ∃ (p : Addr) (ns : List Int), x = V.ref p ∧ H p = some (.lst (ns.map V.int)) ∧ ns.length ≤ 5
def sp__law_rows (K : PySem.W.Frag) (_ : Ad) : Sp := fun vs H Q _ => vs = [.int 5] ∧ ∀ (l : Addr) (xs : List V) (H' : Hp), H l = none → Ex H H' → H' l = some (.lst xs) → RowsAt H' xs → Q (.ref l) H'
/-- what stands behind g pieces taken of P -/
def Good15 (P ps : List (List Int)) (g : Nat) : Prop := g ≤ P.length ∧ (ps = P.drop g ∨ (0 < g ∧ ps = P.drop (g - 1)))
def sp__law_taken (K : PySem.W.Frag) (_ : Ad) : Sp := fun vs H Q _ => ∃ (v : V) (lf : Addr) (m : Int) (P : List (List Int)) (fs : List Int), vs = [v, .ref lf] ∧ Dp K H v (ghD m false P) ∧ (m = 0 ∨ m = 1) ∧ P.length ≤ 900 ∧ SqL K H lf (fs.map V.int) ∧
  ∀ v' H' m' ps (g : Nat), Ex H H' → Dp K H' v' (.tuple [ghD m' false ps, .list (pcD (P.take g))]) → Good15 P ps g → Q v' H'
def sp__law_right (K : PySem.W.Frag) (_ : Ad) : Sp := fun vs H Q _ => ∃ (lp : Addr) (v u : V) (m : Int) (xs : List V) (P ps : List (List Int)) (g : Nat), vs = [.ref lp, v, u] ∧ Dp K H v (ghD m false ps) ∧ Dp K H u (.list (pcD (P.take g))) ∧
  SqL K H lp xs ∧ DpAll K H xs (pcD P) ∧ P.length ≤ 900 ∧ Good15 P ps g ∧ ∀ H', Ex H H' → Q (.bl true) H'
/-! ### is_number -/
abbrev N_is_number : List Str := ["value", "low", "high"]
abbrev P_is_number : List Str := ["value", "low", "high"]
theorem sc_is_number : FnScope N_is_number P_is_number (defScope s_is_number) := ⟨rfl, rfl, rfl, by decide +kernel, rfl, by decide +kernel, by decide +kernel⟩
def t_is_number (K : PySem.W.Frag) (a : Ad) : TS :=
    (tRet (tAndV (tCB (rIsi K) (tCons (tVar 0) (tCons (tC (.ty "int")) tNil))) (tChain rLeI rLeI (tVar 1) (tVar 0) (tVar 2))))
/-! ### need_number -/
abbrev N_need_number : List Str := ["number", "low", "high"]
abbrev P_need_number : List Str := ["number", "low", "high"]
theorem sc_need_number : FnScope N_need_number P_need_number (defScope s_need_number) := ⟨rfl, rfl, rfl, by decide +kernel, rfl, by decide +kernel, by decide +kernel⟩
def t_need_number (K : PySem.W.Frag) (a : Ad) (E : XK) : TS :=
    (tIfS (tNot (tB (tCall (sp_is_number K a) [] E0 (tCons (tVar 0) (tCons (tVar 1) (tCons (tVar 2) tNil)))))) (tRaiseC a.c_BadNumber E) tNext)
/-! ### cut -/
abbrev N_cut : List Str := ["data", "size", "start"]
abbrev P_cut : List Str := ["data", "size"]
theorem sc_cut : FnScope N_cut P_cut (defScope s_cut) := ⟨rfl, rfl, rfl, by decide +kernel, rfl, by decide +kernel, by decide +kernel⟩
def t_cut (K : PySem.W.Frag) (a : Ad) (E : XK) : TS :=
    (tSeq (tDrop (tCall (sp_need_number K a) [] E (tCons (tVar 1) (tCons (tC (.int 1)) (tCons (tC (.int 64)) tNil)))))
    (tRet (tLc (iRng3 (tCons (tC (.int 0)) (tCons (tOp rAddI (tCB (rLenQ K) (tCons (tVar 0) tNil)) (tC (.int 1))) (tCons (tVar 1) tNil)))) (gName 2) tYes (tSl (rSlA K) (tVar 0) (tPart (tVar 2)) (tPart (tOp rAddI (tVar 2) (tVar 1)))) [2])))
/-! ### asked -/
abbrev N_asked : List Str := ["half", "mark", "halted", "pieces"]
abbrev P_asked : List Str := ["half"]
theorem sc_asked : FnScope N_asked P_asked (defScope s_asked) := ⟨rfl, rfl, rfl, by decide +kernel, rfl, by decide +kernel, by decide +kernel⟩
def t_asked (K : PySem.W.Frag) (a : Ad) : TS :=
    (tSeq (tAsg (tVar 0) (gTup K 3 (gCons (gName 1) (gCons (gName 2) (gCons (gName 3) gNil)))))
    (tSeq (tIfS (tB (tVar 2)) (tRet (tTup (tCons (tC (.str ("stall" : Str))) tNil))) tNext)
    (tSeq (tIfS (tTest (tOp rEq (tCB (rLenQ K) (tCons (tVar 3) tNil)) (tC (.int 0)))) (tRet (tTup (tCons (tC (.str ("nak" : Str))) tNil))) tNext)
    (tRet (tTup (tCons (tC (.str ("data" : Str))) (tCons (tVar 1) (tCons (tOp (rIxT K) (tVar 3) (tC (.int 0))) tNil))))))))
/-! ### went -/
abbrev N_went : List Str := ["half", "mark", "halted", "pieces"]
abbrev P_went : List Str := ["half"]
theorem sc_went : FnScope N_went P_went (defScope s_went) := ⟨rfl, rfl, rfl, by decide +kernel, rfl, by decide +kernel, by decide +kernel⟩
def t_went (K : PySem.W.Frag) (a : Ad) : TS :=
    (tSeq (tAsg (tVar 0) (gTup K 3 (gCons (gName 1) (gCons (gName 2) (gCons (gName 3) gNil)))))
    (tSeq (tIfS (tOr (tB (tVar 2)) (tTest (tOp rEq (tCB (rLenQ K) (tCons (tVar 3) tNil)) (tC (.int 0))))) (tRet (tVar 0)) tNext)
    (tRet (tTup (tCons (tOp rSubI (tC (.int 1)) (tVar 1)) (tCons (tC (.bl false)) (tCons (tSl (rSlA K) (tVar 3) (tPart (tC (.int 1))) tNoPart) tNil)))))))
/-! ### _law_bag -/
abbrev N__law_bag : List Str := ["_law_script", "_law_cells", "_law_knot", "_law_cell"]
abbrev P__law_bag : List Str := ["_law_script"]
theorem sc__law_bag : FnScope N__law_bag P__law_bag (defScope s__law_bag) := ⟨rfl, rfl, rfl, by decide +kernel, rfl, by decide +kernel, by decide +kernel⟩
def t__law_bag (K : PySem.W.Frag) (a : Ad) : TS :=
    (tSeq (tAsg (tCB (rListOf K) (tCons (tSl (rSlL K) (tVar 0) tNoPart (tPart (tC (.int 63)))) tNil)) (gName 1))
    (tSeq (tAsg (tOp rAddI (tC (.int 17)) (tCB (rLenQ K) (tCons (tVar 1) tNil))) (gName 2))
    (tSeq (tFor (iList K (tVar 1)) (gName 3) (tAsg (tOp rModI (tOp rAddI (tOp rMulI (tVar 2) (tC (.int 1543))) (tVar 3)) (tC (.int 2147483629))) (gName 2)))
    (tRet (tLst (tCons (tVar 1) (tCons (tC (.int 0)) (tCons (tC (.int 0)) (tCons (tVar 2) tNil)))))))))
/-! ### _law_pull -/
abbrev N__law_pull : List Str := ["_law_bag_here", "_law_upto", "_law_seed", "_law_fold", "_law_twist", "_law_drawn"]
abbrev P__law_pull : List Str := ["_law_bag_here", "_law_upto"]
theorem sc__law_pull : FnScope N__law_pull P__law_pull (defScope s__law_pull) := ⟨rfl, rfl, rfl, by decide +kernel, rfl, by decide +kernel, by decide +kernel⟩
def t__law_pull (K : PySem.W.Frag) (a : Ad) : TS :=
    (tSeq (tIfS (tTest (tOp rLtI (tOp (rIxL K) (tVar 0) (tC (.int 2))) (tC (.int 2)))) (tSeq (tAsg (tOp rAddI (tOp (rIxL K) (tVar 0) (tC (.int 1))) (tC (.int 1))) (gSub (tVar 0) (tC (.int 1)) rSetL))
    (tSeq (tAsg (tOp rAddI (tOp (rIxL K) (tVar 0) (tC (.int 3))) (tOp rMulI (tOp (rIxL K) (tVar 0) (tC (.int 1))) (tC (.int 7919)))) (gName 2))
    (tSeq (tIfS (tTest (tOp rLeI (tOp (rIxL K) (tVar 0) (tC (.int 1))) (tCB (rLenQ K) (tCons (tOp (rIxL K) (tVar 0) (tC (.int 0))) tNil)))) (tAsg (tOp (rIxL K) (tOp (rIxL K) (tVar 0) (tC (.int 0))) (tOp rSubI (tOp (rIxL K) (tVar 0) (tC (.int 1))) (tC (.int 1)))) (gName 2)) tNext)
    (tSeq (tIfS (tOr (tTest (tOp rGtI (tOp (rIxL K) (tVar 0) (tC (.int 1))) (tCB (rLenQ K) (tCons (tOp (rIxL K) (tVar 0) (tC (.int 0))) tNil)))) (tTest (tOp rLtI (tVar 2) (tOp rPowI (tC (.int 10)) (tC (.int 18)))))) (tSeq (tAsg (tOp rModI (tOp rAddI (tOp rAddI (tOp rMulI (tVar 2) (tC (.int 48271))) (tOp rMulI (tOp (rIxL K) (tVar 0) (tC (.int 1))) (tC (.int 40692)))) (tOp (rIxL K) (tVar 0) (tC (.int 3)))) (tC (.int 2147483647))) (gName 3))
    (tSeq (tAsg (tOp rModI (tOp rAddI (tOp rMulI (tVar 3) (tVar 3)) (tOp (rIxL K) (tVar 0) (tC (.int 1)))) (tC (.int 998244353))) (gName 4))
    (tRet (tOp rModI (tOp rDivW (tOp rModI (tOp rAddI (tOp rMulI (tVar 4) (tC (.int 69621))) (tVar 3)) (tC (.int 2147483629))) (tC (.int 7))) (tVar 1))))) tNext)
    (tAsg (tVar 2) (gSub (tVar 0) (tC (.int 2)) rSetL)))))) tNext)
    (tSeq (tAsg (tOp rModI (tOp (rIxL K) (tVar 0) (tC (.int 2))) (tVar 1)) (gName 5))
    (tSeq (tAsg (tOp rDivW (tOp (rIxL K) (tVar 0) (tC (.int 2))) (tVar 1)) (gSub (tVar 0) (tC (.int 2)) rSetL))
    (tRet (tVar 5)))))
/-! ### _law_bytes -/
abbrev N__law_bytes : List Str := ["_law_bag_here", "_law_most", "_law_many", "_law_k"]
abbrev P__law_bytes : List Str := ["_law_bag_here", "_law_most"]
theorem sc__law_bytes : FnScope N__law_bytes P__law_bytes (defScope s__law_bytes) := ⟨rfl, rfl, rfl, by decide +kernel, rfl, by decide +kernel, by decide +kernel⟩
def t__law_bytes (K : PySem.W.Frag) (a : Ad) : TS :=
    (tSeq (tAsg (tCall (sp__law_pull K a) [] E0 (tCons (tVar 0) (tCons (tOp rAddI (tVar 1) (tC (.int 1))) tNil))) (gName 2))
    (tSeq (tIfS (tTest (tOp rEq (tCall (sp__law_pull K a) [] E0 (tCons (tVar 0) (tCons (tC (.int 4)) tNil))) (tC (.int 0)))) (tRet (tOp (rRepT2 K) (tTup (tCons (tCall (sp__law_pull K a) [] E0 (tCons (tVar 0) (tCons (tC (.int 256)) tNil))) tNil)) (tVar 2))) tNext)
    (tRet (tCB (rTupleOf K) (tCons (tLc (iRng1 (tCons (tVar 2) tNil)) (gName 3) tYes (tCall (sp__law_pull K a) [] E0 (tCons (tVar 0) (tCons (tC (.int 256)) tNil))) [3]) tNil)))))
/-! ### _law_fates -/
abbrev N__law_fates : List Str := ["_law_bag_here", "_law_many", "_law_bad", "_law_k"]
abbrev P__law_fates : List Str := ["_law_bag_here", "_law_many"]
theorem sc__law_fates : FnScope N__law_fates P__law_fates (defScope s__law_fates) := ⟨rfl, rfl, rfl, by decide +kernel, rfl, by decide +kernel, by decide +kernel⟩
def t__law_fates (K : PySem.W.Frag) (a : Ad) : TS :=
    (tSeq (tAsg (tCall (sp__law_pull K a) [] E0 (tCons (tVar 0) (tCons (tC (.int 4)) tNil))) (gName 2))
    (tRet (tLc (iRng1 (tCons (tVar 1) tNil)) (gName 3) tYes (tIf (tTest (tOp rLtI (tCall (sp__law_pull K a) [] E0 (tCons (tVar 0) (tCons (tC (.int 4)) tNil))) (tVar 2))) (tCall (sp__law_pull K a) [] E0 (tCons (tVar 0) (tCons (tC (.int 4)) tNil))) (tC (.int 0))) [3])))
/-! ### _law_taken -/
abbrev N__law_taken : List Str := ["_law_half", "_law_fates_here", "_law_mark", "_law_got", "_law_fate", "_law_packet"]
abbrev P__law_taken : List Str := ["_law_half", "_law_fates_here"]
theorem sc__law_taken : FnScope N__law_taken P__law_taken (defScope s__law_taken) := ⟨rfl, rfl, rfl, by decide +kernel, rfl, by decide +kernel, by decide +kernel⟩
def t__law_taken (K : PySem.W.Frag) (a : Ad) : TS :=
    (tSeq (tAsg (tOp (rIxT K) (tVar 0) (tC (.int 0))) (gName 2))
    (tSeq (tAsg (tLst tNil) (gName 3))
    (tSeq (tFor (iList K (tVar 1)) (gName 4) (tSeq (tAsg (tCall (sp_asked K a) [] E0 (tCons (tVar 0) tNil)) (gName 5))
    (tIfS (tAnd (tTest (tOp (rIn K false) (tVar 4) (tTup (tCons (tC (.int 0)) (tCons (tC (.int 3)) tNil))))) (tTest (tOp rEq (tOp (rIxT K) (tVar 5) (tC (.int 0))) (tC (.str ("data" : Str)))))) (tSeq (tIfS (tTest (tOp rEq (tOp (rIxT K) (tVar 5) (tC (.int 1))) (tVar 2))) (tSeq (tDrop (tBM K "list" rAppend (tVar 3) (tCons (tOp (rIxT K) (tVar 5) (tC (.int 2))) tNil)))
    (tAsg (tOp rSubI (tC (.int 1)) (tVar 2)) (gName 2))) tNext)
    (tIfS (tTest (tOp rEq (tVar 4) (tC (.int 0)))) (tAsg (tCall (sp_went K a) [] E0 (tCons (tVar 0) tNil)) (gName 0)) tNext)) tNext)))
    (tRet (tTup (tCons (tVar 0) (tCons (tVar 3) tNil)))))))
/-! ### _law_rows -/
abbrev N__law_rows : List Str := ["_law_many", "_law_found", "_law_k", "_law_row"]
abbrev P__law_rows : List Str := ["_law_many"]
theorem sc__law_rows : FnScope N__law_rows P__law_rows (defScope s__law_rows) := ⟨rfl, rfl, rfl, by decide +kernel, rfl, by decide +kernel, by decide +kernel⟩
def t__law_rows (K : PySem.W.Frag) (a : Ad) : TS :=
    (tSeq (tAsg (tLst (tCons (tLst tNil) tNil)) (gName 1))
    (tSeq (tFor (iRng1 (tCons (tVar 0) tNil)) (gName 2) (tAsg (tCKw (rSumL K) (tCons (tLc (iList K (tVar 1)) (gName 3) tYes (tLst (tCons (tOp rCat (tVar 3) (tLst (tCons (tC (.int 0)) tNil))) (tCons (tOp rCat (tVar 3) (tLst (tCons (tC (.int 2)) tNil))) (tCons (tOp rCat (tVar 3) (tLst (tCons (tC (.int 3)) tNil))) tNil)))) [3]) tNil) (tCons (tLst tNil) tNil)) (gName 1)))
    (tRet (tVar 1))))
/-! ### _law_right -/
abbrev N__law_right : List Str := ["_law_pieces", "_law_half", "_law_got", "_law_many"]
abbrev P__law_right : List Str := ["_law_pieces", "_law_half", "_law_got"]
theorem sc__law_right : FnScope N__law_right P__law_right (defScope s__law_right) := ⟨rfl, rfl, rfl, by decide +kernel, rfl, by decide +kernel, by decide +kernel⟩
def t__law_right (K : PySem.W.Frag) (a : Ad) : TS :=
    (tSeq (tAsg (tCB (rLenQ K) (tCons (tVar 2) tNil)) (gName 3))
    (tSeq (tIfS (tTest (tOp (rNeD K) (tVar 2) (tSl (rSlL K) (tVar 0) tNoPart (tPart (tVar 3))))) (tRet (tC (.bl false))) tNext)
    (tRet (tOrV (tOp (rEqD K) (tCB (rListOf K) (tCons (tOp (rIxT K) (tVar 1) (tC (.int 2))) tNil)) (tSl (rSlL K) (tVar 0) (tPart (tVar 3)) tNoPart)) (tAndV (tOp rGtI (tVar 3) (tC (.int 0))) (tOp (rEqD K) (tCB (rListOf K) (tCons (tOp (rIxT K) (tVar 1) (tC (.int 2))) tNil)) (tSl (rSlL K) (tVar 0) (tPart (tOp rSubI (tVar 3) (tC (.int 1)))) tNoPart)))))))
/-! ### law -/
abbrev N_law : List Str := ["_law_script", "_law_bag_here", "_law_pieces", "_law_row", "_law_half", "_law_got"]
abbrev P_law : List Str := ["_law_script"]
theorem sc_law : FnScope N_law P_law (defScope s_law) := ⟨rfl, rfl, rfl, by decide +kernel, rfl, by decide +kernel, by decide +kernel⟩
def t_law (K : PySem.W.Frag) (a : Ad) : TS :=
    (tSeq (tAsg (tCall (sp__law_bag K a) [] E0 (tCons (tVar 0) tNil)) (gName 1))
    (tSeq (tAsg (tOp rCat (tCall (sp_cut K a) [] E0 (tCons (tCall (sp__law_bytes K a) [] E0 (tCons (tVar 1) (tCons (tC (.int 20)) tNil))) (tCons (tC (.int 8)) tNil))) (tCall (sp_cut K a) [] E0 (tCons (tCall (sp__law_bytes K a) [] E0 (tCons (tVar 1) (tCons (tC (.int 9)) tNil))) (tCons (tC (.int 8)) tNil)))) (gName 2))
    (tSeq (tFor (iList K (tCall (sp__law_rows K a) [] E0 (tCons (tC (.int 5)) tNil))) (gName 3) (tSeq (tAsg (tCall (sp__law_taken K a) [] E0 (tCons (tTup (tCons (tC (.int 0)) (tCons (tC (.bl false)) (tCons (tCB (rTupleOf K) (tCons (tVar 2) tNil)) tNil)))) (tCons (tVar 3) tNil))) (gTup K 2 (gCons (gName 4) (gCons (gName 5) gNil))))
    (tIfS (tNot (tB (tCall (sp__law_right K a) [] E0 (tCons (tVar 2) (tCons (tVar 4) (tCons (tVar 5) tNil)))))) (tRet (tC (.bl false))) tNext)))
    (tSeq (tAsg (tCall (sp_cut K a) [] E0 (tCons (tCall (sp__law_bytes K a) [] E0 (tCons (tVar 1) (tCons (tC (.int 120)) tNil))) (tCons (tC (.int 8)) tNil))) (gName 2))
    (tSeq (tAsg (tCall (sp__law_taken K a) [] E0 (tCons (tTup (tCons (tCall (sp__law_pull K a) [] E0 (tCons (tVar 1) (tCons (tC (.int 2)) tNil))) (tCons (tC (.bl false)) (tCons (tCB (rTupleOf K) (tCons (tVar 2) tNil)) tNil)))) (tCons (tCall (sp__law_fates K a) [] E0 (tCons (tVar 1) (tCons (tC (.int 40)) tNil))) tNil))) (gTup K 2 (gCons (gName 4) (gCons (gName 5) gNil))))
    (tRet (tCall (sp__law_right K a) [] E0 (tCons (tVar 2) (tCons (tVar 4) (tCons (tVar 5) tNil))))))))))
end My

namespace My
open PySem PySem.Spec PyProof.Rows L2
section
variable {P : Program} {w : World} {K : PySem.W.Frag} {mg : Str → Option Value} {base : Heap} {a : Ad}
local macro_rules | `(tactic| walk_at "sm") => `(tactic| try simp only [tSeq, tAsg, tVar, tC, tOp, tUn, tRet, tRetN, tDrop, tIfS, tNext, tAnd, tOr, tNot, tB, tTest, tChain, tAndV, tOrV, tNotV, tIf, tCB, tCons, tNil, tCall, tCallS, tPar, tCKw, rInt1, tLst, tTup, tSl, tNoPart, tPart,
  tAug, ipI, gName, gSub, gTup, gCons, gNil, rI0, rI, rU, rEq, rNe, rIsN, rNotN, rAddI, rSubI, rMulI, rModI, rDivW, rPowI, rShlI, rShrI, rAndI, rOrI, rXorI, rLtI, rLeI, rGtI, rGeI, rNegI, rIxL, rIxT, rLenQ, rListOf, rTupleOf, rSetL, tRevL, tRaiseC, rSlL,
  List.getElem?_cons_zero, List.getElem?_cons_succ, List.set_cons_zero, List.set_cons_succ, Option.some.injEq, V.int.injEq, V.bl.injEq, V.ref.injEq, V.str.injEq, exists_eq_left', exists_eq_left, exists_and_left, List.cons.injEq, and_true, true_and, List.append_nil, scal, Int.reduceToNat, if_true, if_false, Bool.false_eq_true])
local macro_rules | `(tactic| walk_at "bg") => `(tactic| repeat (first
  | refine ⟨_, SqL.of (by assumption), _, rfl, ?_⟩
  | refine ⟨_, SqL.of upd_same, _, rfl, ?_⟩
  | refine ⟨_, rfl, ?_⟩
  | refine ⟨_, (by assumption), _, rfl, ?_⟩
  | refine ⟨_, upd_same, _, rfl, ?_⟩
  | refine ⟨Or.inr ⟨by omega, by omega⟩, ?_⟩
  | refine ⟨Or.inl ⟨by omega, by omega⟩, ?_⟩
  | refine ⟨(show (0 : Int) < _ by omega), ?_⟩
  | refine ⟨_, .inl (SqL.of upd_same), ?_⟩
  | refine ⟨_, .inl (by assumption), ?_⟩))
local macro_rules | `(tactic| walk_at "ty") => `(tactic| try simp only [tyS, tyL, tyT, if_true, if_false, Bool.false_eq_true, reduceCtorEq, decide_false, decide_true, exists_eq_left', exists_eq_left, V.bl.injEq, and_true, true_and, Bool.not_true, Bool.not_false, decide_eq_true_eq, Bool.true_and, Bool.and_true])
theorem rd_is_number : RD (sp_is_number K a) (t_is_number K a) N_is_number := by
  rintro vs H Q E ⟨v, d, lo, hi, rfl, hd, nb, q⟩
  show t_is_number K a _ [some v, some (.int lo), some (.int hi)] H
  unfold t_is_number
  walk_at "sm"
  refine isi hd (by decide) ?_
  walk_at "sm"
  refine iteB (fun h => ?_) (fun h => ?_)
  · cases hd with
    | int i =>
      walk_at "sm"
      refine iteP (fun h1 => ?_) (fun h1 => ?_)
      · simpa only [isNum, decide_eq_true h1, Bool.true_and] using q
      · simpa only [isNum, decide_eq_false h1, Bool.false_and] using q
    | bl b => exact absurd rfl (nb b)
    | _ => exact Bool.noConfusion h
  · cases hd with
    | int i => exact Bool.noConfusion h
    | bl b => exact absurd rfl (nb b)
    | _ => exact q
theorem rd_need_number : RDX (sp_need_number K a) (t_need_number K a) N_need_number := by
  rintro vs H Q E ⟨n, lo, hi, rfl, h1, h2⟩
  show t_need_number K a E _ [some (.int n), some (.int lo), some (.int hi)] H
  unfold t_need_number
  walk_at "sm"
  refine ⟨_, _, _, _, rfl, .int n, (fun b z => nomatch z), ?_⟩
  walk_at "sm"
  refine iteB (fun h => h2 ?_) (fun h => h1 ?_) <;> simp [isNum] at h <;> omega
theorem rd__law_bag : RD (sp__law_bag K a) (t__law_bag K a) N__law_bag := by
  rintro vs H Q E ⟨p, cs, rfl, hS, hl, q⟩
  show t__law_bag K a _ [some (.ref p), none, none, none] H
  unfold t__law_bag
  walk_at "sm"
  refine ⟨_, hS, fun p1 hp1 => ?_⟩
  rw [cutV_all (by rw [List.length_map]; omega)]
  refine ⟨_, .inl (SqL.of upd_same), fun p2 hp2 => ?_⟩
  refine ⟨_, .inl (SqL.of upd_same), ?_⟩
  have e0 : Ex H (upd (upd H p1 (.lst (cs.map V.int))) p2 (.lst (cs.map V.int))) := (Ex.new hp1).trans (Ex.new hp2)
  generalize hH2 : upd (upd H p1 (.lst (cs.map V.int))) p2 (.lst (cs.map V.int)) = H2 at e0
  have hS2 : H2 p2 = some (.lst (cs.map V.int)) := by rw [← hH2]; exact upd_same
  refine forL 3 (fun j σ H' => ∃ (k : Int) (x : Option V), σ = [some (.ref p), some (.ref p2), some (.int k), x] ∧ H' = H2 ∧ k.natAbs < 2147483629) (fun R r => ⟨_, rfl, r⟩) (SqL.of hS2) ⟨_, _, rfl, rfl, ?_⟩ ?hl ?hs ?hd
  · rw [List.length_map]
    omega
  case hl =>
    rintro j σ H' ⟨k, x, rfl, rfl, _⟩
    exact SqL.of hS2
  case hs =>
    rintro j x σ H' hj ⟨k, y, rfl, rfl, hk⟩
    rw [List.getElem?_map] at hj
    obtain ⟨b, hb1, rfl⟩ := Option.map_eq_some_iff.mp hj
    walk_at "sm"
    refine ⟨.inr ⟨by omega, by omega⟩, by omega, _, _, ⟨rfl, rfl⟩, ?_⟩
    omega
  case hd =>
    rintro σ H' ⟨k, x, rfl, rfl, hk⟩
    walk_at "sm"
    refine ⟨by show 4 ≤ sizeLine; decide, fun p3 hp3 => ?_⟩
    refine q p3 p2 _ ?_ (e0.trans (Ex.new hp3)) ⟨0, 0, k, upd_same, ?_, hl, by omega⟩
    · exact e0.free hp3
    · exact (Ex.new hp3).sqL (SqL.of hS2)
end
end My

namespace My
open PySem PySem.Spec PyProof.Rows L2
section
variable {P : Program} {w : World} {K : PySem.W.Frag} {mg : Str → Option Value} {base : Heap} {a : Ad}
local macro_rules | `(tactic| walk_at "sm") => `(tactic| try simp only [tSeq, tAsg, tVar, tC, tOp, tUn, tRet, tRetN, tDrop, tIfS, tNext, tAnd, tOr, tNot, tB, tTest, tChain, tAndV, tOrV, tNotV, tIf, tCB, tCons, tNil, tCall, tCallS, tPar, tCKw, rInt1, tLst, tTup, tSl, tNoPart, tPart,
  tAug, ipI, gName, gSub, gTup, gCons, gNil, rI0, rI, rU, rEq, rNe, rIsN, rNotN, rAddI, rSubI, rMulI, rModI, rDivW, rPowI, rShlI, rShrI, rAndI, rOrI, rXorI, rLtI, rLeI, rGtI, rGeI, rNegI, rIxL, rIxT, rLenQ, rListOf, rTupleOf, rSetL, tRevL, tRaiseC, rSlL,
  List.getElem?_cons_zero, List.getElem?_cons_succ, List.set_cons_zero, List.set_cons_succ, Option.some.injEq, V.int.injEq, V.bl.injEq, V.ref.injEq, V.str.injEq, exists_eq_left', exists_eq_left, exists_and_left, List.cons.injEq, and_true, true_and, List.append_nil, scal, Int.reduceToNat, if_true, if_false, Bool.false_eq_true])
local macro_rules | `(tactic| walk_at "bg") => `(tactic| repeat (first
  | refine ⟨_, SqL.of (by assumption), _, rfl, ?_⟩
  | refine ⟨_, SqL.of upd_same, _, rfl, ?_⟩
  | refine ⟨_, rfl, ?_⟩
  | refine ⟨_, (by assumption), _, rfl, ?_⟩
  | refine ⟨_, upd_same, _, rfl, ?_⟩
  | refine ⟨Or.inr ⟨by omega, by omega⟩, ?_⟩
  | refine ⟨Or.inl ⟨by omega, by omega⟩, ?_⟩
  | refine ⟨(show (0 : Int) < _ by omega), ?_⟩
  | refine ⟨_, .inl (SqL.of upd_same), ?_⟩
  | refine ⟨_, .inl (by assumption), ?_⟩))
local macro_rules | `(tactic| walk_at "ty") => `(tactic| try simp only [tyS, tyL, tyT, if_true, if_false, Bool.false_eq_true, reduceCtorEq, decide_false, decide_true, exists_eq_left', exists_eq_left, V.bl.injEq, and_true, true_and, Bool.not_true, Bool.not_false, decide_eq_true_eq, Bool.true_and, Bool.and_true])
theorem rd__law_pull : RD (sp__law_pull K a) (t__law_pull K a) N__law_pull := by
  rintro vs H Q E ⟨p, c, cs, u, rfl, ⟨i, s, k, hp, hS, hl, h0⟩, hu, hu2, q⟩
  show t__law_pull K a _ [some (.ref p), some (.int u), none, none, none, none] H
  unfold t__law_pull
  have at0 : ∀ i s k : Int, atI [V.ref c, .int i, .int s, .int k] 0 = some (.ref c) := fun _ _ _ => rfl
  have at1 : ∀ i s k : Int, atI [V.ref c, .int i, .int s, .int k] 1 = some (.int i) := fun _ _ _ => rfl
  have at2 : ∀ i s k : Int, atI [V.ref c, .int i, .int s, .int k] 2 = some (.int s) := fun _ _ _ => rfl
  have at3 : ∀ i s k : Int, atI [V.ref c, .int i, .int s, .int k] 3 = some (.int k) := fun _ _ _ => rfl
  have mod0 : ∀ z : Int, 0 ≤ z % u ∧ z % u < u := fun z => ⟨Int.emod_nonneg _ (by omega), Int.emod_lt_of_pos _ hu⟩
  -- the end: what is left of a number
  have fin : ∀ (H : Hp) (i s k : Int) x y z, H p = some (.lst [.ref c, .int i, .int s, .int k]) → SqL K H c (cs.map V.int) → 0 ≤ i → (∀ r H', 0 ≤ r → r < u → Bag K c cs H' p → (∀ b, b ≠ p → H' b = H b) → Q (.int r) H') →
      (tSeq (tAsg (tOp rModI (tOp (rIxL K) (tVar 0) (tC (.int 2))) (tVar 1)) (gName 5)) (tSeq (tAsg (tOp rDivW (tOp (rIxL K) (tVar 0) (tC (.int 2))) (tVar 1)) (gSub (tVar 0) (tC (.int 2)) rSetL)) (tRet (tVar 5))))
        { nx := fun _ H' => Q .non H', rt := Q } [some (.ref p), some (.int u), x, y, z, none] H := by
    intro H i s k x y z hp hS h0 q
    walk_at "sm"
    refine ⟨_, SqL.of hp, _, at2 _ _ _, _, rfl, hu, ?_⟩
    walk_at "sm"
    refine ⟨_, SqL.of hp, _, at2 _ _ _, _, rfl, cdivS hu hu2, _, hp, 2, rfl, ?_⟩
    exact q _ _ (mod0 _).1 (mod0 _).2 (bag_mk hp hS hl h0) upd_off
  walk_at "sm"
  walk_at "bg"
  refine iteP (fun h => ?_) (fun h => ?_)
  · walk_at "bg"
    have hS' := bag_ne hp hS
    walk_at "sm"
    have fin2 := fun (s' : Int) x y z (hz : 0 ≤ i + 1) => fin (upd H p (.lst [V.ref c, .int (i + 1), .int s', .int k])) (i + 1) s' k x y z upd_same (hS' _) hz (fun r H' r0 r1 hb he => q r H' r0 r1 hb (fun b hbp => (he b hbp).trans (upd_ne hbp)))
    have hp2 : (upd H p (.lst [V.ref c, .int (i + 1), .int s, .int k])) p = some (.lst [V.ref c, .int (i + 1), .int s, .int k]) := upd_same
    have hS2 := hS' (.lst [V.ref c, .int (i + 1), .int s, .int k])
    have bag2 : Bag K c cs (upd H p (.lst [V.ref c, .int (i + 1), .int s, .int k])) p := ⟨_, _, _, hp2, hS2, hl, by omega⟩
    have off2 : ∀ b, b ≠ p → (upd H p (.lst [V.ref c, .int (i + 1), .int s, .int k])) b = H b := fun b hb => upd_ne hb
    have eo : ∀ s', upd (upd H p (.lst [V.ref c, .int (i + 1), .int s, .int k])) p (.lst [V.ref c, .int (i + 1), .int s', .int k]) = upd H p (.lst [V.ref c, .int (i + 1), .int s', .int k]) := fun _ => upd_upd
    generalize upd H p (.lst [V.ref c, .int (i + 1), .int s, .int k]) = H2 at hp2 hS2 bag2 off2 eo ⊢
    have drawn : ∀ (seed : Int) (x : Option V), (tSeq (tAsg (tOp rModI (tOp rAddI (tOp rAddI (tOp rMulI (tVar 2) (tC (.int 48271))) (tOp rMulI (tOp (rIxL K) (tVar 0) (tC (.int 1))) (tC (.int 40692)))) (tOp (rIxL K) (tVar 0) (tC (.int 3)))) (tC (.int 2147483647))) (gName 3))
        (tSeq (tAsg (tOp rModI (tOp rAddI (tOp rMulI (tVar 3) (tVar 3)) (tOp (rIxL K) (tVar 0) (tC (.int 1)))) (tC (.int 998244353))) (gName 4))
        (tRet (tOp rModI (tOp rDivW (tOp rModI (tOp rAddI (tOp rMulI (tVar 4) (tC (.int 69621))) (tVar 3)) (tC (.int 2147483629))) (tC (.int 7))) (tVar 1)))))
        { nx := fun _ _ => False, rt := Q } [some (.ref p), some (.int u), some (.int seed), none, none, x] H2 := by
      intro seed x
      walk_at "sm"
      walk_at "bg"
      refine ⟨cdivS (by omega) (by omega), hu, ?_⟩
      exact q _ _ (mod0 _).1 (mod0 _).2 bag2 off2
    have after : ∀ seed : Int, (tSeq (tIfS (tOr (tTest (tOp rGtI (tOp (rIxL K) (tVar 0) (tC (.int 1))) (tCB (rLenQ K) (tCons (tOp (rIxL K) (tVar 0) (tC (.int 0))) tNil)))) (tTest (tOp rLtI (tVar 2) (tOp rPowI (tC (.int 10)) (tC (.int 18)))))) (tSeq (tAsg (tOp rModI (tOp rAddI (tOp rAddI (tOp rMulI (tVar 2) (tC (.int 48271))) (tOp rMulI (tOp (rIxL K) (tVar 0) (tC (.int 1))) (tC (.int 40692)))) (tOp (rIxL K) (tVar 0) (tC (.int 3)))) (tC (.int 2147483647))) (gName 3))
        (tSeq (tAsg (tOp rModI (tOp rAddI (tOp rMulI (tVar 3) (tVar 3)) (tOp (rIxL K) (tVar 0) (tC (.int 1)))) (tC (.int 998244353))) (gName 4))
        (tRet (tOp rModI (tOp rDivW (tOp rModI (tOp rAddI (tOp rMulI (tVar 4) (tC (.int 69621))) (tVar 3)) (tC (.int 2147483629))) (tC (.int 7))) (tVar 1))))) tNext) (tAsg (tVar 2) (gSub (tVar 0) (tC (.int 2)) rSetL)))
        { nx := (tSeq (tAsg (tOp rModI (tOp (rIxL K) (tVar 0) (tC (.int 2))) (tVar 1)) (gName 5)) (tSeq (tAsg (tOp rDivW (tOp (rIxL K) (tVar 0) (tC (.int 2))) (tVar 1)) (gSub (tVar 0) (tC (.int 2)) rSetL)) (tRet (tVar 5)))) { nx := fun _ H' => Q .non H', rt := Q }, rt := Q } [some (.ref p), some (.int u), some (.int seed), none, none, none] H2 := by
      intro seed
      have dr := drawn seed none
      have f2 := fin2 seed (some (.int seed)) none none (by omega)
      rw [← eo] at f2
      revert dr f2
      walk_at "sm"
      intro dr f2
      have lastly : ∀ R : Prop, R → (∃ x, H2 p = some (.lst x) ∧ ∃ x_1, ixN x.length 2 = some x_1 ∧ R) := fun R r => ⟨_, hp2, 2, rfl, r⟩
      refine ⟨_, SqL.of hp2, _, rfl, _, SqL.of hp2, _, rfl, c, rfl, _, .inl hS2, _, rfl, ?_⟩
      refine iteP (fun h1 => dr) (fun h1 => ?_)
      refine ⟨⟨by omega, by omega, by omega⟩, ?_⟩
      refine iteP (fun h1 => dr) (fun h1 => ?_)
      exact ⟨_, hp2, 2, rfl, f2⟩
    refine ⟨_, .inl hS2, ?_⟩
    refine iteP (fun h1 => ?_) (fun h1 => ?_)
    · rw [List.length_map] at h1
      obtain ⟨b, hb⟩ : ∃ b, cs[i.toNat]? = some b := ⟨_, List.getElem?_eq_getElem (by omega)⟩
      refine ⟨_, SqL.of hp2, _, rfl, _, SqL.of hp2, _, rfl, _, rfl, c, rfl, _, hS2, .int b, ?_, ?_⟩
      · refine at_of (j := i.toNat) (by omega) ?_
        rw [List.getElem?_map, hb]
        rfl
      · have := after b
        revert this
        walk_at "sm"
        exact id
    · have := after (k + (i + 1) * 7919)
      revert this
      walk_at "sm"
      exact id
  · have := fin H i s k none none none hp hS h0 q
    revert this
    walk_at "sm"
    exact id
end
end My

namespace My
open PySem PySem.Spec PyProof.Rows L2
section
variable {P : Program} {w : World} {K : PySem.W.Frag} {mg : Str → Option Value} {base : Heap} {a : Ad}
local macro_rules | `(tactic| walk_at "sm") => `(tactic| try simp only [tSeq, tAsg, tVar, tC, tOp, tUn, tRet, tRetN, tDrop, tIfS, tNext, tAnd, tOr, tNot, tB, tTest, tChain, tAndV, tOrV, tNotV, tIf, tCB, tCons, tNil, tCall, tCallS, tPar, tCKw, rInt1, tLst, tTup, tSl, tNoPart, tPart,
  tAug, ipI, gName, gSub, gTup, gCons, gNil, rI0, rI, rU, rEq, rNe, rIsN, rNotN, rAddI, rSubI, rMulI, rModI, rDivW, rPowI, rShlI, rShrI, rAndI, rOrI, rXorI, rLtI, rLeI, rGtI, rGeI, rNegI, rIxL, rIxT, rLenQ, rListOf, rTupleOf, rSetL, tRevL, tRaiseC, rSlL,
  List.getElem?_cons_zero, List.getElem?_cons_succ, List.set_cons_zero, List.set_cons_succ, Option.some.injEq, V.int.injEq, V.bl.injEq, V.ref.injEq, V.str.injEq, exists_eq_left', exists_eq_left, exists_and_left, List.cons.injEq, and_true, true_and, List.append_nil, scal, Int.reduceToNat, if_true, if_false, Bool.false_eq_true])
local macro_rules | `(tactic| walk_at "bg") => `(tactic| repeat (first
  | refine ⟨_, SqL.of (by assumption), _, rfl, ?_⟩
  | refine ⟨_, SqL.of upd_same, _, rfl, ?_⟩
  | refine ⟨_, rfl, ?_⟩
  | refine ⟨_, (by assumption), _, rfl, ?_⟩
  | refine ⟨_, upd_same, _, rfl, ?_⟩
  | refine ⟨Or.inr ⟨by omega, by omega⟩, ?_⟩
  | refine ⟨Or.inl ⟨by omega, by omega⟩, ?_⟩
  | refine ⟨(show (0 : Int) < _ by omega), ?_⟩
  | refine ⟨_, .inl (SqL.of upd_same), ?_⟩
  | refine ⟨_, .inl (by assumption), ?_⟩))
local macro_rules | `(tactic| walk_at "ty") => `(tactic| try simp only [tyS, tyL, tyT, if_true, if_false, Bool.false_eq_true, reduceCtorEq, decide_false, decide_true, exists_eq_left', exists_eq_left, V.bl.injEq, and_true, true_and, Bool.not_true, Bool.not_false, decide_eq_true_eq, Bool.true_and, Bool.and_true])
theorem allByte_rep {r : Int} {k : Nat} (h0 : 0 ≤ r) (h1 : r < 256) : (List.replicate k r).all byteN = true := by
  rw [List.all_eq_true]
  intro b hb
  obtain ⟨_, rfl⟩ := List.mem_replicate.mp hb
  simp [byteN]
  omega
theorem rd__law_bytes : RD (sp__law_bytes K a) (t__law_bytes K a) N__law_bytes := by
  rintro vs H Q E ⟨p, c, cs, u, rfl, bag, h0, h1, q⟩
  show t__law_bytes K a _ [some (.ref p), some (.int u), none, none] H
  unfold t__law_bytes
  walk_at "sm"
  have big : ∀ u : Int, u < 2000 → u < 2 ^ 1000 := fun u h => Int.lt_of_lt_of_le h (by decide)
  refine ⟨p, c, cs, _, rfl, bag, by omega, big _ (by omega), fun many H1 m0 m1 bag1 o1 => ?_⟩
  refine ⟨p, c, cs, _, rfl, bag1, by decide, big _ (by decide), fun r H2 r0 r1 bag2 o2 => ?_⟩
  walk_at "sm"
  have x2 : Ex (wo [p] H) (wo [p] H2) := (off_wo o1).trans (off_wo o2)
  refine iteP (fun _ => ?_) (fun _ => ?_)
  · refine ⟨p, c, cs, _, rfl, bag2, by decide, big _ (by decide), fun b H3 b0 b1 bag3 o3 => ?_⟩
    refine ⟨by show 1 ≤ sizeLine; decide, fun t ht => ?_⟩
    have tp : t ∉ [p] := fun z => bag3.there (by rw [← List.mem_singleton.mp z]; exact ht)
    have x3 : Ex (wo [p] H) (wo [p] (upd H3 t (.tup [.int b]))) := (x2.trans (off_wo o3)).trans (Ex.new ht).wo
    have bag4 := bag3.mono (Ex.new ht (o := .tup [.int b]))
    refine ⟨t, many, [.int b], rfl, rfl, SqT.of upd_same, by simp, m0, by omega, by show 1 ≤ 1000; decide, fun k1 => ?_, fun k1 t2 ht2 => ?_⟩
    · subst k1
      refine q t [b] _ (by simp; omega) (by simpa using allByte_rep (k := 1) b0 b1) bag4 x3 (SqT.of ?_)
      rw [wo_get tp]
      exact upd_same
    · have tp2 : t2 ∉ [p] := fun z => bag4.there (by rw [← List.mem_singleton.mp z]; exact ht2)
      refine q t2 (List.replicate many.toNat b) _ (by simp; omega) (allByte_rep b0 b1) (bag4.mono (Ex.new ht2)) (x3.trans (Ex.new ht2).wo) (SqT.of ?_)
      rw [wo_get tp2, upd_same]
      simp [List.map_replicate]
  · refine lcRB (n := many) 3 [p] (fun G => Bag K c cs G p) (fun j v _ => ∃ b : Int, v = .int b ∧ 0 ≤ b ∧ b < 256) (fun R r => ⟨_, rfl, r⟩) m0 (by omega) (fun _ _ _ _ _ h => h) (fun _ => rfl) bag2 (fun j D H3 Q1 hj hD hD1 e J q' => ?_) (fun D H3 ys hD e J hy hm => ?_)
    · simp only [wipe]
      walk_at "sm"
      have Dp : D ≠ p := fun z => bag2.there (z ▸ hD)
      refine ⟨p, c, cs, _, rfl, J.mono wo_ex, by decide, big _ (by decide), fun b H4 b0 b1 bag4 o4 => ?_⟩
      refine q' _ H4 (o4 D Dp) ?_ (J.turned bag4 o4) ⟨b, rfl, b0, b1⟩
      have : ∀ x, x ≠ p → wo [D] H4 x = wo [D] H3 x := fun x hx => by
        unfold wo
        split
        · rfl
        · exact o4 x hx
      exact off_wo this
    · refine ⟨D, rfl, ys, .inl ⟨SqL.of hy, fun t ht => ?_⟩⟩
      obtain ⟨bs, rfl, hb⟩ : ∃ bs : List Int, ys = bs.map V.int ∧ bs.all byteN = true := by
        refine ⟨(List.range many.toNat).map fun j => match ys[j]? with | some (V.int b) => b | _ => 0, ?_, ?_⟩
        · refine Made.ints (H := H3) ⟨hm.1, fun j hj => ?_⟩
          obtain ⟨v, e1, b, rfl, _⟩ := hm.2 j hj
          refine ⟨_, e1, ?_⟩
          show V.int b = V.int (match ys[j]? with | some (V.int b) => b | _ => 0)
          rw [e1]
        · rw [List.all_eq_true]
          intro x hx
          obtain ⟨j, hj, rfl⟩ := List.mem_map.mp hx
          obtain ⟨v, e1, b, rfl, b0, b1⟩ := hm.2 j (List.mem_range.mp hj)
          simp [e1, byteN]
          omega
      have bag3 := J.mono wo_ex
      have tp2 : t ∉ [p] := fun z => bag3.there (by rw [← List.mem_singleton.mp z]; exact ht)
      have hl : bs.length = many.toNat := by
        have := hm.1
        rwa [List.length_map] at this
      refine q t bs _ (by omega) hb (bag3.mono (Ex.new ht)) (x2.trans (e.trans ?_)) (SqT.of ?_)
      · rw [wo_comm]
        exact wo_ex.trans (Ex.new ht).wo
      · rw [wo_get tp2]
        exact upd_same
end
end My

namespace My
open PySem PySem.Spec PyProof.Rows L2
section
variable {P : Program} {w : World} {K : PySem.W.Frag} {mg : Str → Option Value} {base : Heap} {a : Ad}
local macro_rules | `(tactic| walk_at "sm") => `(tactic| try simp only [tSeq, tAsg, tVar, tC, tOp, tUn, tRet, tRetN, tDrop, tIfS, tNext, tAnd, tOr, tNot, tB, tTest, tChain, tAndV, tOrV, tNotV, tIf, tCB, tCons, tNil, tCall, tCallS, tPar, tCKw, rInt1, tLst, tTup, tSl, tNoPart, tPart,
  tAug, ipI, gName, gSub, gTup, gCons, gNil, rI0, rI, rU, rEq, rNe, rIsN, rNotN, rAddI, rSubI, rMulI, rModI, rDivW, rPowI, rShlI, rShrI, rAndI, rOrI, rXorI, rLtI, rLeI, rGtI, rGeI, rNegI, rIxL, rIxT, rLenQ, rListOf, rTupleOf, rSetL, tRevL, tRaiseC, rSlL,
  List.getElem?_cons_zero, List.getElem?_cons_succ, List.set_cons_zero, List.set_cons_succ, Option.some.injEq, V.int.injEq, V.bl.injEq, V.ref.injEq, V.str.injEq, exists_eq_left', exists_eq_left, exists_and_left, List.cons.injEq, and_true, true_and, List.append_nil, scal, Int.reduceToNat, if_true, if_false, Bool.false_eq_true])
local macro_rules | `(tactic| walk_at "bg") => `(tactic| repeat (first
  | refine ⟨_, SqL.of (by assumption), _, rfl, ?_⟩
  | refine ⟨_, SqL.of upd_same, _, rfl, ?_⟩
  | refine ⟨_, rfl, ?_⟩
  | refine ⟨_, (by assumption), _, rfl, ?_⟩
  | refine ⟨_, upd_same, _, rfl, ?_⟩
  | refine ⟨Or.inr ⟨by omega, by omega⟩, ?_⟩
  | refine ⟨Or.inl ⟨by omega, by omega⟩, ?_⟩
  | refine ⟨(show (0 : Int) < _ by omega), ?_⟩
  | refine ⟨_, .inl (SqL.of upd_same), ?_⟩
  | refine ⟨_, .inl (by assumption), ?_⟩))
local macro_rules | `(tactic| walk_at "ty") => `(tactic| try simp only [tyS, tyL, tyT, if_true, if_false, Bool.false_eq_true, reduceCtorEq, decide_false, decide_true, exists_eq_left', exists_eq_left, V.bl.injEq, and_true, true_and, Bool.not_true, Bool.not_false, decide_eq_true_eq, Bool.true_and, Bool.and_true])
theorem gh_open {H : Hp} {v : V} {m : Int} {b : Bool} {ps : List (List Int)} (h : Dp K H v (ghD m b ps)) : ∃ p t ys, v = .ref p ∧ SqT K H p [.int m, .bl b, .ref t] ∧ SqT K H t ys ∧ DpAll K H ys (pcD ps) := by
  obtain ⟨p, xs, rfl, h1, h2⟩ := h.tupE
  obtain ⟨v1, r1, rfl, a1, h2⟩ := h2.consE
  obtain ⟨v2, r2, rfl, a2, h2⟩ := h2.consE
  obtain ⟨v3, r3, rfl, a3, h2⟩ := h2.consE
  cases h2.nilE
  cases a1.intE
  cases a2.blE
  obtain ⟨t, ys, rfl, b1, b2⟩ := a3.tupE
  exact ⟨p, t, ys, rfl, h1, b1, b2⟩
theorem pc_len {H : Hp} {ys : List V} {ps : List (List Int)} (h : DpAll K H ys (pcD ps)) : ys.length = ps.length := by
  rw [DpAll.len h]
  unfold pcD
  rw [List.length_map]
theorem gh_mk {H : Hp} {p t : Addr} {m : Int} {b : Bool} {ps : List (List Int)} {ys : List V} (h1 : SqT K H p [.int m, .bl b, .ref t]) (h2 : SqT K H t ys) (h3 : DpAll K H ys (pcD ps)) : Dp K H (.ref p) (ghD m b ps) :=
  .tup h1 (.cons (.int m) (.cons (.bl b) (.cons (.tup h2 h3) .nil)))
theorem th_open {H : Hp} {v : V} {m : Int} {b : Bool} {r : Int} {ns : List Int} (h : Dp K H v (thD m b r ns)) : ∃ p t, v = .ref p ∧ SqT K H p [.int m, .bl b, .int r, .ref t] ∧ SqT K H t (ns.map V.int) := by
  obtain ⟨p, xs, rfl, h1, h2⟩ := h.tupE
  obtain ⟨v1, r1, rfl, a1, h2⟩ := h2.consE
  obtain ⟨v2, r2, rfl, a2, h2⟩ := h2.consE
  obtain ⟨v3, r3, rfl, a3, h2⟩ := h2.consE
  obtain ⟨v4, r4, rfl, a4, h2⟩ := h2.consE
  cases h2.nilE
  cases a1.intE
  cases a2.blE
  cases a3.intE
  obtain ⟨t, rfl, b1⟩ := a4.intsE
  exact ⟨p, t, rfl, h1, b1⟩
theorem noL_gh (m : Int) (b : Bool) (ps : List (List Int)) : noL (ghD m b ps) = true := by
  have : noLs (pcD ps) = true := noLs_all fun d hd => by
    obtain ⟨p, hp, rfl⟩ := List.mem_map.mp hd
    show noLs _ = true
    exact noLs_ints p
  unfold ghD
  simp only [noL, noLs, this]
  rfl
theorem noL_th (m : Int) (b : Bool) (r : Int) (ns : List Int) : noL (thD m b r ns) = true := by
  unfold thD
  simp only [noL, noLs, noLs_ints]
  rfl
theorem rd_asked : RD (sp_asked K a) (t_asked K a) N_asked := by
  rintro vs H Q E ⟨v, m, b, ps, rfl, hd, q⟩
  obtain ⟨p, t, ys, rfl, hS, hT, hA⟩ := gh_open hd
  have hl := pc_len hA
  show t_asked K a _ [some (.ref p), none, none, none] H
  unfold t_asked
  walk_at "sm"
  refine ⟨_, hS, rfl, _, _, rfl, _, _, rfl, _, _, rfl, rfl, ?_⟩
  walk_at "sm"
  cases b with
  | true => exact iteT ⟨up1, fun r hr => q _ _ (Ex.new hr) (Dp.newT hr (.cons (.str _) .nil))⟩
  | false =>
    refine iteF ⟨_, .inr hT, ?_⟩
    cases ps with
    | nil => exact iteY (decide_eq_true (by rw [hl]; rfl)) ⟨up1, fun r hr => q _ _ (Ex.new hr) (Dp.newT hr (.cons (.str _) .nil))⟩
    | cons x ps =>
      obtain ⟨y, r, rfl, h1, h2⟩ := DpAll.consE (ds := pcD ps) hA
      refine iteN (decide_eq_false (by rw [hl]; simp; omega)) ⟨_, hT, _, atH _ _, up3, fun r hr => q _ _ (Ex.new hr) ?_⟩
      exact Dp.newT hr (.cons (.str _) (.cons (.int m) (.cons h1 .nil)))
theorem rd_went : RD (sp_went K a) (t_went K a) N_went := by
  rintro vs H Q E ⟨v, m, b, ps, rfl, hd, q⟩
  obtain ⟨p, t, ys, rfl, hS, hT, hA⟩ := gh_open hd
  have hl := pc_len hA
  show t_went K a _ [some (.ref p), none, none, none] H
  unfold t_went
  walk_at "sm"
  refine ⟨_, hS, rfl, _, _, rfl, _, _, rfl, _, _, rfl, rfl, ?_⟩
  walk_at "sm"
  cases b with
  | true =>
    refine q _ _ (Same.refl _) ?_
    rw [wentD, if_pos (.inl rfl)]
    exact hd
  | false =>
    refine iteF ⟨_, .inr hT, ?_⟩
    cases ps with
    | nil => exact iteY (decide_eq_true (by rw [hl]; rfl)) (q _ _ (Same.refl _) (by rw [wentD, if_pos (.inr rfl)]; exact hd))
    | cons x ps =>
      obtain ⟨y, r, rfl, h1, h2⟩ := DpAll.consE (ds := pcD ps) hA
      refine iteN (decide_eq_false (by rw [hl]; simp; omega)) (slT_go hT fun t' H1 e1 h => ⟨up3, fun r hr => q _ _ (Same.trans e1 (Ex.new hr)) ?_⟩)
      rw [cut_drop (by decide)] at h
      rw [wentD, if_neg (by simp)]
      exact Dp.newT hr (.cons (.int _) (.cons (.bl _) (.cons (.tup h (Ex.dpAll e1 _ _ h2)) .nil)))
theorem rgc_cut {L k : Int} (h0 : 0 ≤ L) (h1 : L ≤ 10000) (k0 : 1 ≤ k) (k1 : k ≤ 64) : RgC 0 (L + 1) k (L / k + 1).toNat := by
  have hq : 0 ≤ L / k := Int.ediv_nonneg h0 (by omega)
  have hs : Builtin.Range.rangeSize 0 (L + 1) k = L / k + 1 := by
    unfold Builtin.Range.rangeSize
    rw [if_pos (by omega), if_pos (by omega)]
    congr 2
    omega
  refine ⟨by omega, by omega, ?_, by rw [hs]; omega⟩
  have hle : L / k ≤ L := Int.ediv_le_self k h0
  unfold Builtin.Range.small
  rw [hs]
  simp only [Builtin.Range.rangeFitsLong, Bool.and_eq_true, Bool.or_eq_true, decide_eq_true_eq, beq_iff_eq]
  generalize L / k = z at *
  refine ⟨⟨⟨⟨⟨by decide, by decide⟩, by omega, by omega⟩, by omega, by omega⟩, by omega, by omega⟩, .inr ?_⟩
  rw [if_pos (by omega)]
  simp only [Bool.and_eq_true, decide_eq_true_eq]
  omega
/-- [e for i in range(lo, hi, c)]: the new list at D -/
theorem lcR3 {ta : TA} {g : TG} {tt : TT} {te : TE} {vs : List Nat} {σ : L2.St} {H : Hp} {Q : VK} {lo hi c : Int} {n : Nat} (i : Nat) (P : Nat → V → Hp → Prop) (ht : ∀ R : List V → Hp → Prop, R [.int lo, .int hi, .int c] H → ta σ H R) (hr : RgC lo hi c n) (hn : n ≤ 100000)
    (hP : ∀ j v H H', Ex H H' → P j v H → P j v H')
    (hw : ∀ x, wipe ((wipe σ vs).set i (some x)) vs = wipe σ vs)
    (he : ∀ (j : Nat) D H1 (Q1 : VK) acc, j < n → H D = none → H1 D = some (.lst acc) → Ex H (wo [D] H1) → (∀ v H2, Ex H1 H2 → P j v (wo [D] H2) → Q1 v H2) → te ((wipe σ vs).set i (some (.int (lo + (j : Nat) * c)))) H1 Q1)
    (k : ∀ D H' ys, H D = none → Ex H (wo [D] H') → H' D = some (.lst ys) → Made n P ys (wo [D] H') → Q (.ref D) H')
    (hg : g = gName i := by rfl) (htt : tt = tYes := by rfl) : tLc (iRng3 ta) g tt te vs σ H Q := by
  subst hg htt
  refine ht _ ⟨lo, hi, c, n, rfl, hr, fun D hD => ?_⟩
  refine ⟨fun j m H' => m = n - j ∧ j ≤ n ∧ Ex H (wo [D] H') ∧ ∃ ys, H' D = some (.lst ys) ∧ Made j P ys (wo [D] H'), ⟨n, by simp, Nat.zero_le _, ?_, [], upd_same, rfl, fun j hj => absurd hj (Nat.not_lt_zero j)⟩, ?_⟩
  · exact (Ex.new hD).woN fun b hb => by rw [List.mem_singleton.mp hb]; exact hD
  · rintro j m H' ⟨rfl, hj, e, ys, hy, hm⟩
    by_cases hlt : j < n
    · refine .inr ⟨hlt, fun H' => Ex H (wo [D] H') ∧ ∃ ys, H' D = some (.lst ys) ∧ Made (j + 1) P ys (wo [D] H'), fun H2 p' => ⟨n - (j + 1), by omega, rfl, hlt, p'.1, p'.2⟩, fun x H2 y => ?_⟩
      obtain ⟨e2, y⟩ := y
      subst e2 y
      refine ⟨hw _, ?_⟩
      simp only [tYes, if_true]
      refine he j D _ _ ys hlt hD hy e (fun v H2 e2 hv => ⟨ys, e2 _ _ hy, ?_, ?_, ys ++ [v], upd_same, ?_⟩)
      · rw [hm.1]
        exact Nat.lt_of_lt_of_le (show j < 100000 by omega) (by decide)
      · rw [wo_upd (List.mem_singleton.mpr rfl)]
        exact e.trans e2.wo
      · rw [wo_upd (List.mem_singleton.mpr rfl)]
        exact hm.more (fun j u hu => hP _ _ _ _ e2.wo hu) hv
    · have ej : j = n := by omega
      subst ej
      exact .inl ⟨Nat.le_refl _, k D H' ys hD e hy hm⟩
theorem cut_mid {xs : List V} {i j : Nat} : cutV xs (some (i : Int)) (some ((i + j : Nat) : Int)) = (xs.drop i).take j := by
  unfold cutV
  rw [HT.sIx_nat, HT.sIx_nat]
  by_cases c : i ≤ xs.length
  · rw [Nat.min_eq_left c]
    by_cases c2 : i + j ≤ xs.length
    · rw [Nat.min_eq_left c2, Nat.add_sub_cancel_left]
    · rw [Nat.min_eq_right (by omega), List.take_of_length_le (by rw [List.length_drop]; omega), List.take_of_length_le (by rw [List.length_drop]; omega)]
  · rw [Nat.min_eq_right (show xs.length ≤ i by omega), List.drop_length, List.take_nil, List.drop_eq_nil_of_le (by omega), List.take_nil]
theorem cutL_len (ns : List Int) (k : Nat) : (cutL ns k).length = ns.length / k + 1 := by simp [cutL]
theorem cutL_get {ns : List Int} {k j : Nat} (h : j < ns.length / k + 1) : (cutL ns k)[j]? = some ((ns.drop (j * k)).take k) := by
  simp [cutL, h]
theorem made_data {H : Hp} {n : Nat} {ds : List PyData} {ys : List V} (h : Made n (fun j v H => ∃ d, ds[j]? = some d ∧ Dp K H v d) ys H) (e : ds.length = n) : DpAll K H ys ds := Made.all h e
theorem rd_cut : RDX (sp_cut K a) (t_cut K a) N_cut := by
  rintro vs H Q E ⟨p, ns, k, rfl, hS, k0, k1, hl, q⟩
  show t_cut K a E _ [some (.ref p), some (.int k), none] H
  unfold t_cut
  walk_at "sm"
  refine ⟨k, 1, 64, rfl, fun _ => ?_, fun h => absurd ⟨k0, k1⟩ h⟩
  have hL : ((ns.map V.int).length : Int) = ns.length := by rw [List.length_map]
  refine lcR3 (lo := 0) (hi := (ns.length : Int) + 1) (c := k) (n := ((ns.length : Int) / k + 1).toNat) 2 (fun j v H => ∃ d, (pcD (cutL ns k.toNat))[j]? = some d ∧ Dp K H v d) ?ht (rgc_cut (by omega) (by omega) k0 k1) ?hn (fun _ _ _ _ e ⟨d, h1, h2⟩ => ⟨d, h1, Ex.dp e _ _ h2⟩) (fun _ => rfl) (fun j D H1 Q1 acc hj hD hD1 e1 r => ?_) (fun D H' ys hD e1 hd made => ?_)
  case ht =>
    intro R r
    walk_at "sm"
    refine ⟨_, .inr hS, ?_⟩
    rw [hL]
    exact r
  case hn =>
    have := Int.ediv_le_self k (show (0 : Int) ≤ ns.length by omega)
    omega
  · obtain ⟨kn, rfl⟩ : ∃ kn : Nat, k = kn := ⟨k.toNat, by omega⟩
    have hj' : j < ns.length / kn + 1 := by
      have e2 : ((ns.length : Int) / (kn : Int) + 1).toNat = ns.length / kn + 1 := by omega
      omega
    simp only [wipe]
    walk_at "sm"
    refine slT_go (wo_ex.sqT (Ex.sqT e1 hS)) fun t' H2 e2 h2 => r _ _ e2 ⟨.tuple (((ns.drop (j * kn)).take kn).map PyData.int), ?_, ?_⟩
    · unfold pcD
      rw [List.getElem?_map, Int.toNat_natCast, cutL_get hj']
      rfl
    · have ei : (0 : Int) + (j : Nat) * (kn : Int) = ((j * kn : Nat) : Int) := by simp
      have ei2 : (0 : Int) + (j : Nat) * (kn : Int) + (kn : Int) = ((j * kn + kn : Nat) : Int) := by simp
      rw [ei2, ei, cut_mid, ← List.map_drop, ← List.map_take] at h2
      exact Dp.intsT (sqT_offL (e2 _ _ hD1) h2)
  · refine q D ys H' hD (Same.trans e1 wo_ex) hd (Ex.dpAll wo_ex _ _ (made_data made ?_))
    unfold pcD
    rw [List.length_map, cutL_len]
    obtain ⟨kn, rfl⟩ : ∃ kn : Nat, k = kn := ⟨k.toNat, by omega⟩
    rw [Int.toNat_natCast]
    have := Int.ediv_nonneg (show (0 : Int) ≤ ns.length by omega) (show (0 : Int) ≤ kn by omega)
    omega
/-! ### the pieces -/
theorem flat_range (ns : List Int) (k : Nat) : ∀ m : Nat, (((List.range m).map fun j => (ns.drop (j * k)).take k).flatten) = ns.take (m * k)
  | 0 => by simp
  | m + 1 => by
    rw [List.range_succ, List.map_append, List.flatten_append, flat_range ns k m]
    simp only [List.map_cons, List.map_nil, List.flatten_cons, List.flatten_nil, List.append_nil]
    rw [show (m + 1) * k = m * k + k by rw [Nat.add_mul, Nat.one_mul], List.take_add]
theorem cutL_flat {ns : List Int} {k : Nat} (hk : 0 < k) : (cutL ns k).flatten = ns := by
  unfold cutL
  rw [flat_range, List.take_of_length_le]
  have := Nat.lt_div_mul_add (a := ns.length) hk
  rw [Nat.add_mul, Nat.one_mul]
  omega
theorem cutL_small {ns : List Int} {k : Nat} : ∀ p ∈ cutL ns k, p.length ≤ k := fun p hp => by
  obtain ⟨j, _, rfl⟩ := List.mem_map.mp hp
  rw [List.length_take]
  omega
theorem pc_refs {H : Hp} : ∀ {xs : List V} {ps : List (List Int)}, DpAll K H xs (pcD ps) → ∃ as : List Addr, xs = as.map V.ref ∧ as.length = ps.length ∧ ∀ (i : Nat) p ns, as[i]? = some p → ps[i]? = some ns → SqT K H p (ns.map V.int)
  | xs, [], h => by
    cases DpAll.nilE h
    exact ⟨[], rfl, rfl, fun i p ns e => by simp at e⟩
  | xs, q :: ps, h => by
    obtain ⟨v, r, rfl, h1, h2⟩ := DpAll.consE (ds := pcD ps) h
    obtain ⟨a, rfl, h3⟩ := h1.intsE
    obtain ⟨as, rfl, h4, h5⟩ := pc_refs h2
    refine ⟨a :: as, rfl, by rw [List.length_cons, List.length_cons, h4], fun i p ns e1 e2 => ?_⟩
    cases i with
    | zero =>
      cases e1
      cases e2
      exact h3
    | succ i => exact h5 i p ns (by simpa using e1) (by simpa using e2)
theorem map_flat (pss : List (List Int)) : (pss.map fun ns => ns.map V.int).flatten = pss.flatten.map V.int := by
  rw [List.map_flatten]
end
end My

namespace My
open PySem PySem.Spec PyProof.Rows L2
section
variable {P : Program} {w : World} {K : PySem.W.Frag} {mg : Str → Option Value} {base : Heap} {a : Ad}
local macro_rules | `(tactic| walk_at "sm") => `(tactic| try simp only [tSeq, tAsg, tVar, tC, tOp, tUn, tRet, tRetN, tDrop, tIfS, tNext, tAnd, tOr, tNot, tB, tTest, tChain, tAndV, tOrV, tNotV, tIf, tCB, tCons, tNil, tCall, tCallS, tPar, tCKw, rInt1, tLst, tTup, tSl, tNoPart, tPart,
  tAug, ipI, gName, gSub, gTup, gCons, gNil, rI0, rI, rU, rEq, rNe, rIsN, rNotN, rAddI, rSubI, rMulI, rModI, rDivW, rPowI, rShlI, rShrI, rAndI, rOrI, rXorI, rLtI, rLeI, rGtI, rGeI, rNegI, rIxL, rIxT, rLenQ, rListOf, rTupleOf, rSetL, tRevL, tRaiseC, rSlL,
  List.getElem?_cons_zero, List.getElem?_cons_succ, List.set_cons_zero, List.set_cons_succ, Option.some.injEq, V.int.injEq, V.bl.injEq, V.ref.injEq, V.str.injEq, exists_eq_left', exists_eq_left, exists_and_left, List.cons.injEq, and_true, true_and, List.append_nil, scal, Int.reduceToNat, if_true, if_false, Bool.false_eq_true])
local macro_rules | `(tactic| walk_at "bg") => `(tactic| repeat (first
  | refine ⟨_, SqL.of (by assumption), _, rfl, ?_⟩
  | refine ⟨_, SqL.of upd_same, _, rfl, ?_⟩
  | refine ⟨_, rfl, ?_⟩
  | refine ⟨_, (by assumption), _, rfl, ?_⟩
  | refine ⟨_, upd_same, _, rfl, ?_⟩
  | refine ⟨Or.inr ⟨by omega, by omega⟩, ?_⟩
  | refine ⟨Or.inl ⟨by omega, by omega⟩, ?_⟩
  | refine ⟨(show (0 : Int) < _ by omega), ?_⟩
  | refine ⟨_, .inl (SqL.of upd_same), ?_⟩
  | refine ⟨_, .inl (by assumption), ?_⟩))
local macro_rules | `(tactic| walk_at "ty") => `(tactic| try simp only [tyS, tyL, tyT, if_true, if_false, Bool.false_eq_true, reduceCtorEq, decide_false, decide_true, exists_eq_left', exists_eq_left, V.bl.injEq, and_true, true_and, Bool.not_true, Bool.not_false, decide_eq_true_eq, Bool.true_and, Bool.and_true])
theorem turn_off {B D c : Addr} {cs : List Int} {H3 H4 : Hp} (DB : D ≠ B) (J : Bag K c cs (wo [D] H3) B) (bag : Bag K c cs H4 B) (o : ∀ b, b ≠ B → H4 b = H3 b) : H4 D = H3 D ∧ Ex (wo [B] (wo [D] H3)) (wo [B] (wo [D] H4)) ∧ Bag K c cs (wo [D] H4) B := by
  refine ⟨o D DB, ?_, J.turned bag o⟩
  have : ∀ x, x ≠ B → wo [D] H4 x = wo [D] H3 x := fun x hx => by
    unfold wo
    split
    · rfl
    · exact o x hx
  exact off_wo this
theorem made_ints {H : Hp} {n : Nat} {ys : List V} (h : Made n (fun _ v _ => ∃ b : Int, v = .int b) ys H) : ∃ ns : List Int, ys = ns.map V.int ∧ ns.length = n := by
  refine ⟨(List.range n).map fun j => match ys[j]? with | some (V.int b) => b | _ => 0, ?_, by simp⟩
  refine Made.ints (H := H) ⟨h.1, fun j hj => ?_⟩
  obtain ⟨v, e1, b, rfl⟩ := h.2 j hj
  refine ⟨_, e1, ?_⟩
  show V.int b = V.int (match ys[j]? with | some (V.int b) => b | _ => 0)
  rw [e1]
theorem rd__law_fates : RD (sp__law_fates K a) (t__law_fates K a) N__law_fates := by
  rintro vs H Q E ⟨p, c, cs, u, rfl, bag, u0, u1, q⟩
  show t__law_fates K a _ [some (.ref p), some (.int u), none, none] H
  unfold t__law_fates
  walk_at "sm"
  refine ⟨p, c, cs, 4, rfl, bag, by decide, by decide, fun m H1 m0 m1 bag1 o1 => ?_⟩
  refine lcRB2 (n := u) 3 [p] (fun G => Bag K c cs G p) (fun j v _ => ∃ b : Int, v = .int b) (fun R r => ⟨_, rfl, r⟩) u0 (by omega) (fun _ _ _ _ _ h => h) (fun _ => rfl) bag1 (fun i D H3 Q1 acc hi hD hD1 e3 J q' => ?_) (fun D H3 ys hD e3 J hy hm => ?_)
  · simp only [wipe]
    walk_at "sm"
    have DB : D ≠ p := fun z => bag1.there (z ▸ hD)
    refine ⟨p, c, cs, 4, rfl, J.mono wo_ex, by decide, by decide, fun x H4 x0 x1 bag4 o4 => ?_⟩
    obtain ⟨g1, g2, g3⟩ := turn_off DB J bag4 o4
    refine ⟨_, rfl, iteP (fun _ => ?_) (fun _ => ?_)⟩
    · refine ⟨p, c, cs, 4, rfl, bag4, by decide, by decide, fun y H5 y0 y1 bag5 o5 => ?_⟩
      obtain ⟨k1, k2, k3⟩ := turn_off DB g3 bag5 o5
      exact q' _ H5 (k1.trans g1) (Same.trans g2 k2) k3 ⟨y, rfl⟩
    · exact q' _ H4 g1 g2 g3 ⟨0, rfl⟩
  · obtain ⟨ns, rfl, hn⟩ := made_ints hm
    have hD0 : H D = none := by
      have DB : D ≠ p := fun z => bag1.there (z ▸ hD)
      rw [← o1 D DB]
      exact hD
    refine q D ns H3 hD0 (by omega) (J.mono wo_ex) (Same.trans (off_wo o1) (Same.trans e3 ?_)) hy
    rw [wo_comm]
    exact wo_ex
/-! ### all rows of five -/
def RowsJ (j : Nat) (H : Hp) (xs : List V) : Prop := ∀ x ∈ xs, ∃ (p : Addr) (ns : List Int), x = V.ref p ∧ H p = some (.lst (ns.map V.int)) ∧ ns.length = j
theorem RowsJ.mono {j : Nat} {H H' : Hp} {xs : List V} (h : RowsJ j H xs) (e : Ex H H') : RowsJ j H' xs := fun x hx => by
  obtain ⟨p, ns, h1, h2, h3⟩ := h x hx
  exact ⟨p, ns, h1, e _ _ h2, h3⟩
theorem made_lists {G : List V → Hp → Prop} {H : Hp} : ∀ {n : Nat} {ys : List V}, Made n (fun _ v H => ∃ (p : Addr) (zs : List V), v = V.ref p ∧ H p = some (.lst zs) ∧ G zs H) ys H →
    ∃ (ps : List Addr) (yss : List (List V)), ys = ps.map V.ref ∧ ps.length = yss.length ∧ yss.length = n ∧ (∀ (i : Nat) p zs, ps[i]? = some p → yss[i]? = some zs → H p = some (.lst zs)) ∧ ∀ zs ∈ yss, G zs H
  | n, [], ⟨h1, _⟩ => ⟨[], [], rfl, rfl, h1, fun i p zs e => by simp at e, fun zs hz => (List.not_mem_nil hz).elim⟩
  | n, y :: ys, ⟨h1, h2⟩ => by
    obtain ⟨v, e1, p, zs, e2, e3, e4⟩ := h2 0 (by rw [← h1]; simp)
    have e5 : y = v := by simpa using e1
    subst e5 e2
    obtain ⟨ps, yss, f1, f2, f3, f4, f5⟩ := made_lists (n := ys.length) (ys := ys) (G := G) (H := H) ⟨rfl, fun j hj => by
      obtain ⟨u, e3, r⟩ := h2 (j + 1) (by rw [← h1]; simp; omega)
      exact ⟨u, by simpa using e3, r⟩⟩
    refine ⟨p :: ps, zs :: yss, by rw [f1]; rfl, by simp [f2], by rw [← h1]; simp [f3], fun i p' zs' g1 g2 => ?_, fun z hz => ?_⟩
    · cases i with
      | zero =>
        cases g1
        cases g2
        exact e3
      | succ i => exact f4 i p' zs' (by simpa using g1) (by simpa using g2)
    · rcases List.mem_cons.mp hz with rfl | hz
      · exact e4
      · exact f5 z hz
theorem flat3 {α : Type} : ∀ {yss : List (List α)}, (∀ zs ∈ yss, zs.length = 3) → yss.flatten.length = 3 * yss.length
  | [], _ => rfl
  | z :: yss, h => by
    rw [List.flatten_cons, List.length_append, h z (List.mem_cons_self), flat3 fun x hx => h x (List.mem_cons_of_mem _ hx), List.length_cons]
    omega
theorem not_new {H H1 : Hp} {D p : Addr} (h : H D ≠ none) (e : Ex H H1) (hp : H1 p = none) : p ≠ D := fun z => by
  subst z
  exact Ex.there e h hp
theorem rd__law_rows : RD (sp__law_rows K a) (t__law_rows K a) N__law_rows := by
  rintro vs H Q E ⟨rfl, q⟩
  show t__law_rows K a _ [some (.int 5), none, none, none] H
  unfold t__law_rows
  walk_at "sm"
  refine ⟨Nat.zero_le _, fun r0 hr0 => ⟨up1, fun l0 hl0 => ?_⟩⟩
  have n0 := Ex.new hr0 (o := .lst [])
  have n1 := Ex.new hl0 (o := .lst [.ref r0])
  refine forR (n := 5) 2 (fun j σ H' => ∃ x2 x3 l xs, σ = [some (.int 5), some (.ref l), x2, x3] ∧ H l = none ∧ Ex H H' ∧ H' l = some (.lst xs) ∧ xs.length = 3 ^ j ∧ RowsJ j H' xs) (fun R r => ⟨_, rfl, r⟩) (by decide) (by decide) ⟨_, _, l0, _, rfl, n0.free hl0, Same.trans n0 n1, upd_same, rfl, ?_⟩ ?hs ?hd
  · intro x hx
    exact ⟨r0, [], List.mem_singleton.mp hx, n1 _ _ upd_same, rfl⟩
  case hd =>
    rintro σ H' ⟨x2, x3, l, xs, rfl, h0, e, h1, h2, h3⟩
    walk_at "sm"
    refine q l xs H' h0 e h1 fun x hx => ?_
    obtain ⟨p, ns, g1, g2, g3⟩ := h3 x hx
    exact ⟨p, ns, g1, g2, Nat.le_of_eq g3⟩
  case hs =>
    rintro j σ H1 hj ⟨x2, x3, l, xs, rfl, h0, e, h1, h2, h3⟩
    walk_at "sm"
    have hj5 : j < 5 := by omega
    have h35 : 3 ^ j ≤ 3 ^ 5 := Nat.pow_le_pow_right (by decide) (by omega)
    refine lcL 3 (fun i v G => ∃ (p : Addr) (zs : List V), v = V.ref p ∧ G p = some (.lst zs) ∧ (zs.length = 3 ∧ RowsJ (j + 1) G zs)) (fun R r => ⟨_, rfl, r⟩) (SqL.of h1) (by rw [h2]; exact Nat.le_trans h35 (by decide)) (fun _ _ _ _ e ⟨p, zs, g1, g2, g3, g4⟩ => ⟨p, zs, g1, e _ _ g2, g3, g4.mono e⟩) (fun _ => rfl) (fun i x D H2 Q1 hx hD hD1 e2 r => ?_) (fun D H2 ys hD e2 hy made => ?_)
    · obtain ⟨p, ns, rfl, g2, g3'⟩ := h3 x (List.mem_of_getElem? hx)
      have p2 : H2 p = some (.lst (ns.map V.int)) := wo_ex _ _ (e2 _ _ g2)
      have nl : (ns.map V.int).length + 1 ≤ sizeLine := by rw [List.length_map, g3']; exact Nat.le_trans (show _ ≤ 6 by omega) (by decide)
      simp only [wipe]
      walk_at "sm"
      have add : ∀ (G : Hp) (k : Int), Ex H2 G → ∀ a1, G a1 = none → ∀ b1, upd G a1 (.lst [V.int k]) b1 = none →
          Ex G (upd (upd G a1 (.lst [V.int k])) b1 (.lst (ns.map V.int ++ [V.int k]))) ∧ upd (upd G a1 (.lst [V.int k])) b1 (.lst (ns.map V.int ++ [V.int k])) b1 = some (.lst ((ns ++ [k]).map V.int)) ∧ upd G a1 (.lst [V.int k]) p = some (.lst (ns.map V.int)) :=
        fun G k eG a1 ha1 b1 hb1 => ⟨Same.trans (Ex.new ha1) (Ex.new hb1), by rw [upd_same, List.map_append]; rfl, Ex.new ha1 _ _ (eG _ _ p2)⟩
      refine ⟨up1, fun a1 ha1 => ⟨_, _, _, _, rfl, rfl, Ex.new ha1 _ _ p2, upd_same, nl, fun b1 hb1 => ?_⟩⟩
      obtain ⟨f1, f2, f3⟩ := add H2 0 (Same.refl _) a1 ha1 b1 hb1
      try dsimp only
      generalize upd (upd H2 a1 (.lst [V.int 0])) b1 (.lst (ns.map V.int ++ [V.int 0])) = G1 at f1 f2 ⊢
      refine ⟨up1, fun a2 ha2 => ⟨_, _, _, _, rfl, rfl, Ex.new ha2 _ _ (f1 _ _ p2), upd_same, nl, fun b2 hb2 => ?_⟩⟩
      obtain ⟨g1, g2, g3⟩ := add G1 2 f1 a2 ha2 b2 hb2
      try dsimp only
      generalize upd (upd G1 a2 (.lst [V.int 2])) b2 (.lst (ns.map V.int ++ [V.int 2])) = G2 at g1 g2 ⊢
      have fg := Same.trans f1 g1
      refine ⟨up1, fun a3 ha3 => ⟨_, _, _, _, rfl, rfl, Ex.new ha3 _ _ (fg _ _ p2), upd_same, nl, fun b3 hb3 => ?_⟩⟩
      obtain ⟨k1, k2, k3⟩ := add G2 3 fg a3 ha3 b3 hb3
      try dsimp only
      have nb3 : H2 b3 = none := fg.free ((Ex.new ha3).free hb3)
      generalize upd (upd G2 a3 (.lst [V.int 3])) b3 (.lst (ns.map V.int ++ [V.int 3])) = G3 at k1 k2 ⊢
      have fgk := Same.trans fg k1
      refine ⟨up3, fun t ht => ?_⟩
      have eT := Same.trans fgk (Ex.new ht (o := .lst [.ref b1, .ref b2, .ref b3]))
      have nD : ∀ b, H2 b = none → b ≠ D := fun b hb z => hD1 (z ▸ hb)
      have nb1 : H2 b1 = none := (Ex.new ha1).free hb1
      have nb2 : H2 b2 = none := f1.free ((Ex.new ha2).free hb2)
      have away : ∀ b o, H2 b = none → upd G3 t (.lst [.ref b1, .ref b2, .ref b3]) b = some o → wo [D] (upd G3 t (.lst [.ref b1, .ref b2, .ref b3])) b = some o := fun b o hb ho => by
        rw [wo_get (by rw [List.mem_singleton]; exact nD b hb)]
        exact ho
      have nt := Ex.new ht (o := .lst [.ref b1, .ref b2, .ref b3])
      refine r _ _ eT ⟨t, _, rfl, away _ _ (fgk.free ht) upd_same, rfl, ?_⟩
      refine memC ⟨b1, ns ++ [0], rfl, away _ _ nb1 (nt _ _ (Same.trans g1 k1 _ _ f2)), by simp [g3']⟩ (memC ⟨b2, ns ++ [2], rfl, away _ _ nb2 (nt _ _ (k1 _ _ g2)), by simp [g3']⟩ (mem1 ⟨b3, ns ++ [3], rfl, away _ _ nb3 (nt _ _ k2), by simp [g3']⟩))
    · obtain ⟨ps, yss, rfl, f2, f3, f4, f5⟩ := made_lists (G := fun zs G => zs.length = 3 ∧ RowsJ (j + 1) G zs) made
      have hfl : yss.flatten.length = 3 ^ (j + 1) := by
        rw [flat3 fun zs hz => (f5 zs hz).1, f3, h2, Nat.pow_succ, Nat.mul_comm]
      refine ⟨Nat.zero_le _, fun t ht => ?_⟩
      have nt := Ex.new ht (o := .lst [])
      have tn : H t = none := e.free (by
        have := (Same.trans e2 wo_ex : Ex H1 H2)
        exact this.free ht)
      have p36 : 3 ^ (j + 1) ≤ 3 ^ 5 := Nat.pow_le_pow_right (by decide) (by omega)
      refine ⟨D, t, ps, yss, [], rfl, rfl, SqL.of (nt _ _ hy), upd_same, f2, fun i p zs g1 g2 => nt _ _ (wo_ex _ _ (f4 i p zs g1 g2)), ?_, fun t' H3 e3 h3' ht' => ?_⟩
      · rw [List.nil_append, hfl]
        exact Nat.le_trans p36 (by decide)
      · have e13 : Ex H1 H3 := Same.trans e2 (Same.trans wo_ex (Same.trans nt e3))
        refine ⟨_, _, _, ⟨rfl, rfl, rfl⟩, ?_, Same.trans e e13, _, h3', by rw [List.nil_append]; exact hfl, ?_⟩
        · rcases ht' with rfl | ht'
          · exact tn
          · exact e.free ((Same.trans e2 (Same.trans wo_ex nt) : Ex H1 _).free ht')
        · intro x hx
          rw [List.nil_append] at hx
          obtain ⟨zs, hz, hx⟩ := List.mem_flatten.mp hx
          exact ((f5 zs hz).2.mono (Same.trans wo_ex (Same.trans nt e3))) x hx
end
end My

namespace My
open PySem PySem.Spec PyProof.Rows L2
section
variable {P : Program} {w : World} {K : PySem.W.Frag} {mg : Str → Option Value} {base : Heap} {a : Ad}
local macro_rules | `(tactic| walk_at "sm") => `(tactic| try simp only [tSeq, tAsg, tVar, tC, tOp, tUn, tRet, tRetN, tDrop, tIfS, tNext, tAnd, tOr, tNot, tB, tTest, tChain, tAndV, tOrV, tNotV, tIf, tCB, tCons, tNil, tCall, tCallS, tPar, tCKw, rInt1, tLst, tTup, tSl, tNoPart, tPart,
  tAug, ipI, gName, gSub, gTup, gCons, gNil, rI0, rI, rU, rEq, rNe, rIsN, rNotN, rAddI, rSubI, rMulI, rModI, rDivW, rPowI, rShlI, rShrI, rAndI, rOrI, rXorI, rLtI, rLeI, rGtI, rGeI, rNegI, rIxL, rIxT, rLenQ, rListOf, rTupleOf, rSetL, tRevL, tRaiseC, rSlL,
  List.getElem?_cons_zero, List.getElem?_cons_succ, List.set_cons_zero, List.set_cons_succ, Option.some.injEq, V.int.injEq, V.bl.injEq, V.ref.injEq, V.str.injEq, exists_eq_left', exists_eq_left, exists_and_left, List.cons.injEq, and_true, true_and, List.append_nil, scal, Int.reduceToNat, if_true, if_false, Bool.false_eq_true])
local macro_rules | `(tactic| walk_at "bg") => `(tactic| repeat (first
  | refine ⟨_, SqL.of (by assumption), _, rfl, ?_⟩
  | refine ⟨_, SqL.of upd_same, _, rfl, ?_⟩
  | refine ⟨_, rfl, ?_⟩
  | refine ⟨_, (by assumption), _, rfl, ?_⟩
  | refine ⟨_, upd_same, _, rfl, ?_⟩
  | refine ⟨Or.inr ⟨by omega, by omega⟩, ?_⟩
  | refine ⟨Or.inl ⟨by omega, by omega⟩, ?_⟩
  | refine ⟨(show (0 : Int) < _ by omega), ?_⟩
  | refine ⟨_, .inl (SqL.of upd_same), ?_⟩
  | refine ⟨_, .inl (by assumption), ?_⟩))
local macro_rules | `(tactic| walk_at "ty") => `(tactic| try simp only [tyS, tyL, tyT, if_true, if_false, Bool.false_eq_true, reduceCtorEq, decide_false, decide_true, exists_eq_left', exists_eq_left, V.bl.injEq, and_true, true_and, Bool.not_true, Bool.not_false, decide_eq_true_eq, Bool.true_and, Bool.and_true])
def St15 (P ps : List (List Int)) (g : Nat) (m mk : Int) : Prop := g ≤ P.length ∧ (m = 0 ∨ m = 1) ∧ ((mk = m ∧ ps = P.drop g) ∨ (mk = 1 - m ∧ 0 < g ∧ ps = P.drop (g - 1)))
theorem St15.good {P ps : List (List Int)} {g : Nat} {m mk : Int} (h : St15 P ps g m mk) : Good15 P ps g := by
  obtain ⟨h1, _, h2⟩ := h
  refine ⟨h1, ?_⟩
  rcases h2 with ⟨_, e⟩ | ⟨_, l, e⟩
  · exact .inl e
  · exact .inr ⟨l, e⟩
theorem drop_next {P ps : List (List Int)} {g : Nat} {x : List Int} (h : x :: ps = P.drop g) : P[g]? = some x ∧ ps = P.drop (g + 1) ∧ g < P.length := by
  have hl : g < P.length := by
    have := congrArg List.length h
    rw [List.length_drop, List.length_cons] at this
    omega
  rw [List.drop_eq_getElem_cons hl] at h
  injection h with h1 h2
  exact ⟨by rw [List.getElem?_eq_getElem hl, h1], h2, hl⟩
theorem pcD_app (a b : List (List Int)) : pcD (a ++ b) = pcD a ++ pcD b := List.map_append ..
theorem asked_data {m : Int} {x : List Int} {ps : List (List Int)} : askedD m false (x :: ps) = .tuple [.str "data", .int m, .tuple (x.map PyData.int)] := rfl
theorem asked_nak {m : Int} : askedD m false [] = .tuple [.str "nak"] := rfl
theorem rd__law_taken : RD (sp__law_taken K a) (t__law_taken K a) N__law_taken := by
  rintro vs H Q E ⟨v, lf, m, P, fs, rfl, hd, hm, hl, hF, q⟩
  obtain ⟨p, t, ys, rfl, hS, hT, hA⟩ := gh_open hd
  show t__law_taken K a _ [some (.ref p), some (.ref lf), none, none, none, none] H
  unfold t__law_taken
  walk_at "sm"
  refine ⟨_, hS, _, rfl, Nat.zero_le _, fun lg hlg => ?_⟩
  have n0 := Ex.new hlg (o := .lst [])
  refine forL 4 (fun j σ H' => ∃ v x4 x5 mk m ps g us, σ = [some v, some (.ref lf), some (.int mk), some (.ref lg), x4, x5] ∧ Ex H (wo [lg] H') ∧ Dp K (wo [lg] H') v (ghD m false ps) ∧ H' lg = some (.lst us) ∧ DpAll K (wo [lg] H') us (pcD (P.take g)) ∧ St15 P ps g m mk) (fun R r => ⟨_, rfl, r⟩) (n0.sqL hF) ⟨_, _, _, m, m, P, 0, [], rfl, n0.woN (fun b hb => by rw [List.mem_singleton.mp hb]; exact hlg), Dp.offL (l := []) upd_same _ _ (noL_gh _ _ _) (Ex.dp n0 _ _ hd), upd_same, .nil, ⟨Nat.zero_le _, hm, .inl ⟨rfl, rfl⟩⟩⟩ ?hl ?hs ?hd
  case hl =>
    rintro j σ H' ⟨v, x4, x5, mk, m, ps, g, us, rfl, e, _⟩
    exact Ex.sqL (Same.trans e wo_ex) hF
  case hd =>
    rintro σ H' ⟨v, x4, x5, mk, m, ps, g, us, rfl, e, hd, hg, hu, hst⟩
    walk_at "sm"
    exact ⟨up2, fun t ht => q _ _ m ps g (Same.trans e (Same.trans wo_ex (Ex.new ht))) (Dp.newT ht (.cons (Ex.dp wo_ex _ _ hd) (.cons (.lst (SqL.of hg) (Ex.dpAll wo_ex _ _ hu)) .nil))) hst.good⟩
  case hs =>
    rintro j x σ H1 hx ⟨v, x4, x5, mk, m, ps, g, us, rfl, e1, hd, hg, hu, hst⟩
    rw [List.getElem?_map] at hx
    obtain ⟨f, hf, rfl⟩ := Option.map_eq_some_iff.mp hx
    walk_at "sm"
    refine ⟨v, m, false, ps, rfl, Ex.dp wo_ex _ _ hd, fun w H2 e2 hw => ⟨up2, fun a1 ha1 => ⟨a1, [.int 0, .int 3], rfl, .inr (SqT.of upd_same), rfl, rfl, _, rfl, ?_⟩⟩⟩
    have n1 := Ex.new ha1 (o := .tup [.int 0, .int 3])
    have hw1 := Ex.dp n1 _ _ hw
    have e13 : Ex H1 (upd H2 a1 (.tup [.int 0, .int 3])) := Same.trans e2 n1
    generalize upd H2 a1 (.tup [.int 0, .int 3]) = G at n1 hw1 e13 ⊢
    have stay' : ∀ G', Ex H1 G' → Ex H (wo [lg] G') ∧ Dp K (wo [lg] G') v (ghD m false ps) ∧ G' lg = some (.lst us) ∧ DpAll K (wo [lg] G') us (pcD (P.take g)) := fun G' e' =>
      ⟨Same.trans e1 e'.wo, Ex.dp e'.wo _ _ hd, e' _ _ hg, Ex.dpAll e'.wo _ _ hu⟩
    obtain ⟨hs, hm', hcase⟩ := id hst
    cases ps with
    | nil =>
      rw [asked_nak] at hw1
      obtain ⟨pw, zs, rfl, s1, s2⟩ := hw1.tupE
      obtain ⟨z1, r1, rfl, a1', s2⟩ := s2.consE
      cases s2.nilE
      cases a1'.strE
      obtain ⟨t1, t2, t3, t4⟩ := stay' G e13
      refine iteB (fun _ => ?_) (fun _ => ?_)
      · refine ⟨pw, rfl, _, s1, _, rfl, rfl, iteN (by decide +kernel) ?_⟩
        exact ⟨v, _, _, mk, ⟨rfl, rfl, rfl, rfl⟩, t1, m, [], t2, g, us, t3, t4, hst⟩
      · exact ⟨v, _, _, mk, ⟨rfl, rfl, rfl, rfl⟩, t1, m, [], t2, g, us, t3, t4, hst⟩
    | cons d ps =>
      rw [asked_data] at hw1
      obtain ⟨pw, zs, rfl, s1, s2⟩ := hw1.tupE
      obtain ⟨z1, r1, rfl, a1', s2⟩ := s2.consE
      obtain ⟨z2, r2, rfl, a2', s2⟩ := s2.consE
      obtain ⟨z3, r3, rfl, a3', s2⟩ := s2.consE
      cases s2.nilE
      cases a1'.strE
      cases a2'.intE
      obtain ⟨t1, t2, t3, t4⟩ := stay' G e13
      refine iteB (fun _ => ?_) (fun _ => ?_)
      · refine ⟨pw, rfl, _, s1, _, rfl, rfl, iteY (decide_eq_true rfl) ?_⟩
        refine ⟨pw, rfl, _, s1, _, rfl, rfl, iteP (fun c => ?_) (fun c => ?_)⟩
        · have c : m = mk := V.int.inj c
          have hc2 : d :: ps = P.drop g := by
            rcases hcase with ⟨_, e⟩ | ⟨e, _⟩
            · exact e
            · omega
          obtain ⟨hp1, hp2, hgl⟩ := drop_next hc2
          have e4 : P.take (g + 1) = P.take g ++ [d] := take_one hp1
          simp only [tBM, rAppend]
          walk_at "sm"
          refine ⟨Or.inl ⟨rfl, _, SqL.of t3⟩, _, s1, _, rfl, _, t3, ?_, ?_⟩
          · rw [DpAll.len t4]
            unfold pcD
            rw [List.length_map, List.length_take]
            exact Nat.lt_of_le_of_lt (show _ ≤ 900 by omega) (by decide)
          · have ew : wo [lg] (upd G lg (.lst (us ++ [z3]))) = wo [lg] G := wo_upd (List.mem_singleton.mpr rfl)
            have hu2 : DpAll K (wo [lg] G) (us ++ [z3]) (pcD (P.take (g + 1))) := by
              rw [e4, pcD_app]
              exact DpAll.app t4 (.cons (Dp.offL t3 _ _ (noLs_ints d) a3') .nil)
            have hx3 : upd G lg (.lst (us ++ [z3])) lg = some (.lst (us ++ [z3])) := upd_same
            refine iteP (fun _ => ?_) (fun _ => ?_)
            · refine ⟨v, m, false, d :: ps, rfl, Ex.dp wo_ex _ _ (by rw [ew]; exact t2), fun v' H3 e3 hv => ?_⟩
              have e3w : Ex (wo [lg] G) (wo [lg] H3) := by rw [← ew]; exact e3.wo
              refine ⟨v', _, _, 1 - mk, ⟨rfl, rfl, rfl, rfl⟩, Same.trans t1 e3w, 1 - m, ps, Dp.offL (e3 _ _ hx3) _ _ (noL_gh _ _ _) ?_, g + 1, _, e3 _ _ hx3, Ex.dpAll e3w _ _ hu2, hgl, by omega, .inl ⟨by omega, hp2⟩⟩
              rw [wentD, if_neg (by simp)] at hv
              exact hv
            · exact ⟨v, _, _, 1 - mk, ⟨rfl, rfl, rfl, rfl⟩, by rw [ew]; exact t1, m, d :: ps, by rw [ew]; exact t2, g + 1, _, hx3, by rw [ew]; exact hu2, hgl, hm', .inr ⟨by omega, by omega, hc2⟩⟩
        · have c : m ≠ mk := fun z => c (by rw [z])
          have hc2 : mk = 1 - m ∧ 0 < g ∧ d :: ps = P.drop (g - 1) := by
            rcases hcase with ⟨e, _⟩ | e
            · exact absurd e.symm c
            · exact e
          obtain ⟨q1, q2, q3⟩ := hc2
          obtain ⟨hp1, hp2, hgl⟩ := drop_next q3
          refine iteP (fun _ => ?_) (fun _ => ?_)
          · refine ⟨v, m, false, d :: ps, rfl, Ex.dp wo_ex _ _ t2, fun v' H3 e3 hv => ?_⟩
            obtain ⟨y1, y2, y3, y4⟩ := stay' H3 (Same.trans e13 e3)
            refine ⟨v', _, _, mk, ⟨rfl, rfl, rfl, rfl⟩, y1, 1 - m, ps, Dp.offL y3 _ _ (noL_gh _ _ _) ?_, g, us, y3, y4, hs, by omega, .inl ⟨q1, ?_⟩⟩
            · rw [wentD, if_neg (by simp)] at hv
              exact hv
            · rw [hp2, show g - 1 + 1 = g by omega]
          · exact ⟨v, _, _, mk, ⟨rfl, rfl, rfl, rfl⟩, t1, m, d :: ps, t2, g, us, t3, t4, hst⟩
      · exact ⟨v, _, _, mk, ⟨rfl, rfl, rfl, rfl⟩, t1, m, d :: ps, t2, g, us, t3, t4, hst⟩
theorem eqv_pcs : ∀ as bs : List (List Int), PyData.eqvAll (pcD as) (pcD bs) = decide (as = bs)
  | [], [] => rfl
  | [], _ :: _ => rfl
  | _ :: _, [] => rfl
  | a :: as, b :: bs => by
    show (PyData.eqv (.tuple (a.map PyData.int)) (.tuple (b.map PyData.int)) && PyData.eqvAll (pcD as) (pcD bs)) = _
    rw [eqv_pcs as bs, eqvT]
    by_cases e : a = b <;> by_cases f : as = bs <;> simp [e, f]
theorem eqvP (as bs : List (List Int)) : PyData.eqv (.list (pcD as)) (.list (pcD bs)) = decide (as = bs) := by
  show PyData.eqvAll _ _ = _
  exact eqv_pcs as bs
theorem shapedP (ps : List (List Int)) : SeqAt.shaped (.list (pcD ps)) = true := (Shp.lst (n := 2) fun d hd => by
  obtain ⟨p, hp, rfl⟩ := List.mem_map.mp hd
  exact Shp.ints p).shaped (by decide)
theorem pcD_take (P : List (List Int)) (n : Nat) : pcD (P.take n) = (pcD P).take n := List.map_take ..
theorem pcD_drop (P : List (List Int)) (n : Nat) : pcD (P.drop n) = (pcD P).drop n := List.map_drop ..
theorem rd__law_right : RD (sp__law_right K a) (t__law_right K a) N__law_right := by
  rintro vs H Q E ⟨lp, v, u, m, xs, P, ps, g, rfl, hd, hu, hP, hA, hl, ⟨g1, g2⟩, q⟩
  obtain ⟨p, t, ys, rfl, hS, hT, hY⟩ := gh_open hd
  obtain ⟨lg, us, rfl, hG, hU⟩ := hu.lstE
  have hgl : us.length = g := by
    rw [DpAll.len hU]
    unfold pcD
    rw [List.length_map, List.length_take]
    omega
  show t__law_right K a _ [some (.ref lp), some (.ref p), some (.ref lg), none] H
  unfold t__law_right
  walk_at "sm"
  refine ⟨_, .inl hG, _, hP, fun p1 h1 => ?_⟩
  rw [hgl, cut_take (by omega), Int.toNat_natCast]
  have n1 := Ex.new h1 (o := .lst (xs.take g))
  have dt : Dp K (upd H p1 (.lst (xs.take g))) (.ref p1) (.list (pcD (P.take g))) := Dp.newL h1 (by rw [pcD_take]; exact hA.take)
  generalize upd H p1 (.lst (xs.take g)) = H1 at n1 dt ⊢
  refine ⟨_, _, Ex.dp n1 _ _ hu, dt, shapedP _, shapedP _, ?_⟩
  rw [eqvP, decide_eq_true rfl]
  refine ⟨_, rfl, iteF ?_⟩
  have hp : ∀ (G : Hp), Ex H G → SqT K G p [.int m, .bl false, .ref t] ∧ SqT K G t ys ∧ DpAll K G ys (pcD ps) ∧ SqL K G lp xs ∧ DpAll K G xs (pcD P) := fun G e => ⟨Ex.sqT e hS, Ex.sqT e hT, Ex.dpAll e _ _ hY, Ex.sqL e hP, Ex.dpAll e _ _ hA⟩
  obtain ⟨y1, y2, y3, y4, y5⟩ := hp H1 n1
  refine ⟨_, y1, _, rfl, t, rfl, _, .inr y2, fun l2 h2 => ?_⟩
  have n2 := Ex.new h2 (o := .lst ys)
  have d2 : Dp K (upd H1 l2 (.lst ys)) (.ref l2) (.list (pcD ps)) := Dp.newL h2 y3
  generalize upd H1 l2 (.lst ys) = H2 at n2 d2 ⊢
  obtain ⟨z1, z2, z3, z4, z5⟩ := hp H2 (Same.trans n1 n2)
  refine ⟨_, z4, fun p3 h3 => ?_⟩
  rw [cut_drop (by omega), Int.toNat_natCast]
  have n3 := Ex.new h3 (o := .lst (xs.drop g))
  have d3 : Dp K (upd H2 p3 (.lst (xs.drop g))) (.ref p3) (.list (pcD (P.drop g))) := Dp.newL h3 (by rw [pcD_drop]; exact z5.drop)
  generalize upd H2 p3 (.lst (xs.drop g)) = H3 at n3 d3 ⊢
  have e03 : Ex H H3 := Same.trans n1 (Same.trans n2 n3)
  refine ⟨_, _, Ex.dp n3 _ _ d2, d3, shapedP _, shapedP _, ?_⟩
  rw [eqvP]
  refine ⟨_, rfl, iteP (fun _ => q H3 e03) (fun c => ?_)⟩
  rcases g2 with g2 | ⟨g3, g4⟩
  · exact absurd g2 c
  · refine iteY (decide_eq_true (by omega)) ?_
    obtain ⟨w1, w2, w3, w4, w5⟩ := hp H3 e03
    refine ⟨_, w1, _, rfl, t, rfl, _, .inr w2, fun l4 h4 => ?_⟩
    have n4 := Ex.new h4 (o := .lst ys)
    have d4 : Dp K (upd H3 l4 (.lst ys)) (.ref l4) (.list (pcD ps)) := Dp.newL h4 w3
    generalize upd H3 l4 (.lst ys) = H4 at n4 d4 ⊢
    obtain ⟨v1, v2, v3, v4, v5⟩ := hp H4 (Same.trans e03 n4)
    refine ⟨_, v4, fun p5 h5 => ?_⟩
    rw [cut_drop (by omega), show ((g : Int) - 1).toNat = g - 1 by omega]
    have n5 := Ex.new h5 (o := .lst (xs.drop (g - 1)))
    have d5 : Dp K (upd H4 p5 (.lst (xs.drop (g - 1)))) (.ref p5) (.list (pcD (P.drop (g - 1)))) := Dp.newL h5 (by rw [pcD_drop]; exact v5.drop)
    generalize upd H4 p5 (.lst (xs.drop (g - 1))) = H5 at n5 d5 ⊢
    refine ⟨_, _, Ex.dp n5 _ _ d4, d5, shapedP _, shapedP _, ?_⟩
    rw [eqvP, decide_eq_true g4]
    exact q H5 (Same.trans e03 (Same.trans n4 n5))
theorem noP (P : List (List Int)) : noLs (pcD P) = true := noLs_all fun d hd => by
  obtain ⟨q, _, rfl⟩ := List.mem_map.mp hd
  show noLs _ = true
  exact noLs_ints q
theorem cut8_len {ns : List Int} (h : ns.length ≤ 200) : (cutL ns (8 : Int).toNat).length ≤ 300 := by
  rw [cutL_len]
  have := Nat.div_le_self ns.length (8 : Int).toNat
  omega
theorem rd_law : RD (sp_law K a) (t_law K a) N_law := by
  rintro vs H Q E ⟨p, cs, rfl, hS, hl, q⟩
  show t_law K a _ [some (.ref p), none, none, none, none, none] H
  unfold t_law
  walk_at "sm"
  refine ⟨p, cs, rfl, hS, hl, fun B c H1 hB e bag => ?_⟩
  refine ⟨B, c, cs, 20, rfl, bag, by decide, by decide, fun t ns H2 hl2 hb2 bag2 e2 h2 => ?_⟩
  refine ⟨t, ns, 8, rfl, wo_ex.sqT h2, by decide, by decide, by omega, fun l1 xs1 H3 nl1 e3 hx1 d1 => ?_⟩
  have bag3 := bag2.mono e3
  have lB1 : l1 ≠ B := fun z => bag2.there (z ▸ nl1)
  have w1 := Dp.offAll' bag3 (noP _) d1
  refine ⟨B, c, cs, 9, rfl, bag3, by decide, by decide, fun t4 ns4 H4 hl4 hb4 bag4 e4 h4 => ?_⟩
  refine ⟨t4, ns4, 8, rfl, wo_ex.sqT h4, by decide, by decide, by omega, fun l2 xs2 H5 nl2 e5 hx2 d2 => ?_⟩
  have hx1' := e5 _ _ (stay e4 lB1 hx1)
  have d1' := Ex.dpAll e5 _ _ (Ex.dpAll wo_ex _ _ (Ex.dpAll e4 _ _ w1))
  have c1 := cut8_len (ns := ns) (by omega)
  have c2 := cut8_len (ns := ns4) (by omega)
  have bag5 := bag4.mono e5
  have m1 : xs1.length ≤ 300 := by rw [DpAll.len d1]; unfold pcD; rw [List.length_map]; exact c1
  have m2 : xs2.length ≤ 300 := by rw [DpAll.len d2]; unfold pcD; rw [List.length_map]; exact c2
  refine ⟨_, _, _, _, rfl, rfl, hx1', hx2, Nat.le_trans (show _ ≤ 600 by omega) (by decide), fun lp hlp => ?_⟩
  have n6 := Ex.new hlp (o := .lst (xs1 ++ xs2))
  have hx3 : upd H5 lp (.lst (xs1 ++ xs2)) lp = some (.lst (xs1 ++ xs2)) := upd_same
  have d3 := Ex.dpAll n6 _ _ (DpAll.app d1' d2)
  rw [← pcD_app] at d3
  have hL3 : (cutL ns (8 : Int).toNat ++ cutL ns4 (8 : Int).toNat).length ≤ 900 := by rw [List.length_append]; omega
  have bag6 := bag5.mono n6
  generalize upd H5 lp (.lst (xs1 ++ xs2)) = H6 at n6 hx3 d3 bag6 ⊢
  generalize cutL ns (8 : Int).toNat ++ cutL ns4 (8 : Int).toNat = P at d3 hL3
  generalize xs1 ++ xs2 = xs at hx3 d3
  clear w1 d1 d1' d2 hx1 hx1' hx2 m1 m2 c1 c2
  try dsimp only
  refine forLC (fun l rows H0 => Ex H6 H0 ∧ SqL K H0 l rows ∧ RowsAt H0 rows) (fun l rows j σ H' => (∃ x3 x4 x5, σ = [some (.ref p), some (.ref B), some (.ref lp), x3, x4, x5]) ∧ Ex H6 H' ∧ SqL K H' l rows ∧ RowsAt H' rows) ?ht (fun _ _ _ h => h.2.1) (fun _ _ _ h => ⟨⟨_, _, _, rfl⟩, h⟩) (fun _ _ _ _ _ h => h.2.2.1) ?hs ?hd
  case ht =>
    intro R r
    walk_at "sm"
    exact ⟨rfl, fun l rows H' nl e' h' hr => r l rows H' ⟨e', SqL.of h', hr⟩⟩
  case hs =>
    rintro l rows j x σ H7 hx ⟨⟨x3, x4, x5, rfl⟩, e7, hl7, hr7⟩
    obtain ⟨pr, fs, rfl, hf1, hf2⟩ := hr7 x (List.mem_of_getElem? hx)
    walk_at "sm"
    refine ⟨_, .inl ⟨SqL.of (e7 _ _ hx3), fun a1 h1 => ⟨up3, fun a2 h2' => ?_⟩⟩⟩
    have n1 := Ex.new h1 (o := .tup xs)
    have n2 := Ex.new h2' (o := .tup [.int 0, .bl false, .ref a1])
    have n12 := Same.trans n1 n2
    have dh := Dp.newT h2' (.cons (.int 0) (.cons (.bl false) (.cons (Dp.newT h1 (Ex.dpAll e7 _ _ d3)) .nil))) (K := K)
    refine ⟨_, pr, 0, P, fs, rfl, dh, .inl rfl, hL3, SqL.of (n12 _ _ hf1), fun w H8 m' ps g e8 hw hg => ?_⟩
    obtain ⟨pw, ys, rfl, s1, s2⟩ := hw.tupE
    obtain ⟨z1, r1, rfl, a1', s2⟩ := s2.consE
    obtain ⟨z2, r2, rfl, a2', s2⟩ := s2.consE
    cases s2.nilE
    have e68 := Same.trans e7 (Same.trans n12 e8)
    refine ⟨pw, rfl, _, s1, rfl, _, _, rfl, _, _, rfl, rfl, ?_⟩
    refine ⟨lp, z1, z2, m', xs, P, ps, g, rfl, a1', a2', SqL.of (e68 _ _ hx3), Ex.dpAll e68 _ _ d3, hL3, hg, fun H9 e9 => ⟨true, rfl, iteF ?_⟩⟩
    have e79 := Same.trans n12 (Same.trans e8 e9)
    exact ⟨⟨_, rfl⟩, Same.trans e68 e9, Ex.sqL e79 hl7, fun x hx => by
      obtain ⟨q1, q2, q3, q4, q5⟩ := hr7 x hx
      exact ⟨q1, q2, q3, e79 _ _ q4, q5⟩⟩
  case hd =>
    rintro l rows σ H7 ⟨⟨x3, x4, x5, rfl⟩, e7, _, _⟩
    have bag7 := bag6.mono e7
    clear d3 hx3 hL3 hl2 hb2 h2
    walk_at "sm"
    refine ⟨B, c, cs, 120, rfl, bag7, by decide, by decide, fun t ns H8 hl8 hb8 bag8 e8 h8 => ?_⟩
    refine ⟨t, ns, 8, rfl, wo_ex.sqT h8, by decide, by decide, by omega, fun lq ys H9 nlq e9 hy9 d9 => ?_⟩
    have bag9 := bag8.mono e9
    have qB : lq ≠ B := fun z => bag8.there (z ▸ nlq)
    have cq := cut8_len (ns := ns) (by omega)
    have w9 := Dp.offAll' bag9 (noP _) d9
    try dsimp only
    refine ⟨B, c, cs, 2, rfl, bag9, by decide, by decide, fun m H10 m0 m1 bag10 o10 => ?_⟩
    have hy10 := stay (off_wo o10) qB hy9
    refine ⟨_, rfl, _, .inl ⟨SqL.of hy10, fun a1 h1 => ⟨up3, fun a2 h2' => ?_⟩⟩⟩
    have n12 : Ex H10 _ := Same.trans (Ex.new h1 (o := .tup ys)) (Ex.new h2' (o := .tup [.int m, .bl false, .ref a1]))
    have w10 := Ex.dpAll (off_wo o10) _ _ w9
    have dh := Dp.newT h2' (.cons (.int m) (.cons (.bl false) (.cons (Dp.newT h1 (Ex.dpAll wo_ex _ _ w10)) .nil))) (K := K)
    have bag11 := bag10.mono n12
    have dhw := Dp.off bag11 _ _ (noL_gh m false (cutL ns (8 : Int).toNat)) dh
    refine ⟨B, c, cs, 40, rfl, bag11, by decide, by decide, fun lf fs H12 nlf hfl bag12 e12 hf => ?_⟩
    have e1012 := Same.trans (Ex.wo (B := [B]) n12) e12
    have hy12 := stay e1012 qB hy10
    have w12 := Ex.dpAll wo_ex _ _ (Ex.dpAll e1012 _ _ w10)
    refine ⟨_, lf, m, cutL ns (8 : Int).toNat, fs, rfl, Ex.dp wo_ex _ _ (Ex.dp e12 _ _ dhw), by omega, by omega, SqL.of hf, fun w H13 m' ps g e13 hw hg => ?_⟩
    obtain ⟨pw, us, rfl, s1, s2⟩ := hw.tupE
    obtain ⟨z1, r1', rfl, a1', s2⟩ := s2.consE
    obtain ⟨z2, r2, rfl, a2', s2⟩ := s2.consE
    cases s2.nilE
    refine ⟨pw, rfl, _, s1, rfl, _, _, rfl, _, _, rfl, rfl, ?_⟩
    exact ⟨lq, z1, z2, m', ys, _, ps, g, rfl, a1', a2', SqL.of (e13 _ _ hy12), Ex.dpAll e13 _ _ w12, by omega, hg, fun H14 e14 => q H14⟩
end
end My

namespace My
open PySem PySem.Spec PyProof.Rows L2
section
variable {P : Program} {w : World} {K : PySem.W.Frag} {mg : Str → Option Value} {base : Heap} {a : Ad}
theorem ok_is_number (T : Txt K mg a)
    (rd : RD (sp_is_number K a) (t_is_number K a) N_is_number) :
    FnOk P a.w K mg base CX0 1 a.f_is_number a.d_is_number P_is_number (sp_is_number K a) := by
  have nd := sc_is_number.nd
  refine T.F_is_number.ok sc_is_number (fun vs H Q E h => by first | (obtain ⟨rfl, _⟩ := h; rfl; done) | (obtain ⟨_, rfl, _⟩ := h; rfl; done) | (obtain ⟨_, _, rfl, _⟩ := h; rfl; done) | (obtain ⟨_, _, _, rfl, _⟩ := h; rfl; done) | (obtain ⟨_, _, _, _, rfl, _⟩ := h; rfl; done) | (obtain ⟨_, _, _, _, _, rfl, _⟩ := h; rfl; done) | (obtain ⟨_, _, _, _, _, _, rfl, _⟩ := h; rfl; done) | (obtain ⟨_, _, _, _, _, _, _, rfl, _⟩ := h; rfl; done) | (obtain ⟨_, _, _, _, _, _, _, _, rfl, _⟩ := h; rfl; done) | (obtain ⟨_, _, _, _, _, _, _, _, _, rfl, _⟩ := h; rfl; done) | (obtain ⟨_, _, _, _, _, _, _, _, _, _, rfl, _⟩ := h; rfl; done) | (obtain ⟨_, _, _, _, _, _, _, _, _, _, _, rfl, _⟩ := h; rfl; done) | (obtain ⟨_, _, _, _, _, _, _, _, _, _, _, _, rfl, _⟩ := h; rfl; done) | (obtain ⟨_, _, _, _, _, _, _, _, _, _, _, _, _, rfl, _⟩ := h; rfl; done) | (obtain ⟨_, _, _, _, _, _, _, _, _, _, _, _, _, _, rfl, _⟩ := h; rfl; done) | (rcases h with ⟨_, rfl, _⟩ | ⟨_, rfl, _⟩ <;> rfl; done) | (rcases h with ⟨_, rfl, _⟩ | ⟨_, _, rfl, _⟩ <;> rfl; done) | (rcases h with ⟨_, rfl, _⟩ | ⟨_, _, _, rfl, _⟩ <;> rfl; done) | (rcases h with ⟨_, rfl, _⟩ | ⟨_, _, _, _, rfl, _⟩ <;> rfl; done) | (rcases h with ⟨_, rfl, _⟩ | ⟨_, _, _, _, _, rfl, _⟩ <;> rfl; done) | (rcases h with ⟨_, rfl, _⟩ | ⟨_, _, _, _, _, _, rfl, _⟩ <;> rfl; done) | (rcases h with ⟨_, _, rfl, _⟩ | ⟨_, rfl, _⟩ <;> rfl; done) | (rcases h with ⟨_, _, rfl, _⟩ | ⟨_, _, rfl, _⟩ <;> rfl; done) | (rcases h with ⟨_, _, rfl, _⟩ | ⟨_, _, _, rfl, _⟩ <;> rfl; done) | (rcases h with ⟨_, _, rfl, _⟩ | ⟨_, _, _, _, rfl, _⟩ <;> rfl; done) | (rcases h with ⟨_, _, rfl, _⟩ | ⟨_, _, _, _, _, rfl, _⟩ <;> rfl; done) | (rcases h with ⟨_, _, rfl, _⟩ | ⟨_, _, _, _, _, _, rfl, _⟩ <;> rfl; done) | (rcases h with ⟨_, _, _, rfl, _⟩ | ⟨_, rfl, _⟩ <;> rfl; done) | (rcases h with ⟨_, _, _, rfl, _⟩ | ⟨_, _, rfl, _⟩ <;> rfl; done) | (rcases h with ⟨_, _, _, rfl, _⟩ | ⟨_, _, _, rfl, _⟩ <;> rfl; done) | (rcases h with ⟨_, _, _, rfl, _⟩ | ⟨_, _, _, _, rfl, _⟩ <;> rfl; done) | (rcases h with ⟨_, _, _, rfl, _⟩ | ⟨_, _, _, _, _, rfl, _⟩ <;> rfl; done) | (rcases h with ⟨_, _, _, rfl, _⟩ | ⟨_, _, _, _, _, _, rfl, _⟩ <;> rfl; done) | (rcases h with ⟨_, _, _, _, rfl, _⟩ | ⟨_, rfl, _⟩ <;> rfl; done) | (rcases h with ⟨_, _, _, _, rfl, _⟩ | ⟨_, _, rfl, _⟩ <;> rfl; done) | (rcases h with ⟨_, _, _, _, rfl, _⟩ | ⟨_, _, _, rfl, _⟩ <;> rfl; done) | (rcases h with ⟨_, _, _, _, rfl, _⟩ | ⟨_, _, _, _, rfl, _⟩ <;> rfl; done) | (rcases h with ⟨_, _, _, _, rfl, _⟩ | ⟨_, _, _, _, _, rfl, _⟩ <;> rfl; done) | (rcases h with ⟨_, _, _, _, rfl, _⟩ | ⟨_, _, _, _, _, _, rfl, _⟩ <;> rfl; done) | (rcases h with ⟨_, _, _, _, _, rfl, _⟩ | ⟨_, rfl, _⟩ <;> rfl; done) | (rcases h with ⟨_, _, _, _, _, rfl, _⟩ | ⟨_, _, rfl, _⟩ <;> rfl; done) | (rcases h with ⟨_, _, _, _, _, rfl, _⟩ | ⟨_, _, _, rfl, _⟩ <;> rfl; done) | (rcases h with ⟨_, _, _, _, _, rfl, _⟩ | ⟨_, _, _, _, rfl, _⟩ <;> rfl; done) | (rcases h with ⟨_, _, _, _, _, rfl, _⟩ | ⟨_, _, _, _, _, rfl, _⟩ <;> rfl; done) | (rcases h with ⟨_, _, _, _, _, rfl, _⟩ | ⟨_, _, _, _, _, _, rfl, _⟩ <;> rfl; done) | (rcases h with ⟨_, _, _, _, _, _, rfl, _⟩ | ⟨_, rfl, _⟩ <;> rfl; done) | (rcases h with ⟨_, _, _, _, _, _, rfl, _⟩ | ⟨_, _, rfl, _⟩ <;> rfl; done) | (rcases h with ⟨_, _, _, _, _, _, rfl, _⟩ | ⟨_, _, _, rfl, _⟩ <;> rfl; done) | (rcases h with ⟨_, _, _, _, _, _, rfl, _⟩ | ⟨_, _, _, _, rfl, _⟩ <;> rfl; done) | (rcases h with ⟨_, _, _, _, _, _, rfl, _⟩ | ⟨_, _, _, _, _, rfl, _⟩ <;> rfl; done) | (rcases h with ⟨_, _, _, _, _, _, rfl, _⟩ | ⟨_, _, _, _, _, _, rfl, _⟩ <;> rfl; done) | (rcases h with ⟨_, rfl, _⟩ | ⟨_, _, rfl, _⟩ <;> rfl) | (rcases h with ⟨_, rfl, _⟩ | ⟨_, rfl, _⟩ <;> rfl) | (rcases h with h | h | h <;> (first | (obtain ⟨rfl, _⟩ := h; rfl; done) | (obtain ⟨_, rfl, _⟩ := h; rfl; done) | (obtain ⟨_, _, rfl, _⟩ := h; rfl; done) | (obtain ⟨_, _, _, rfl, _⟩ := h; rfl; done) | (obtain ⟨_, _, _, _, rfl, _⟩ := h; rfl; done) | (obtain ⟨_, _, _, _, _, rfl, _⟩ := h; rfl; done) | (obtain ⟨_, _, _, _, _, _, rfl, _⟩ := h; rfl; done) | (obtain ⟨_, _, _, _, _, _, _, rfl, _⟩ := h; rfl; done) | (obtain ⟨_, _, _, _, _, _, _, _, rfl, _⟩ := h; rfl; done) | (obtain ⟨_, _, _, _, _, _, _, _, _, rfl, _⟩ := h; rfl; done) | (obtain ⟨_, _, _, _, _, _, _, _, _, _, rfl, _⟩ := h; rfl; done) | (obtain ⟨_, _, _, _, _, _, _, _, _, _, _, rfl, _⟩ := h; rfl; done) | (obtain ⟨_, _, _, _, _, _, _, _, _, _, _, _, rfl, _⟩ := h; rfl; done) | (obtain ⟨_, _, _, _, _, _, _, _, _, _, _, _, _, rfl, _⟩ := h; rfl; done) | (obtain ⟨_, _, _, _, _, _, _, _, _, _, _, _, _, _, rfl, _⟩ := h; rfl; done)))) (fun cdv A outer s H vs Q E hr h => ⟨t_is_number K a, ?_, rd vs H Q E h⟩)
  exact (pss_one (ps_ret (pe_and (pe_callB call_isi (by rfl) T.n_isinstance (by decide +kernel) (pa_cons (pv 0) (pa_cons (pe_bltn (v := .ty "int") rfl T.n_int (by decide +kernel) rfl) pa_nil))) (pe_one (pe_chain op_le op_le (pv 1) (pv 0) (pv 2))))))
theorem ok_need_number (T : Txt K mg a)
    (G_is_number : FnOk P a.w K mg base CX0 1 a.f_is_number a.d_is_number P_is_number (sp_is_number K a))
    (rd : RDX (sp_need_number K a) (t_need_number K a) N_need_number) :
    FnOk P a.w K mg base (L2.CX P a.w) 2 a.f_need_number a.d_need_number P_need_number (sp_need_number K a) := by
  have nd := sc_need_number.nd
  refine T.F_need_number.okX sc_need_number (fun vs H Q E h => by first | (obtain ⟨rfl, _⟩ := h; rfl; done) | (obtain ⟨_, rfl, _⟩ := h; rfl; done) | (obtain ⟨_, _, rfl, _⟩ := h; rfl; done) | (obtain ⟨_, _, _, rfl, _⟩ := h; rfl; done) | (obtain ⟨_, _, _, _, rfl, _⟩ := h; rfl; done) | (obtain ⟨_, _, _, _, _, rfl, _⟩ := h; rfl; done) | (obtain ⟨_, _, _, _, _, _, rfl, _⟩ := h; rfl; done) | (obtain ⟨_, _, _, _, _, _, _, rfl, _⟩ := h; rfl; done) | (obtain ⟨_, _, _, _, _, _, _, _, rfl, _⟩ := h; rfl; done) | (obtain ⟨_, _, _, _, _, _, _, _, _, rfl, _⟩ := h; rfl; done) | (obtain ⟨_, _, _, _, _, _, _, _, _, _, rfl, _⟩ := h; rfl; done) | (obtain ⟨_, _, _, _, _, _, _, _, _, _, _, rfl, _⟩ := h; rfl; done) | (obtain ⟨_, _, _, _, _, _, _, _, _, _, _, _, rfl, _⟩ := h; rfl; done) | (obtain ⟨_, _, _, _, _, _, _, _, _, _, _, _, _, rfl, _⟩ := h; rfl; done) | (obtain ⟨_, _, _, _, _, _, _, _, _, _, _, _, _, _, rfl, _⟩ := h; rfl; done) | (rcases h with ⟨_, rfl, _⟩ | ⟨_, rfl, _⟩ <;> rfl; done) | (rcases h with ⟨_, rfl, _⟩ | ⟨_, _, rfl, _⟩ <;> rfl; done) | (rcases h with ⟨_, rfl, _⟩ | ⟨_, _, _, rfl, _⟩ <;> rfl; done) | (rcases h with ⟨_, rfl, _⟩ | ⟨_, _, _, _, rfl, _⟩ <;> rfl; done) | (rcases h with ⟨_, rfl, _⟩ | ⟨_, _, _, _, _, rfl, _⟩ <;> rfl; done) | (rcases h with ⟨_, rfl, _⟩ | ⟨_, _, _, _, _, _, rfl, _⟩ <;> rfl; done) | (rcases h with ⟨_, _, rfl, _⟩ | ⟨_, rfl, _⟩ <;> rfl; done) | (rcases h with ⟨_, _, rfl, _⟩ | ⟨_, _, rfl, _⟩ <;> rfl; done) | (rcases h with ⟨_, _, rfl, _⟩ | ⟨_, _, _, rfl, _⟩ <;> rfl; done) | (rcases h with ⟨_, _, rfl, _⟩ | ⟨_, _, _, _, rfl, _⟩ <;> rfl; done) | (rcases h with ⟨_, _, rfl, _⟩ | ⟨_, _, _, _, _, rfl, _⟩ <;> rfl; done) | (rcases h with ⟨_, _, rfl, _⟩ | ⟨_, _, _, _, _, _, rfl, _⟩ <;> rfl; done) | (rcases h with ⟨_, _, _, rfl, _⟩ | ⟨_, rfl, _⟩ <;> rfl; done) | (rcases h with ⟨_, _, _, rfl, _⟩ | ⟨_, _, rfl, _⟩ <;> rfl; done) | (rcases h with ⟨_, _, _, rfl, _⟩ | ⟨_, _, _, rfl, _⟩ <;> rfl; done) | (rcases h with ⟨_, _, _, rfl, _⟩ | ⟨_, _, _, _, rfl, _⟩ <;> rfl; done) | (rcases h with ⟨_, _, _, rfl, _⟩ | ⟨_, _, _, _, _, rfl, _⟩ <;> rfl; done) | (rcases h with ⟨_, _, _, rfl, _⟩ | ⟨_, _, _, _, _, _, rfl, _⟩ <;> rfl; done) | (rcases h with ⟨_, _, _, _, rfl, _⟩ | ⟨_, rfl, _⟩ <;> rfl; done) | (rcases h with ⟨_, _, _, _, rfl, _⟩ | ⟨_, _, rfl, _⟩ <;> rfl; done) | (rcases h with ⟨_, _, _, _, rfl, _⟩ | ⟨_, _, _, rfl, _⟩ <;> rfl; done) | (rcases h with ⟨_, _, _, _, rfl, _⟩ | ⟨_, _, _, _, rfl, _⟩ <;> rfl; done) | (rcases h with ⟨_, _, _, _, rfl, _⟩ | ⟨_, _, _, _, _, rfl, _⟩ <;> rfl; done) | (rcases h with ⟨_, _, _, _, rfl, _⟩ | ⟨_, _, _, _, _, _, rfl, _⟩ <;> rfl; done) | (rcases h with ⟨_, _, _, _, _, rfl, _⟩ | ⟨_, rfl, _⟩ <;> rfl; done) | (rcases h with ⟨_, _, _, _, _, rfl, _⟩ | ⟨_, _, rfl, _⟩ <;> rfl; done) | (rcases h with ⟨_, _, _, _, _, rfl, _⟩ | ⟨_, _, _, rfl, _⟩ <;> rfl; done) | (rcases h with ⟨_, _, _, _, _, rfl, _⟩ | ⟨_, _, _, _, rfl, _⟩ <;> rfl; done) | (rcases h with ⟨_, _, _, _, _, rfl, _⟩ | ⟨_, _, _, _, _, rfl, _⟩ <;> rfl; done) | (rcases h with ⟨_, _, _, _, _, rfl, _⟩ | ⟨_, _, _, _, _, _, rfl, _⟩ <;> rfl; done) | (rcases h with ⟨_, _, _, _, _, _, rfl, _⟩ | ⟨_, rfl, _⟩ <;> rfl; done) | (rcases h with ⟨_, _, _, _, _, _, rfl, _⟩ | ⟨_, _, rfl, _⟩ <;> rfl; done) | (rcases h with ⟨_, _, _, _, _, _, rfl, _⟩ | ⟨_, _, _, rfl, _⟩ <;> rfl; done) | (rcases h with ⟨_, _, _, _, _, _, rfl, _⟩ | ⟨_, _, _, _, rfl, _⟩ <;> rfl; done) | (rcases h with ⟨_, _, _, _, _, _, rfl, _⟩ | ⟨_, _, _, _, _, rfl, _⟩ <;> rfl; done) | (rcases h with ⟨_, _, _, _, _, _, rfl, _⟩ | ⟨_, _, _, _, _, _, rfl, _⟩ <;> rfl; done) | (rcases h with ⟨_, rfl, _⟩ | ⟨_, _, rfl, _⟩ <;> rfl) | (rcases h with ⟨_, rfl, _⟩ | ⟨_, rfl, _⟩ <;> rfl) | (rcases h with h | h | h <;> (first | (obtain ⟨rfl, _⟩ := h; rfl; done) | (obtain ⟨_, rfl, _⟩ := h; rfl; done) | (obtain ⟨_, _, rfl, _⟩ := h; rfl; done) | (obtain ⟨_, _, _, rfl, _⟩ := h; rfl; done) | (obtain ⟨_, _, _, _, rfl, _⟩ := h; rfl; done) | (obtain ⟨_, _, _, _, _, rfl, _⟩ := h; rfl; done) | (obtain ⟨_, _, _, _, _, _, rfl, _⟩ := h; rfl; done) | (obtain ⟨_, _, _, _, _, _, _, rfl, _⟩ := h; rfl; done) | (obtain ⟨_, _, _, _, _, _, _, _, rfl, _⟩ := h; rfl; done) | (obtain ⟨_, _, _, _, _, _, _, _, _, rfl, _⟩ := h; rfl; done) | (obtain ⟨_, _, _, _, _, _, _, _, _, _, rfl, _⟩ := h; rfl; done) | (obtain ⟨_, _, _, _, _, _, _, _, _, _, _, rfl, _⟩ := h; rfl; done) | (obtain ⟨_, _, _, _, _, _, _, _, _, _, _, _, rfl, _⟩ := h; rfl; done) | (obtain ⟨_, _, _, _, _, _, _, _, _, _, _, _, _, rfl, _⟩ := h; rfl; done) | (obtain ⟨_, _, _, _, _, _, _, _, _, _, _, _, _, _, rfl, _⟩ := h; rfl; done)))) (fun cdv A outer s H vs Q E hr h => ⟨t_need_number K a E, ?_, rd vs H Q E h⟩)
  exact (pss_one (ps_if (pt_not (pt_val (pe_call G_is_number (hr.mono (by decide)) rfl T.g_is_number T.F_is_number.kp T.b_is_number .nil pass0 (pa_cons (pv 0) (pa_cons (pv 1) (pa_cons (pv 2) pa_nil)))))) (pss_one (ps_raise rfl (takes_of rfl rfl rfl rfl) (pmk_own PySem.F.excBase_ValueError T.xC_BadNumber T.gC_BadNumber T.kC_BadNumber (raises_own T.bC_BadNumber T.tC_BadNumber) (by exact rfl)))) pss_nil))
theorem ok_cut (T : Txt K mg a)
    (G_need_number : FnOk P a.w K mg base (L2.CX P a.w) 2 a.f_need_number a.d_need_number P_need_number (sp_need_number K a))
    (rd : RDX (sp_cut K a) (t_cut K a) N_cut) :
    FnOk P a.w K mg base (L2.CX P a.w) 3 a.f_cut a.d_cut P_cut (sp_cut K a) := by
  have nd := sc_cut.nd
  refine T.F_cut.okX sc_cut (fun vs H Q E h => by first | (obtain ⟨rfl, _⟩ := h; rfl; done) | (obtain ⟨_, rfl, _⟩ := h; rfl; done) | (obtain ⟨_, _, rfl, _⟩ := h; rfl; done) | (obtain ⟨_, _, _, rfl, _⟩ := h; rfl; done) | (obtain ⟨_, _, _, _, rfl, _⟩ := h; rfl; done) | (obtain ⟨_, _, _, _, _, rfl, _⟩ := h; rfl; done) | (obtain ⟨_, _, _, _, _, _, rfl, _⟩ := h; rfl; done) | (obtain ⟨_, _, _, _, _, _, _, rfl, _⟩ := h; rfl; done) | (obtain ⟨_, _, _, _, _, _, _, _, rfl, _⟩ := h; rfl; done) | (obtain ⟨_, _, _, _, _, _, _, _, _, rfl, _⟩ := h; rfl; done) | (obtain ⟨_, _, _, _, _, _, _, _, _, _, rfl, _⟩ := h; rfl; done) | (obtain ⟨_, _, _, _, _, _, _, _, _, _, _, rfl, _⟩ := h; rfl; done) | (obtain ⟨_, _, _, _, _, _, _, _, _, _, _, _, rfl, _⟩ := h; rfl; done) | (obtain ⟨_, _, _, _, _, _, _, _, _, _, _, _, _, rfl, _⟩ := h; rfl; done) | (obtain ⟨_, _, _, _, _, _, _, _, _, _, _, _, _, _, rfl, _⟩ := h; rfl; done) | (rcases h with ⟨_, rfl, _⟩ | ⟨_, rfl, _⟩ <;> rfl; done) | (rcases h with ⟨_, rfl, _⟩ | ⟨_, _, rfl, _⟩ <;> rfl; done) | (rcases h with ⟨_, rfl, _⟩ | ⟨_, _, _, rfl, _⟩ <;> rfl; done) | (rcases h with ⟨_, rfl, _⟩ | ⟨_, _, _, _, rfl, _⟩ <;> rfl; done) | (rcases h with ⟨_, rfl, _⟩ | ⟨_, _, _, _, _, rfl, _⟩ <;> rfl; done) | (rcases h with ⟨_, rfl, _⟩ | ⟨_, _, _, _, _, _, rfl, _⟩ <;> rfl; done) | (rcases h with ⟨_, _, rfl, _⟩ | ⟨_, rfl, _⟩ <;> rfl; done) | (rcases h with ⟨_, _, rfl, _⟩ | ⟨_, _, rfl, _⟩ <;> rfl; done) | (rcases h with ⟨_, _, rfl, _⟩ | ⟨_, _, _, rfl, _⟩ <;> rfl; done) | (rcases h with ⟨_, _, rfl, _⟩ | ⟨_, _, _, _, rfl, _⟩ <;> rfl; done) | (rcases h with ⟨_, _, rfl, _⟩ | ⟨_, _, _, _, _, rfl, _⟩ <;> rfl; done) | (rcases h with ⟨_, _, rfl, _⟩ | ⟨_, _, _, _, _, _, rfl, _⟩ <;> rfl; done) | (rcases h with ⟨_, _, _, rfl, _⟩ | ⟨_, rfl, _⟩ <;> rfl; done) | (rcases h with ⟨_, _, _, rfl, _⟩ | ⟨_, _, rfl, _⟩ <;> rfl; done) | (rcases h with ⟨_, _, _, rfl, _⟩ | ⟨_, _, _, rfl, _⟩ <;> rfl; done) | (rcases h with ⟨_, _, _, rfl, _⟩ | ⟨_, _, _, _, rfl, _⟩ <;> rfl; done) | (rcases h with ⟨_, _, _, rfl, _⟩ | ⟨_, _, _, _, _, rfl, _⟩ <;> rfl; done) | (rcases h with ⟨_, _, _, rfl, _⟩ | ⟨_, _, _, _, _, _, rfl, _⟩ <;> rfl; done) | (rcases h with ⟨_, _, _, _, rfl, _⟩ | ⟨_, rfl, _⟩ <;> rfl; done) | (rcases h with ⟨_, _, _, _, rfl, _⟩ | ⟨_, _, rfl, _⟩ <;> rfl; done) | (rcases h with ⟨_, _, _, _, rfl, _⟩ | ⟨_, _, _, rfl, _⟩ <;> rfl; done) | (rcases h with ⟨_, _, _, _, rfl, _⟩ | ⟨_, _, _, _, rfl, _⟩ <;> rfl; done) | (rcases h with ⟨_, _, _, _, rfl, _⟩ | ⟨_, _, _, _, _, rfl, _⟩ <;> rfl; done) | (rcases h with ⟨_, _, _, _, rfl, _⟩ | ⟨_, _, _, _, _, _, rfl, _⟩ <;> rfl; done) | (rcases h with ⟨_, _, _, _, _, rfl, _⟩ | ⟨_, rfl, _⟩ <;> rfl; done) | (rcases h with ⟨_, _, _, _, _, rfl, _⟩ | ⟨_, _, rfl, _⟩ <;> rfl; done) | (rcases h with ⟨_, _, _, _, _, rfl, _⟩ | ⟨_, _, _, rfl, _⟩ <;> rfl; done) | (rcases h with ⟨_, _, _, _, _, rfl, _⟩ | ⟨_, _, _, _, rfl, _⟩ <;> rfl; done) | (rcases h with ⟨_, _, _, _, _, rfl, _⟩ | ⟨_, _, _, _, _, rfl, _⟩ <;> rfl; done) | (rcases h with ⟨_, _, _, _, _, rfl, _⟩ | ⟨_, _, _, _, _, _, rfl, _⟩ <;> rfl; done) | (rcases h with ⟨_, _, _, _, _, _, rfl, _⟩ | ⟨_, rfl, _⟩ <;> rfl; done) | (rcases h with ⟨_, _, _, _, _, _, rfl, _⟩ | ⟨_, _, rfl, _⟩ <;> rfl; done) | (rcases h with ⟨_, _, _, _, _, _, rfl, _⟩ | ⟨_, _, _, rfl, _⟩ <;> rfl; done) | (rcases h with ⟨_, _, _, _, _, _, rfl, _⟩ | ⟨_, _, _, _, rfl, _⟩ <;> rfl; done) | (rcases h with ⟨_, _, _, _, _, _, rfl, _⟩ | ⟨_, _, _, _, _, rfl, _⟩ <;> rfl; done) | (rcases h with ⟨_, _, _, _, _, _, rfl, _⟩ | ⟨_, _, _, _, _, _, rfl, _⟩ <;> rfl; done) | (rcases h with ⟨_, rfl, _⟩ | ⟨_, _, rfl, _⟩ <;> rfl) | (rcases h with ⟨_, rfl, _⟩ | ⟨_, rfl, _⟩ <;> rfl) | (rcases h with h | h | h <;> (first | (obtain ⟨rfl, _⟩ := h; rfl; done) | (obtain ⟨_, rfl, _⟩ := h; rfl; done) | (obtain ⟨_, _, rfl, _⟩ := h; rfl; done) | (obtain ⟨_, _, _, rfl, _⟩ := h; rfl; done) | (obtain ⟨_, _, _, _, rfl, _⟩ := h; rfl; done) | (obtain ⟨_, _, _, _, _, rfl, _⟩ := h; rfl; done) | (obtain ⟨_, _, _, _, _, _, rfl, _⟩ := h; rfl; done) | (obtain ⟨_, _, _, _, _, _, _, rfl, _⟩ := h; rfl; done) | (obtain ⟨_, _, _, _, _, _, _, _, rfl, _⟩ := h; rfl; done) | (obtain ⟨_, _, _, _, _, _, _, _, _, rfl, _⟩ := h; rfl; done) | (obtain ⟨_, _, _, _, _, _, _, _, _, _, rfl, _⟩ := h; rfl; done) | (obtain ⟨_, _, _, _, _, _, _, _, _, _, _, rfl, _⟩ := h; rfl; done) | (obtain ⟨_, _, _, _, _, _, _, _, _, _, _, _, rfl, _⟩ := h; rfl; done) | (obtain ⟨_, _, _, _, _, _, _, _, _, _, _, _, _, rfl, _⟩ := h; rfl; done) | (obtain ⟨_, _, _, _, _, _, _, _, _, _, _, _, _, _, rfl, _⟩ := h; rfl; done)))) (fun cdv A outer s H vs Q E hr h => ⟨t_cut K a E, ?_, rd vs H Q E h⟩)
  exact (pss_cons (ps_expr (pe_call G_need_number (hr.mono (by decide)) rfl T.g_need_number T.F_need_number.kp T.b_need_number .nil (passes_call (takes_of rfl rfl rfl rfl) (fun _ _ _ _ h => h)) (pa_cons (pv 1) (pa_cons pe_int (pa_cons (pe_glob (v := (.int 64)) rfl T.g_MOST_SIZE ⟨_, rfl⟩) pa_nil)))))
      (pss_one (ps_ret (pe_lc (own := [("start", 2)]) (g := (gName 2)) (tt := tYes) (te := (tSl (rSlA K) (tVar 0) (tPart (tVar 2)) (tPart (tOp rAddI (tVar 2) (tVar 1))))) rfl nd (pi_range3 rfl T.n_range (pa_cons pe_int (pa_cons (pe_op op_add (pe_callB call_len_seq (by rfl) T.n_len (by decide +kernel) (pa_cons (pv 0) pa_nil)) pe_int) (pa_cons (pv 1) pa_nil)))) (blkOk_by (N := N_cut) (sc := defScope s_cut) (by decide +kernel)) (fun _ _ _ _ _ => (pg_name (i := 2) nd rfl (by first | exact Or.inl rfl | exact Or.inr rfl))) (fun _ _ _ _ _ => pts_nil) (fun _ _ _ _ _ => (pe_slice sl_tupA (pv 0) (po_some (pv 2)) (po_some (pe_op op_add (pv 2) (pv 1)))))))))
theorem ok_asked (T : Txt K mg a)
    (rd : RD (sp_asked K a) (t_asked K a) N_asked) :
    FnOk P a.w K mg base CX0 1 a.f_asked a.d_asked P_asked (sp_asked K a) := by
  have nd := sc_asked.nd
  refine T.F_asked.ok sc_asked (fun vs H Q E h => by first | (obtain ⟨rfl, _⟩ := h; rfl; done) | (obtain ⟨_, rfl, _⟩ := h; rfl; done) | (obtain ⟨_, _, rfl, _⟩ := h; rfl; done) | (obtain ⟨_, _, _, rfl, _⟩ := h; rfl; done) | (obtain ⟨_, _, _, _, rfl, _⟩ := h; rfl; done) | (obtain ⟨_, _, _, _, _, rfl, _⟩ := h; rfl; done) | (obtain ⟨_, _, _, _, _, _, rfl, _⟩ := h; rfl; done) | (obtain ⟨_, _, _, _, _, _, _, rfl, _⟩ := h; rfl; done) | (obtain ⟨_, _, _, _, _, _, _, _, rfl, _⟩ := h; rfl; done) | (obtain ⟨_, _, _, _, _, _, _, _, _, rfl, _⟩ := h; rfl; done) | (obtain ⟨_, _, _, _, _, _, _, _, _, _, rfl, _⟩ := h; rfl; done) | (obtain ⟨_, _, _, _, _, _, _, _, _, _, _, rfl, _⟩ := h; rfl; done) | (obtain ⟨_, _, _, _, _, _, _, _, _, _, _, _, rfl, _⟩ := h; rfl; done) | (obtain ⟨_, _, _, _, _, _, _, _, _, _, _, _, _, rfl, _⟩ := h; rfl; done) | (obtain ⟨_, _, _, _, _, _, _, _, _, _, _, _, _, _, rfl, _⟩ := h; rfl; done) | (rcases h with ⟨_, rfl, _⟩ | ⟨_, rfl, _⟩ <;> rfl; done) | (rcases h with ⟨_, rfl, _⟩ | ⟨_, _, rfl, _⟩ <;> rfl; done) | (rcases h with ⟨_, rfl, _⟩ | ⟨_, _, _, rfl, _⟩ <;> rfl; done) | (rcases h with ⟨_, rfl, _⟩ | ⟨_, _, _, _, rfl, _⟩ <;> rfl; done) | (rcases h with ⟨_, rfl, _⟩ | ⟨_, _, _, _, _, rfl, _⟩ <;> rfl; done) | (rcases h with ⟨_, rfl, _⟩ | ⟨_, _, _, _, _, _, rfl, _⟩ <;> rfl; done) | (rcases h with ⟨_, _, rfl, _⟩ | ⟨_, rfl, _⟩ <;> rfl; done) | (rcases h with ⟨_, _, rfl, _⟩ | ⟨_, _, rfl, _⟩ <;> rfl; done) | (rcases h with ⟨_, _, rfl, _⟩ | ⟨_, _, _, rfl, _⟩ <;> rfl; done) | (rcases h with ⟨_, _, rfl, _⟩ | ⟨_, _, _, _, rfl, _⟩ <;> rfl; done) | (rcases h with ⟨_, _, rfl, _⟩ | ⟨_, _, _, _, _, rfl, _⟩ <;> rfl; done) | (rcases h with ⟨_, _, rfl, _⟩ | ⟨_, _, _, _, _, _, rfl, _⟩ <;> rfl; done) | (rcases h with ⟨_, _, _, rfl, _⟩ | ⟨_, rfl, _⟩ <;> rfl; done) | (rcases h with ⟨_, _, _, rfl, _⟩ | ⟨_, _, rfl, _⟩ <;> rfl; done) | (rcases h with ⟨_, _, _, rfl, _⟩ | ⟨_, _, _, rfl, _⟩ <;> rfl; done) | (rcases h with ⟨_, _, _, rfl, _⟩ | ⟨_, _, _, _, rfl, _⟩ <;> rfl; done) | (rcases h with ⟨_, _, _, rfl, _⟩ | ⟨_, _, _, _, _, rfl, _⟩ <;> rfl; done) | (rcases h with ⟨_, _, _, rfl, _⟩ | ⟨_, _, _, _, _, _, rfl, _⟩ <;> rfl; done) | (rcases h with ⟨_, _, _, _, rfl, _⟩ | ⟨_, rfl, _⟩ <;> rfl; done) | (rcases h with ⟨_, _, _, _, rfl, _⟩ | ⟨_, _, rfl, _⟩ <;> rfl; done) | (rcases h with ⟨_, _, _, _, rfl, _⟩ | ⟨_, _, _, rfl, _⟩ <;> rfl; done) | (rcases h with ⟨_, _, _, _, rfl, _⟩ | ⟨_, _, _, _, rfl, _⟩ <;> rfl; done) | (rcases h with ⟨_, _, _, _, rfl, _⟩ | ⟨_, _, _, _, _, rfl, _⟩ <;> rfl; done) | (rcases h with ⟨_, _, _, _, rfl, _⟩ | ⟨_, _, _, _, _, _, rfl, _⟩ <;> rfl; done) | (rcases h with ⟨_, _, _, _, _, rfl, _⟩ | ⟨_, rfl, _⟩ <;> rfl; done) | (rcases h with ⟨_, _, _, _, _, rfl, _⟩ | ⟨_, _, rfl, _⟩ <;> rfl; done) | (rcases h with ⟨_, _, _, _, _, rfl, _⟩ | ⟨_, _, _, rfl, _⟩ <;> rfl; done) | (rcases h with ⟨_, _, _, _, _, rfl, _⟩ | ⟨_, _, _, _, rfl, _⟩ <;> rfl; done) | (rcases h with ⟨_, _, _, _, _, rfl, _⟩ | ⟨_, _, _, _, _, rfl, _⟩ <;> rfl; done) | (rcases h with ⟨_, _, _, _, _, rfl, _⟩ | ⟨_, _, _, _, _, _, rfl, _⟩ <;> rfl; done) | (rcases h with ⟨_, _, _, _, _, _, rfl, _⟩ | ⟨_, rfl, _⟩ <;> rfl; done) | (rcases h with ⟨_, _, _, _, _, _, rfl, _⟩ | ⟨_, _, rfl, _⟩ <;> rfl; done) | (rcases h with ⟨_, _, _, _, _, _, rfl, _⟩ | ⟨_, _, _, rfl, _⟩ <;> rfl; done) | (rcases h with ⟨_, _, _, _, _, _, rfl, _⟩ | ⟨_, _, _, _, rfl, _⟩ <;> rfl; done) | (rcases h with ⟨_, _, _, _, _, _, rfl, _⟩ | ⟨_, _, _, _, _, rfl, _⟩ <;> rfl; done) | (rcases h with ⟨_, _, _, _, _, _, rfl, _⟩ | ⟨_, _, _, _, _, _, rfl, _⟩ <;> rfl; done) | (rcases h with ⟨_, rfl, _⟩ | ⟨_, _, rfl, _⟩ <;> rfl) | (rcases h with ⟨_, rfl, _⟩ | ⟨_, rfl, _⟩ <;> rfl) | (rcases h with h | h | h <;> (first | (obtain ⟨rfl, _⟩ := h; rfl; done) | (obtain ⟨_, rfl, _⟩ := h; rfl; done) | (obtain ⟨_, _, rfl, _⟩ := h; rfl; done) | (obtain ⟨_, _, _, rfl, _⟩ := h; rfl; done) | (obtain ⟨_, _, _, _, rfl, _⟩ := h; rfl; done) | (obtain ⟨_, _, _, _, _, rfl, _⟩ := h; rfl; done) | (obtain ⟨_, _, _, _, _, _, rfl, _⟩ := h; rfl; done) | (obtain ⟨_, _, _, _, _, _, _, rfl, _⟩ := h; rfl; done) | (obtain ⟨_, _, _, _, _, _, _, _, rfl, _⟩ := h; rfl; done) | (obtain ⟨_, _, _, _, _, _, _, _, _, rfl, _⟩ := h; rfl; done) | (obtain ⟨_, _, _, _, _, _, _, _, _, _, rfl, _⟩ := h; rfl; done) | (obtain ⟨_, _, _, _, _, _, _, _, _, _, _, rfl, _⟩ := h; rfl; done) | (obtain ⟨_, _, _, _, _, _, _, _, _, _, _, _, rfl, _⟩ := h; rfl; done) | (obtain ⟨_, _, _, _, _, _, _, _, _, _, _, _, _, rfl, _⟩ := h; rfl; done) | (obtain ⟨_, _, _, _, _, _, _, _, _, _, _, _, _, _, rfl, _⟩ := h; rfl; done)))) (fun cdv A outer s H vs Q E hr h => ⟨t_asked K a, ?_, rd vs H Q E h⟩)
  exact (pss_cons (ps_asg (pv 0) (pg_tup rfl (pgs_cons (pg_name (i := 1) nd rfl (by first | exact Or.inl rfl | exact Or.inr rfl)) (pgs_cons (pg_name (i := 2) nd rfl (by first | exact Or.inl rfl | exact Or.inr rfl)) (pgs_cons (pg_name (i := 3) nd rfl (by first | exact Or.inl rfl | exact Or.inr rfl)) pgs_nil)))))
      (pss_cons (ps_if (pt_val (pv 2)) (pss_one (ps_ret (pe_tup (pa_cons pe_str pa_nil)))) pss_nil)
      (pss_cons (ps_if (pt_cmpR op_eq (pe_callB call_len_seq (by rfl) T.n_len (by decide +kernel) (pa_cons (pv 3) pa_nil)) pe_int (nomark _)) (pss_one (ps_ret (pe_tup (pa_cons pe_str pa_nil)))) pss_nil)
      (pss_one (ps_ret (pe_tup (pa_cons pe_str (pa_cons (pv 1) (pa_cons (pe_ix ix_tup (pv 3) pe_int (fun _ _ => rfl)) pa_nil)))))))))
theorem ok_went (T : Txt K mg a)
    (rd : RD (sp_went K a) (t_went K a) N_went) :
    FnOk P a.w K mg base CX0 1 a.f_went a.d_went P_went (sp_went K a) := by
  have nd := sc_went.nd
  refine T.F_went.ok sc_went (fun vs H Q E h => by first | (obtain ⟨rfl, _⟩ := h; rfl; done) | (obtain ⟨_, rfl, _⟩ := h; rfl; done) | (obtain ⟨_, _, rfl, _⟩ := h; rfl; done) | (obtain ⟨_, _, _, rfl, _⟩ := h; rfl; done) | (obtain ⟨_, _, _, _, rfl, _⟩ := h; rfl; done) | (obtain ⟨_, _, _, _, _, rfl, _⟩ := h; rfl; done) | (obtain ⟨_, _, _, _, _, _, rfl, _⟩ := h; rfl; done) | (obtain ⟨_, _, _, _, _, _, _, rfl, _⟩ := h; rfl; done) | (obtain ⟨_, _, _, _, _, _, _, _, rfl, _⟩ := h; rfl; done) | (obtain ⟨_, _, _, _, _, _, _, _, _, rfl, _⟩ := h; rfl; done) | (obtain ⟨_, _, _, _, _, _, _, _, _, _, rfl, _⟩ := h; rfl; done) | (obtain ⟨_, _, _, _, _, _, _, _, _, _, _, rfl, _⟩ := h; rfl; done) | (obtain ⟨_, _, _, _, _, _, _, _, _, _, _, _, rfl, _⟩ := h; rfl; done) | (obtain ⟨_, _, _, _, _, _, _, _, _, _, _, _, _, rfl, _⟩ := h; rfl; done) | (obtain ⟨_, _, _, _, _, _, _, _, _, _, _, _, _, _, rfl, _⟩ := h; rfl; done) | (rcases h with ⟨_, rfl, _⟩ | ⟨_, rfl, _⟩ <;> rfl; done) | (rcases h with ⟨_, rfl, _⟩ | ⟨_, _, rfl, _⟩ <;> rfl; done) | (rcases h with ⟨_, rfl, _⟩ | ⟨_, _, _, rfl, _⟩ <;> rfl; done) | (rcases h with ⟨_, rfl, _⟩ | ⟨_, _, _, _, rfl, _⟩ <;> rfl; done) | (rcases h with ⟨_, rfl, _⟩ | ⟨_, _, _, _, _, rfl, _⟩ <;> rfl; done) | (rcases h with ⟨_, rfl, _⟩ | ⟨_, _, _, _, _, _, rfl, _⟩ <;> rfl; done) | (rcases h with ⟨_, _, rfl, _⟩ | ⟨_, rfl, _⟩ <;> rfl; done) | (rcases h with ⟨_, _, rfl, _⟩ | ⟨_, _, rfl, _⟩ <;> rfl; done) | (rcases h with ⟨_, _, rfl, _⟩ | ⟨_, _, _, rfl, _⟩ <;> rfl; done) | (rcases h with ⟨_, _, rfl, _⟩ | ⟨_, _, _, _, rfl, _⟩ <;> rfl; done) | (rcases h with ⟨_, _, rfl, _⟩ | ⟨_, _, _, _, _, rfl, _⟩ <;> rfl; done) | (rcases h with ⟨_, _, rfl, _⟩ | ⟨_, _, _, _, _, _, rfl, _⟩ <;> rfl; done) | (rcases h with ⟨_, _, _, rfl, _⟩ | ⟨_, rfl, _⟩ <;> rfl; done) | (rcases h with ⟨_, _, _, rfl, _⟩ | ⟨_, _, rfl, _⟩ <;> rfl; done) | (rcases h with ⟨_, _, _, rfl, _⟩ | ⟨_, _, _, rfl, _⟩ <;> rfl; done) | (rcases h with ⟨_, _, _, rfl, _⟩ | ⟨_, _, _, _, rfl, _⟩ <;> rfl; done) | (rcases h with ⟨_, _, _, rfl, _⟩ | ⟨_, _, _, _, _, rfl, _⟩ <;> rfl; done) | (rcases h with ⟨_, _, _, rfl, _⟩ | ⟨_, _, _, _, _, _, rfl, _⟩ <;> rfl; done) | (rcases h with ⟨_, _, _, _, rfl, _⟩ | ⟨_, rfl, _⟩ <;> rfl; done) | (rcases h with ⟨_, _, _, _, rfl, _⟩ | ⟨_, _, rfl, _⟩ <;> rfl; done) | (rcases h with ⟨_, _, _, _, rfl, _⟩ | ⟨_, _, _, rfl, _⟩ <;> rfl; done) | (rcases h with ⟨_, _, _, _, rfl, _⟩ | ⟨_, _, _, _, rfl, _⟩ <;> rfl; done) | (rcases h with ⟨_, _, _, _, rfl, _⟩ | ⟨_, _, _, _, _, rfl, _⟩ <;> rfl; done) | (rcases h with ⟨_, _, _, _, rfl, _⟩ | ⟨_, _, _, _, _, _, rfl, _⟩ <;> rfl; done) | (rcases h with ⟨_, _, _, _, _, rfl, _⟩ | ⟨_, rfl, _⟩ <;> rfl; done) | (rcases h with ⟨_, _, _, _, _, rfl, _⟩ | ⟨_, _, rfl, _⟩ <;> rfl; done) | (rcases h with ⟨_, _, _, _, _, rfl, _⟩ | ⟨_, _, _, rfl, _⟩ <;> rfl; done) | (rcases h with ⟨_, _, _, _, _, rfl, _⟩ | ⟨_, _, _, _, rfl, _⟩ <;> rfl; done) | (rcases h with ⟨_, _, _, _, _, rfl, _⟩ | ⟨_, _, _, _, _, rfl, _⟩ <;> rfl; done) | (rcases h with ⟨_, _, _, _, _, rfl, _⟩ | ⟨_, _, _, _, _, _, rfl, _⟩ <;> rfl; done) | (rcases h with ⟨_, _, _, _, _, _, rfl, _⟩ | ⟨_, rfl, _⟩ <;> rfl; done) | (rcases h with ⟨_, _, _, _, _, _, rfl, _⟩ | ⟨_, _, rfl, _⟩ <;> rfl; done) | (rcases h with ⟨_, _, _, _, _, _, rfl, _⟩ | ⟨_, _, _, rfl, _⟩ <;> rfl; done) | (rcases h with ⟨_, _, _, _, _, _, rfl, _⟩ | ⟨_, _, _, _, rfl, _⟩ <;> rfl; done) | (rcases h with ⟨_, _, _, _, _, _, rfl, _⟩ | ⟨_, _, _, _, _, rfl, _⟩ <;> rfl; done) | (rcases h with ⟨_, _, _, _, _, _, rfl, _⟩ | ⟨_, _, _, _, _, _, rfl, _⟩ <;> rfl; done) | (rcases h with ⟨_, rfl, _⟩ | ⟨_, _, rfl, _⟩ <;> rfl) | (rcases h with ⟨_, rfl, _⟩ | ⟨_, rfl, _⟩ <;> rfl) | (rcases h with h | h | h <;> (first | (obtain ⟨rfl, _⟩ := h; rfl; done) | (obtain ⟨_, rfl, _⟩ := h; rfl; done) | (obtain ⟨_, _, rfl, _⟩ := h; rfl; done) | (obtain ⟨_, _, _, rfl, _⟩ := h; rfl; done) | (obtain ⟨_, _, _, _, rfl, _⟩ := h; rfl; done) | (obtain ⟨_, _, _, _, _, rfl, _⟩ := h; rfl; done) | (obtain ⟨_, _, _, _, _, _, rfl, _⟩ := h; rfl; done) | (obtain ⟨_, _, _, _, _, _, _, rfl, _⟩ := h; rfl; done) | (obtain ⟨_, _, _, _, _, _, _, _, rfl, _⟩ := h; rfl; done) | (obtain ⟨_, _, _, _, _, _, _, _, _, rfl, _⟩ := h; rfl; done) | (obtain ⟨_, _, _, _, _, _, _, _, _, _, rfl, _⟩ := h; rfl; done) | (obtain ⟨_, _, _, _, _, _, _, _, _, _, _, rfl, _⟩ := h; rfl; done) | (obtain ⟨_, _, _, _, _, _, _, _, _, _, _, _, rfl, _⟩ := h; rfl; done) | (obtain ⟨_, _, _, _, _, _, _, _, _, _, _, _, _, rfl, _⟩ := h; rfl; done) | (obtain ⟨_, _, _, _, _, _, _, _, _, _, _, _, _, _, rfl, _⟩ := h; rfl; done)))) (fun cdv A outer s H vs Q E hr h => ⟨t_went K a, ?_, rd vs H Q E h⟩)
  exact (pss_cons (ps_asg (pv 0) (pg_tup rfl (pgs_cons (pg_name (i := 1) nd rfl (by first | exact Or.inl rfl | exact Or.inr rfl)) (pgs_cons (pg_name (i := 2) nd rfl (by first | exact Or.inl rfl | exact Or.inr rfl)) (pgs_cons (pg_name (i := 3) nd rfl (by first | exact Or.inl rfl | exact Or.inr rfl)) pgs_nil)))))
      (pss_cons (ps_if (PW.pt (pw_or (pt_val (pv 2)) (pw_or1 (pt_cmpR op_eq (pe_callB call_len_seq (by rfl) T.n_len (by decide +kernel) (pa_cons (pv 3) pa_nil)) pe_int (nomark _))))) (pss_one (ps_ret (pv 0))) pss_nil)
      (pss_one (ps_ret (pe_tup (pa_cons (pe_op op_sub pe_int (pv 1)) (pa_cons pe_bl (pa_cons (pe_slice sl_tupA (pv 3) (po_some pe_int) po_none) pa_nil))))))))
theorem ok__law_bag (T : Txt K mg a)
    (rd : RD (sp__law_bag K a) (t__law_bag K a) N__law_bag) :
    FnOk P a.w K mg base CX0 1 a.f__law_bag a.d__law_bag P__law_bag (sp__law_bag K a) := by
  have nd := sc__law_bag.nd
  refine T.F__law_bag.ok sc__law_bag (fun vs H Q E h => by first | (obtain ⟨rfl, _⟩ := h; rfl; done) | (obtain ⟨_, rfl, _⟩ := h; rfl; done) | (obtain ⟨_, _, rfl, _⟩ := h; rfl; done) | (obtain ⟨_, _, _, rfl, _⟩ := h; rfl; done) | (obtain ⟨_, _, _, _, rfl, _⟩ := h; rfl; done) | (obtain ⟨_, _, _, _, _, rfl, _⟩ := h; rfl; done) | (obtain ⟨_, _, _, _, _, _, rfl, _⟩ := h; rfl; done) | (obtain ⟨_, _, _, _, _, _, _, rfl, _⟩ := h; rfl; done) | (obtain ⟨_, _, _, _, _, _, _, _, rfl, _⟩ := h; rfl; done) | (obtain ⟨_, _, _, _, _, _, _, _, _, rfl, _⟩ := h; rfl; done) | (obtain ⟨_, _, _, _, _, _, _, _, _, _, rfl, _⟩ := h; rfl; done) | (obtain ⟨_, _, _, _, _, _, _, _, _, _, _, rfl, _⟩ := h; rfl; done) | (obtain ⟨_, _, _, _, _, _, _, _, _, _, _, _, rfl, _⟩ := h; rfl; done) | (obtain ⟨_, _, _, _, _, _, _, _, _, _, _, _, _, rfl, _⟩ := h; rfl; done) | (obtain ⟨_, _, _, _, _, _, _, _, _, _, _, _, _, _, rfl, _⟩ := h; rfl; done) | (rcases h with ⟨_, rfl, _⟩ | ⟨_, rfl, _⟩ <;> rfl; done) | (rcases h with ⟨_, rfl, _⟩ | ⟨_, _, rfl, _⟩ <;> rfl; done) | (rcases h with ⟨_, rfl, _⟩ | ⟨_, _, _, rfl, _⟩ <;> rfl; done) | (rcases h with ⟨_, rfl, _⟩ | ⟨_, _, _, _, rfl, _⟩ <;> rfl; done) | (rcases h with ⟨_, rfl, _⟩ | ⟨_, _, _, _, _, rfl, _⟩ <;> rfl; done) | (rcases h with ⟨_, rfl, _⟩ | ⟨_, _, _, _, _, _, rfl, _⟩ <;> rfl; done) | (rcases h with ⟨_, _, rfl, _⟩ | ⟨_, rfl, _⟩ <;> rfl; done) | (rcases h with ⟨_, _, rfl, _⟩ | ⟨_, _, rfl, _⟩ <;> rfl; done) | (rcases h with ⟨_, _, rfl, _⟩ | ⟨_, _, _, rfl, _⟩ <;> rfl; done) | (rcases h with ⟨_, _, rfl, _⟩ | ⟨_, _, _, _, rfl, _⟩ <;> rfl; done) | (rcases h with ⟨_, _, rfl, _⟩ | ⟨_, _, _, _, _, rfl, _⟩ <;> rfl; done) | (rcases h with ⟨_, _, rfl, _⟩ | ⟨_, _, _, _, _, _, rfl, _⟩ <;> rfl; done) | (rcases h with ⟨_, _, _, rfl, _⟩ | ⟨_, rfl, _⟩ <;> rfl; done) | (rcases h with ⟨_, _, _, rfl, _⟩ | ⟨_, _, rfl, _⟩ <;> rfl; done) | (rcases h with ⟨_, _, _, rfl, _⟩ | ⟨_, _, _, rfl, _⟩ <;> rfl; done) | (rcases h with ⟨_, _, _, rfl, _⟩ | ⟨_, _, _, _, rfl, _⟩ <;> rfl; done) | (rcases h with ⟨_, _, _, rfl, _⟩ | ⟨_, _, _, _, _, rfl, _⟩ <;> rfl; done) | (rcases h with ⟨_, _, _, rfl, _⟩ | ⟨_, _, _, _, _, _, rfl, _⟩ <;> rfl; done) | (rcases h with ⟨_, _, _, _, rfl, _⟩ | ⟨_, rfl, _⟩ <;> rfl; done) | (rcases h with ⟨_, _, _, _, rfl, _⟩ | ⟨_, _, rfl, _⟩ <;> rfl; done) | (rcases h with ⟨_, _, _, _, rfl, _⟩ | ⟨_, _, _, rfl, _⟩ <;> rfl; done) | (rcases h with ⟨_, _, _, _, rfl, _⟩ | ⟨_, _, _, _, rfl, _⟩ <;> rfl; done) | (rcases h with ⟨_, _, _, _, rfl, _⟩ | ⟨_, _, _, _, _, rfl, _⟩ <;> rfl; done) | (rcases h with ⟨_, _, _, _, rfl, _⟩ | ⟨_, _, _, _, _, _, rfl, _⟩ <;> rfl; done) | (rcases h with ⟨_, _, _, _, _, rfl, _⟩ | ⟨_, rfl, _⟩ <;> rfl; done) | (rcases h with ⟨_, _, _, _, _, rfl, _⟩ | ⟨_, _, rfl, _⟩ <;> rfl; done) | (rcases h with ⟨_, _, _, _, _, rfl, _⟩ | ⟨_, _, _, rfl, _⟩ <;> rfl; done) | (rcases h with ⟨_, _, _, _, _, rfl, _⟩ | ⟨_, _, _, _, rfl, _⟩ <;> rfl; done) | (rcases h with ⟨_, _, _, _, _, rfl, _⟩ | ⟨_, _, _, _, _, rfl, _⟩ <;> rfl; done) | (rcases h with ⟨_, _, _, _, _, rfl, _⟩ | ⟨_, _, _, _, _, _, rfl, _⟩ <;> rfl; done) | (rcases h with ⟨_, _, _, _, _, _, rfl, _⟩ | ⟨_, rfl, _⟩ <;> rfl; done) | (rcases h with ⟨_, _, _, _, _, _, rfl, _⟩ | ⟨_, _, rfl, _⟩ <;> rfl; done) | (rcases h with ⟨_, _, _, _, _, _, rfl, _⟩ | ⟨_, _, _, rfl, _⟩ <;> rfl; done) | (rcases h with ⟨_, _, _, _, _, _, rfl, _⟩ | ⟨_, _, _, _, rfl, _⟩ <;> rfl; done) | (rcases h with ⟨_, _, _, _, _, _, rfl, _⟩ | ⟨_, _, _, _, _, rfl, _⟩ <;> rfl; done) | (rcases h with ⟨_, _, _, _, _, _, rfl, _⟩ | ⟨_, _, _, _, _, _, rfl, _⟩ <;> rfl; done) | (rcases h with ⟨_, rfl, _⟩ | ⟨_, _, rfl, _⟩ <;> rfl) | (rcases h with ⟨_, rfl, _⟩ | ⟨_, rfl, _⟩ <;> rfl) | (rcases h with h | h | h <;> (first | (obtain ⟨rfl, _⟩ := h; rfl; done) | (obtain ⟨_, rfl, _⟩ := h; rfl; done) | (obtain ⟨_, _, rfl, _⟩ := h; rfl; done) | (obtain ⟨_, _, _, rfl, _⟩ := h; rfl; done) | (obtain ⟨_, _, _, _, rfl, _⟩ := h; rfl; done) | (obtain ⟨_, _, _, _, _, rfl, _⟩ := h; rfl; done) | (obtain ⟨_, _, _, _, _, _, rfl, _⟩ := h; rfl; done) | (obtain ⟨_, _, _, _, _, _, _, rfl, _⟩ := h; rfl; done) | (obtain ⟨_, _, _, _, _, _, _, _, rfl, _⟩ := h; rfl; done) | (obtain ⟨_, _, _, _, _, _, _, _, _, rfl, _⟩ := h; rfl; done) | (obtain ⟨_, _, _, _, _, _, _, _, _, _, rfl, _⟩ := h; rfl; done) | (obtain ⟨_, _, _, _, _, _, _, _, _, _, _, rfl, _⟩ := h; rfl; done) | (obtain ⟨_, _, _, _, _, _, _, _, _, _, _, _, rfl, _⟩ := h; rfl; done) | (obtain ⟨_, _, _, _, _, _, _, _, _, _, _, _, _, rfl, _⟩ := h; rfl; done) | (obtain ⟨_, _, _, _, _, _, _, _, _, _, _, _, _, _, rfl, _⟩ := h; rfl; done)))) (fun cdv A outer s H vs Q E hr h => ⟨t__law_bag K a, ?_, rd vs H Q E h⟩)
  exact (pss_cons (ps_set (i := 1) nd rfl (by first | exact Or.inl rfl | exact Or.inr rfl) (pe_callTy call_list_of (by rfl) T.n_list (by decide +kernel) (pa_cons (pe_slice sl_list (pv 0) po_none (po_some pe_int)) pa_nil)))
      (pss_cons (ps_set (i := 2) nd rfl (by first | exact Or.inl rfl | exact Or.inr rfl) (pe_op op_add pe_int (pe_callB call_len_seq (by rfl) T.n_len (by decide +kernel) (pa_cons (pv 1) pa_nil))))
      (pss_cons (ps_for PassesOwn.never rfl (pi_list (pv 1)) (pg_name (i := 3) nd rfl (by first | exact Or.inl rfl | exact Or.inr rfl)) (pss_one (ps_set (i := 2) nd rfl (by first | exact Or.inl rfl | exact Or.inr rfl) (pe_op op_mod (pe_op op_add (pe_op op_mul (pv 2) pe_int) (pv 3)) pe_int))))
      (pss_one (ps_ret (pe_lst (pa_cons (pv 1) (pa_cons pe_int (pa_cons pe_int (pa_cons (pv 2) pa_nil))))))))))
theorem ok__law_pull (T : Txt K mg a)
    (rd : RD (sp__law_pull K a) (t__law_pull K a) N__law_pull) :
    FnOk P a.w K mg base CX0 1 a.f__law_pull a.d__law_pull P__law_pull (sp__law_pull K a) := by
  have nd := sc__law_pull.nd
  refine T.F__law_pull.ok sc__law_pull (fun vs H Q E h => by first | (obtain ⟨rfl, _⟩ := h; rfl; done) | (obtain ⟨_, rfl, _⟩ := h; rfl; done) | (obtain ⟨_, _, rfl, _⟩ := h; rfl; done) | (obtain ⟨_, _, _, rfl, _⟩ := h; rfl; done) | (obtain ⟨_, _, _, _, rfl, _⟩ := h; rfl; done) | (obtain ⟨_, _, _, _, _, rfl, _⟩ := h; rfl; done) | (obtain ⟨_, _, _, _, _, _, rfl, _⟩ := h; rfl; done) | (obtain ⟨_, _, _, _, _, _, _, rfl, _⟩ := h; rfl; done) | (obtain ⟨_, _, _, _, _, _, _, _, rfl, _⟩ := h; rfl; done) | (obtain ⟨_, _, _, _, _, _, _, _, _, rfl, _⟩ := h; rfl; done) | (obtain ⟨_, _, _, _, _, _, _, _, _, _, rfl, _⟩ := h; rfl; done) | (obtain ⟨_, _, _, _, _, _, _, _, _, _, _, rfl, _⟩ := h; rfl; done) | (obtain ⟨_, _, _, _, _, _, _, _, _, _, _, _, rfl, _⟩ := h; rfl; done) | (obtain ⟨_, _, _, _, _, _, _, _, _, _, _, _, _, rfl, _⟩ := h; rfl; done) | (obtain ⟨_, _, _, _, _, _, _, _, _, _, _, _, _, _, rfl, _⟩ := h; rfl; done) | (rcases h with ⟨_, rfl, _⟩ | ⟨_, rfl, _⟩ <;> rfl; done) | (rcases h with ⟨_, rfl, _⟩ | ⟨_, _, rfl, _⟩ <;> rfl; done) | (rcases h with ⟨_, rfl, _⟩ | ⟨_, _, _, rfl, _⟩ <;> rfl; done) | (rcases h with ⟨_, rfl, _⟩ | ⟨_, _, _, _, rfl, _⟩ <;> rfl; done) | (rcases h with ⟨_, rfl, _⟩ | ⟨_, _, _, _, _, rfl, _⟩ <;> rfl; done) | (rcases h with ⟨_, rfl, _⟩ | ⟨_, _, _, _, _, _, rfl, _⟩ <;> rfl; done) | (rcases h with ⟨_, _, rfl, _⟩ | ⟨_, rfl, _⟩ <;> rfl; done) | (rcases h with ⟨_, _, rfl, _⟩ | ⟨_, _, rfl, _⟩ <;> rfl; done) | (rcases h with ⟨_, _, rfl, _⟩ | ⟨_, _, _, rfl, _⟩ <;> rfl; done) | (rcases h with ⟨_, _, rfl, _⟩ | ⟨_, _, _, _, rfl, _⟩ <;> rfl; done) | (rcases h with ⟨_, _, rfl, _⟩ | ⟨_, _, _, _, _, rfl, _⟩ <;> rfl; done) | (rcases h with ⟨_, _, rfl, _⟩ | ⟨_, _, _, _, _, _, rfl, _⟩ <;> rfl; done) | (rcases h with ⟨_, _, _, rfl, _⟩ | ⟨_, rfl, _⟩ <;> rfl; done) | (rcases h with ⟨_, _, _, rfl, _⟩ | ⟨_, _, rfl, _⟩ <;> rfl; done) | (rcases h with ⟨_, _, _, rfl, _⟩ | ⟨_, _, _, rfl, _⟩ <;> rfl; done) | (rcases h with ⟨_, _, _, rfl, _⟩ | ⟨_, _, _, _, rfl, _⟩ <;> rfl; done) | (rcases h with ⟨_, _, _, rfl, _⟩ | ⟨_, _, _, _, _, rfl, _⟩ <;> rfl; done) | (rcases h with ⟨_, _, _, rfl, _⟩ | ⟨_, _, _, _, _, _, rfl, _⟩ <;> rfl; done) | (rcases h with ⟨_, _, _, _, rfl, _⟩ | ⟨_, rfl, _⟩ <;> rfl; done) | (rcases h with ⟨_, _, _, _, rfl, _⟩ | ⟨_, _, rfl, _⟩ <;> rfl; done) | (rcases h with ⟨_, _, _, _, rfl, _⟩ | ⟨_, _, _, rfl, _⟩ <;> rfl; done) | (rcases h with ⟨_, _, _, _, rfl, _⟩ | ⟨_, _, _, _, rfl, _⟩ <;> rfl; done) | (rcases h with ⟨_, _, _, _, rfl, _⟩ | ⟨_, _, _, _, _, rfl, _⟩ <;> rfl; done) | (rcases h with ⟨_, _, _, _, rfl, _⟩ | ⟨_, _, _, _, _, _, rfl, _⟩ <;> rfl; done) | (rcases h with ⟨_, _, _, _, _, rfl, _⟩ | ⟨_, rfl, _⟩ <;> rfl; done) | (rcases h with ⟨_, _, _, _, _, rfl, _⟩ | ⟨_, _, rfl, _⟩ <;> rfl; done) | (rcases h with ⟨_, _, _, _, _, rfl, _⟩ | ⟨_, _, _, rfl, _⟩ <;> rfl; done) | (rcases h with ⟨_, _, _, _, _, rfl, _⟩ | ⟨_, _, _, _, rfl, _⟩ <;> rfl; done) | (rcases h with ⟨_, _, _, _, _, rfl, _⟩ | ⟨_, _, _, _, _, rfl, _⟩ <;> rfl; done) | (rcases h with ⟨_, _, _, _, _, rfl, _⟩ | ⟨_, _, _, _, _, _, rfl, _⟩ <;> rfl; done) | (rcases h with ⟨_, _, _, _, _, _, rfl, _⟩ | ⟨_, rfl, _⟩ <;> rfl; done) | (rcases h with ⟨_, _, _, _, _, _, rfl, _⟩ | ⟨_, _, rfl, _⟩ <;> rfl; done) | (rcases h with ⟨_, _, _, _, _, _, rfl, _⟩ | ⟨_, _, _, rfl, _⟩ <;> rfl; done) | (rcases h with ⟨_, _, _, _, _, _, rfl, _⟩ | ⟨_, _, _, _, rfl, _⟩ <;> rfl; done) | (rcases h with ⟨_, _, _, _, _, _, rfl, _⟩ | ⟨_, _, _, _, _, rfl, _⟩ <;> rfl; done) | (rcases h with ⟨_, _, _, _, _, _, rfl, _⟩ | ⟨_, _, _, _, _, _, rfl, _⟩ <;> rfl; done) | (rcases h with ⟨_, rfl, _⟩ | ⟨_, _, rfl, _⟩ <;> rfl) | (rcases h with ⟨_, rfl, _⟩ | ⟨_, rfl, _⟩ <;> rfl) | (rcases h with h | h | h <;> (first | (obtain ⟨rfl, _⟩ := h; rfl; done) | (obtain ⟨_, rfl, _⟩ := h; rfl; done) | (obtain ⟨_, _, rfl, _⟩ := h; rfl; done) | (obtain ⟨_, _, _, rfl, _⟩ := h; rfl; done) | (obtain ⟨_, _, _, _, rfl, _⟩ := h; rfl; done) | (obtain ⟨_, _, _, _, _, rfl, _⟩ := h; rfl; done) | (obtain ⟨_, _, _, _, _, _, rfl, _⟩ := h; rfl; done) | (obtain ⟨_, _, _, _, _, _, _, rfl, _⟩ := h; rfl; done) | (obtain ⟨_, _, _, _, _, _, _, _, rfl, _⟩ := h; rfl; done) | (obtain ⟨_, _, _, _, _, _, _, _, _, rfl, _⟩ := h; rfl; done) | (obtain ⟨_, _, _, _, _, _, _, _, _, _, rfl, _⟩ := h; rfl; done) | (obtain ⟨_, _, _, _, _, _, _, _, _, _, _, rfl, _⟩ := h; rfl; done) | (obtain ⟨_, _, _, _, _, _, _, _, _, _, _, _, rfl, _⟩ := h; rfl; done) | (obtain ⟨_, _, _, _, _, _, _, _, _, _, _, _, _, rfl, _⟩ := h; rfl; done) | (obtain ⟨_, _, _, _, _, _, _, _, _, _, _, _, _, _, rfl, _⟩ := h; rfl; done)))) (fun cdv A outer s H vs Q E hr h => ⟨t__law_pull K a, ?_, rd vs H Q E h⟩)
  exact (pss_cons (ps_if (pt_cmpR op_lt (pe_ix ix_list (pv 0) pe_int (fun _ _ => rfl)) pe_int (nomark _)) (pss_cons (ps_asg (pe_op op_add (pe_ix ix_list (pv 0) pe_int (fun _ _ => rfl)) pe_int) (pg_sub (pv 0) pe_int set_list))
      (pss_cons (ps_set (i := 2) nd rfl (by first | exact Or.inl rfl | exact Or.inr rfl) (pe_op op_add (pe_ix ix_list (pv 0) pe_int (fun _ _ => rfl)) (pe_op op_mul (pe_ix ix_list (pv 0) pe_int (fun _ _ => rfl)) pe_int)))
      (pss_cons (ps_if (pt_cmpR op_le (pe_ix ix_list (pv 0) pe_int (fun _ _ => rfl)) (pe_callB call_len_seq (by rfl) T.n_len (by decide +kernel) (pa_cons (pe_ix ix_list (pv 0) pe_int (fun _ _ => rfl)) pa_nil)) (nomark _)) (pss_one (ps_set (i := 2) nd rfl (by first | exact Or.inl rfl | exact Or.inr rfl) (pe_ix ix_list (pe_ix ix_list (pv 0) pe_int (fun _ _ => rfl)) (pe_op op_sub (pe_ix ix_list (pv 0) pe_int (fun _ _ => rfl)) pe_int) (fun _ _ => rfl)))) pss_nil)
      (pss_cons (ps_if (PW.pt (pw_or (pt_cmpR op_gt (pe_ix ix_list (pv 0) pe_int (fun _ _ => rfl)) (pe_callB call_len_seq (by rfl) T.n_len (by decide +kernel) (pa_cons (pe_ix ix_list (pv 0) pe_int (fun _ _ => rfl)) pa_nil)) (nomark _)) (pw_or1 (pt_cmpR op_lt (pv 2) (pe_op op_pow pe_int pe_int) (nomark _))))) (pss_cons (ps_set (i := 3) nd rfl (by first | exact Or.inl rfl | exact Or.inr rfl) (pe_op op_mod (pe_op op_add (pe_op op_add (pe_op op_mul (pv 2) pe_int) (pe_op op_mul (pe_ix ix_list (pv 0) pe_int (fun _ _ => rfl)) pe_int)) (pe_ix ix_list (pv 0) pe_int (fun _ _ => rfl))) pe_int))
      (pss_cons (ps_set (i := 4) nd rfl (by first | exact Or.inl rfl | exact Or.inr rfl) (pe_op op_mod (pe_op op_add (pe_op op_mul (pv 3) (pv 3)) (pe_ix ix_list (pv 0) pe_int (fun _ _ => rfl))) pe_int))
      (pss_one (ps_ret (pe_op op_mod (pe_op op_fdivW (pe_op op_mod (pe_op op_add (pe_op op_mul (pv 4) pe_int) (pv 3)) pe_int) pe_int) (pv 1)))))) pss_nil)
      (pss_one (ps_asg (pv 2) (pg_sub (pv 0) pe_int set_list))))))) pss_nil)
      (pss_cons (ps_set (i := 5) nd rfl (by first | exact Or.inl rfl | exact Or.inr rfl) (pe_op op_mod (pe_ix ix_list (pv 0) pe_int (fun _ _ => rfl)) (pv 1)))
      (pss_cons (ps_asg (pe_op op_fdivW (pe_ix ix_list (pv 0) pe_int (fun _ _ => rfl)) (pv 1)) (pg_sub (pv 0) pe_int set_list))
      (pss_one (ps_ret (pv 5))))))
theorem ok__law_bytes (T : Txt K mg a)
    (G__law_pull : FnOk P a.w K mg base CX0 1 a.f__law_pull a.d__law_pull P__law_pull (sp__law_pull K a))
    (rd : RD (sp__law_bytes K a) (t__law_bytes K a) N__law_bytes) :
    FnOk P a.w K mg base CX0 2 a.f__law_bytes a.d__law_bytes P__law_bytes (sp__law_bytes K a) := by
  have nd := sc__law_bytes.nd
  refine T.F__law_bytes.ok sc__law_bytes (fun vs H Q E h => by first | (obtain ⟨rfl, _⟩ := h; rfl; done) | (obtain ⟨_, rfl, _⟩ := h; rfl; done) | (obtain ⟨_, _, rfl, _⟩ := h; rfl; done) | (obtain ⟨_, _, _, rfl, _⟩ := h; rfl; done) | (obtain ⟨_, _, _, _, rfl, _⟩ := h; rfl; done) | (obtain ⟨_, _, _, _, _, rfl, _⟩ := h; rfl; done) | (obtain ⟨_, _, _, _, _, _, rfl, _⟩ := h; rfl; done) | (obtain ⟨_, _, _, _, _, _, _, rfl, _⟩ := h; rfl; done) | (obtain ⟨_, _, _, _, _, _, _, _, rfl, _⟩ := h; rfl; done) | (obtain ⟨_, _, _, _, _, _, _, _, _, rfl, _⟩ := h; rfl; done) | (obtain ⟨_, _, _, _, _, _, _, _, _, _, rfl, _⟩ := h; rfl; done) | (obtain ⟨_, _, _, _, _, _, _, _, _, _, _, rfl, _⟩ := h; rfl; done) | (obtain ⟨_, _, _, _, _, _, _, _, _, _, _, _, rfl, _⟩ := h; rfl; done) | (obtain ⟨_, _, _, _, _, _, _, _, _, _, _, _, _, rfl, _⟩ := h; rfl; done) | (obtain ⟨_, _, _, _, _, _, _, _, _, _, _, _, _, _, rfl, _⟩ := h; rfl; done) | (rcases h with ⟨_, rfl, _⟩ | ⟨_, rfl, _⟩ <;> rfl; done) | (rcases h with ⟨_, rfl, _⟩ | ⟨_, _, rfl, _⟩ <;> rfl; done) | (rcases h with ⟨_, rfl, _⟩ | ⟨_, _, _, rfl, _⟩ <;> rfl; done) | (rcases h with ⟨_, rfl, _⟩ | ⟨_, _, _, _, rfl, _⟩ <;> rfl; done) | (rcases h with ⟨_, rfl, _⟩ | ⟨_, _, _, _, _, rfl, _⟩ <;> rfl; done) | (rcases h with ⟨_, rfl, _⟩ | ⟨_, _, _, _, _, _, rfl, _⟩ <;> rfl; done) | (rcases h with ⟨_, _, rfl, _⟩ | ⟨_, rfl, _⟩ <;> rfl; done) | (rcases h with ⟨_, _, rfl, _⟩ | ⟨_, _, rfl, _⟩ <;> rfl; done) | (rcases h with ⟨_, _, rfl, _⟩ | ⟨_, _, _, rfl, _⟩ <;> rfl; done) | (rcases h with ⟨_, _, rfl, _⟩ | ⟨_, _, _, _, rfl, _⟩ <;> rfl; done) | (rcases h with ⟨_, _, rfl, _⟩ | ⟨_, _, _, _, _, rfl, _⟩ <;> rfl; done) | (rcases h with ⟨_, _, rfl, _⟩ | ⟨_, _, _, _, _, _, rfl, _⟩ <;> rfl; done) | (rcases h with ⟨_, _, _, rfl, _⟩ | ⟨_, rfl, _⟩ <;> rfl; done) | (rcases h with ⟨_, _, _, rfl, _⟩ | ⟨_, _, rfl, _⟩ <;> rfl; done) | (rcases h with ⟨_, _, _, rfl, _⟩ | ⟨_, _, _, rfl, _⟩ <;> rfl; done) | (rcases h with ⟨_, _, _, rfl, _⟩ | ⟨_, _, _, _, rfl, _⟩ <;> rfl; done) | (rcases h with ⟨_, _, _, rfl, _⟩ | ⟨_, _, _, _, _, rfl, _⟩ <;> rfl; done) | (rcases h with ⟨_, _, _, rfl, _⟩ | ⟨_, _, _, _, _, _, rfl, _⟩ <;> rfl; done) | (rcases h with ⟨_, _, _, _, rfl, _⟩ | ⟨_, rfl, _⟩ <;> rfl; done) | (rcases h with ⟨_, _, _, _, rfl, _⟩ | ⟨_, _, rfl, _⟩ <;> rfl; done) | (rcases h with ⟨_, _, _, _, rfl, _⟩ | ⟨_, _, _, rfl, _⟩ <;> rfl; done) | (rcases h with ⟨_, _, _, _, rfl, _⟩ | ⟨_, _, _, _, rfl, _⟩ <;> rfl; done) | (rcases h with ⟨_, _, _, _, rfl, _⟩ | ⟨_, _, _, _, _, rfl, _⟩ <;> rfl; done) | (rcases h with ⟨_, _, _, _, rfl, _⟩ | ⟨_, _, _, _, _, _, rfl, _⟩ <;> rfl; done) | (rcases h with ⟨_, _, _, _, _, rfl, _⟩ | ⟨_, rfl, _⟩ <;> rfl; done) | (rcases h with ⟨_, _, _, _, _, rfl, _⟩ | ⟨_, _, rfl, _⟩ <;> rfl; done) | (rcases h with ⟨_, _, _, _, _, rfl, _⟩ | ⟨_, _, _, rfl, _⟩ <;> rfl; done) | (rcases h with ⟨_, _, _, _, _, rfl, _⟩ | ⟨_, _, _, _, rfl, _⟩ <;> rfl; done) | (rcases h with ⟨_, _, _, _, _, rfl, _⟩ | ⟨_, _, _, _, _, rfl, _⟩ <;> rfl; done) | (rcases h with ⟨_, _, _, _, _, rfl, _⟩ | ⟨_, _, _, _, _, _, rfl, _⟩ <;> rfl; done) | (rcases h with ⟨_, _, _, _, _, _, rfl, _⟩ | ⟨_, rfl, _⟩ <;> rfl; done) | (rcases h with ⟨_, _, _, _, _, _, rfl, _⟩ | ⟨_, _, rfl, _⟩ <;> rfl; done) | (rcases h with ⟨_, _, _, _, _, _, rfl, _⟩ | ⟨_, _, _, rfl, _⟩ <;> rfl; done) | (rcases h with ⟨_, _, _, _, _, _, rfl, _⟩ | ⟨_, _, _, _, rfl, _⟩ <;> rfl; done) | (rcases h with ⟨_, _, _, _, _, _, rfl, _⟩ | ⟨_, _, _, _, _, rfl, _⟩ <;> rfl; done) | (rcases h with ⟨_, _, _, _, _, _, rfl, _⟩ | ⟨_, _, _, _, _, _, rfl, _⟩ <;> rfl; done) | (rcases h with ⟨_, rfl, _⟩ | ⟨_, _, rfl, _⟩ <;> rfl) | (rcases h with ⟨_, rfl, _⟩ | ⟨_, rfl, _⟩ <;> rfl) | (rcases h with h | h | h <;> (first | (obtain ⟨rfl, _⟩ := h; rfl; done) | (obtain ⟨_, rfl, _⟩ := h; rfl; done) | (obtain ⟨_, _, rfl, _⟩ := h; rfl; done) | (obtain ⟨_, _, _, rfl, _⟩ := h; rfl; done) | (obtain ⟨_, _, _, _, rfl, _⟩ := h; rfl; done) | (obtain ⟨_, _, _, _, _, rfl, _⟩ := h; rfl; done) | (obtain ⟨_, _, _, _, _, _, rfl, _⟩ := h; rfl; done) | (obtain ⟨_, _, _, _, _, _, _, rfl, _⟩ := h; rfl; done) | (obtain ⟨_, _, _, _, _, _, _, _, rfl, _⟩ := h; rfl; done) | (obtain ⟨_, _, _, _, _, _, _, _, _, rfl, _⟩ := h; rfl; done) | (obtain ⟨_, _, _, _, _, _, _, _, _, _, rfl, _⟩ := h; rfl; done) | (obtain ⟨_, _, _, _, _, _, _, _, _, _, _, rfl, _⟩ := h; rfl; done) | (obtain ⟨_, _, _, _, _, _, _, _, _, _, _, _, rfl, _⟩ := h; rfl; done) | (obtain ⟨_, _, _, _, _, _, _, _, _, _, _, _, _, rfl, _⟩ := h; rfl; done) | (obtain ⟨_, _, _, _, _, _, _, _, _, _, _, _, _, _, rfl, _⟩ := h; rfl; done)))) (fun cdv A outer s H vs Q E hr h => ⟨t__law_bytes K a, ?_, rd vs H Q E h⟩)
  exact (pss_cons (ps_set (i := 2) nd rfl (by first | exact Or.inl rfl | exact Or.inr rfl) (pe_call G__law_pull (hr.mono (by decide)) rfl T.g__law_pull T.F__law_pull.kp T.b__law_pull .nil pass0 (pa_cons (pv 0) (pa_cons (pe_op op_add (pv 1) pe_int) pa_nil))))
      (pss_cons (ps_if (pt_cmpR op_eq (pe_call G__law_pull (hr.mono (by decide)) rfl T.g__law_pull T.F__law_pull.kp T.b__law_pull .nil pass0 (pa_cons (pv 0) (pa_cons pe_int pa_nil))) pe_int (nomark _)) (pss_one (ps_ret (pe_op op_repT2 (pe_tup (pa_cons (pe_call G__law_pull (hr.mono (by decide)) rfl T.g__law_pull T.F__law_pull.kp T.b__law_pull .nil pass0 (pa_cons (pv 0) (pa_cons pe_int pa_nil))) pa_nil)) (pv 2)))) pss_nil)
      (pss_one (ps_ret (pe_callTy call_tuple_of (by rfl) T.n_tuple (by decide +kernel) (pa_cons (pe_lc (own := [("_law_k", 3)]) (g := (gName 3)) (tt := tYes) (te := (tCall (sp__law_pull K a) [] E0 (tCons (tVar 0) (tCons (tC (.int 256)) tNil)))) rfl nd (pi_range1 rfl T.n_range (pa_cons (pv 2) pa_nil)) (blkOk_by (N := N__law_bytes) (sc := defScope s__law_bytes) (by decide +kernel)) (fun _ _ _ _ _ => (pg_name (i := 3) nd rfl (by first | exact Or.inl rfl | exact Or.inr rfl))) (fun _ _ _ _ _ => pts_nil) (fun _ _ _ _ _ => (pe_call G__law_pull (hr.mono (by decide)) rfl T.g__law_pull T.F__law_pull.kp T.b__law_pull .nil pass0 (pa_cons (pv 0) (pa_cons pe_int pa_nil))))) pa_nil))))))
theorem ok__law_fates (T : Txt K mg a)
    (G__law_pull : FnOk P a.w K mg base CX0 1 a.f__law_pull a.d__law_pull P__law_pull (sp__law_pull K a))
    (rd : RD (sp__law_fates K a) (t__law_fates K a) N__law_fates) :
    FnOk P a.w K mg base CX0 2 a.f__law_fates a.d__law_fates P__law_fates (sp__law_fates K a) := by
  have nd := sc__law_fates.nd
  refine T.F__law_fates.ok sc__law_fates (fun vs H Q E h => by first | (obtain ⟨rfl, _⟩ := h; rfl; done) | (obtain ⟨_, rfl, _⟩ := h; rfl; done) | (obtain ⟨_, _, rfl, _⟩ := h; rfl; done) | (obtain ⟨_, _, _, rfl, _⟩ := h; rfl; done) | (obtain ⟨_, _, _, _, rfl, _⟩ := h; rfl; done) | (obtain ⟨_, _, _, _, _, rfl, _⟩ := h; rfl; done) | (obtain ⟨_, _, _, _, _, _, rfl, _⟩ := h; rfl; done) | (obtain ⟨_, _, _, _, _, _, _, rfl, _⟩ := h; rfl; done) | (obtain ⟨_, _, _, _, _, _, _, _, rfl, _⟩ := h; rfl; done) | (obtain ⟨_, _, _, _, _, _, _, _, _, rfl, _⟩ := h; rfl; done) | (obtain ⟨_, _, _, _, _, _, _, _, _, _, rfl, _⟩ := h; rfl; done) | (obtain ⟨_, _, _, _, _, _, _, _, _, _, _, rfl, _⟩ := h; rfl; done) | (obtain ⟨_, _, _, _, _, _, _, _, _, _, _, _, rfl, _⟩ := h; rfl; done) | (obtain ⟨_, _, _, _, _, _, _, _, _, _, _, _, _, rfl, _⟩ := h; rfl; done) | (obtain ⟨_, _, _, _, _, _, _, _, _, _, _, _, _, _, rfl, _⟩ := h; rfl; done) | (rcases h with ⟨_, rfl, _⟩ | ⟨_, rfl, _⟩ <;> rfl; done) | (rcases h with ⟨_, rfl, _⟩ | ⟨_, _, rfl, _⟩ <;> rfl; done) | (rcases h with ⟨_, rfl, _⟩ | ⟨_, _, _, rfl, _⟩ <;> rfl; done) | (rcases h with ⟨_, rfl, _⟩ | ⟨_, _, _, _, rfl, _⟩ <;> rfl; done) | (rcases h with ⟨_, rfl, _⟩ | ⟨_, _, _, _, _, rfl, _⟩ <;> rfl; done) | (rcases h with ⟨_, rfl, _⟩ | ⟨_, _, _, _, _, _, rfl, _⟩ <;> rfl; done) | (rcases h with ⟨_, _, rfl, _⟩ | ⟨_, rfl, _⟩ <;> rfl; done) | (rcases h with ⟨_, _, rfl, _⟩ | ⟨_, _, rfl, _⟩ <;> rfl; done) | (rcases h with ⟨_, _, rfl, _⟩ | ⟨_, _, _, rfl, _⟩ <;> rfl; done) | (rcases h with ⟨_, _, rfl, _⟩ | ⟨_, _, _, _, rfl, _⟩ <;> rfl; done) | (rcases h with ⟨_, _, rfl, _⟩ | ⟨_, _, _, _, _, rfl, _⟩ <;> rfl; done) | (rcases h with ⟨_, _, rfl, _⟩ | ⟨_, _, _, _, _, _, rfl, _⟩ <;> rfl; done) | (rcases h with ⟨_, _, _, rfl, _⟩ | ⟨_, rfl, _⟩ <;> rfl; done) | (rcases h with ⟨_, _, _, rfl, _⟩ | ⟨_, _, rfl, _⟩ <;> rfl; done) | (rcases h with ⟨_, _, _, rfl, _⟩ | ⟨_, _, _, rfl, _⟩ <;> rfl; done) | (rcases h with ⟨_, _, _, rfl, _⟩ | ⟨_, _, _, _, rfl, _⟩ <;> rfl; done) | (rcases h with ⟨_, _, _, rfl, _⟩ | ⟨_, _, _, _, _, rfl, _⟩ <;> rfl; done) | (rcases h with ⟨_, _, _, rfl, _⟩ | ⟨_, _, _, _, _, _, rfl, _⟩ <;> rfl; done) | (rcases h with ⟨_, _, _, _, rfl, _⟩ | ⟨_, rfl, _⟩ <;> rfl; done) | (rcases h with ⟨_, _, _, _, rfl, _⟩ | ⟨_, _, rfl, _⟩ <;> rfl; done) | (rcases h with ⟨_, _, _, _, rfl, _⟩ | ⟨_, _, _, rfl, _⟩ <;> rfl; done) | (rcases h with ⟨_, _, _, _, rfl, _⟩ | ⟨_, _, _, _, rfl, _⟩ <;> rfl; done) | (rcases h with ⟨_, _, _, _, rfl, _⟩ | ⟨_, _, _, _, _, rfl, _⟩ <;> rfl; done) | (rcases h with ⟨_, _, _, _, rfl, _⟩ | ⟨_, _, _, _, _, _, rfl, _⟩ <;> rfl; done) | (rcases h with ⟨_, _, _, _, _, rfl, _⟩ | ⟨_, rfl, _⟩ <;> rfl; done) | (rcases h with ⟨_, _, _, _, _, rfl, _⟩ | ⟨_, _, rfl, _⟩ <;> rfl; done) | (rcases h with ⟨_, _, _, _, _, rfl, _⟩ | ⟨_, _, _, rfl, _⟩ <;> rfl; done) | (rcases h with ⟨_, _, _, _, _, rfl, _⟩ | ⟨_, _, _, _, rfl, _⟩ <;> rfl; done) | (rcases h with ⟨_, _, _, _, _, rfl, _⟩ | ⟨_, _, _, _, _, rfl, _⟩ <;> rfl; done) | (rcases h with ⟨_, _, _, _, _, rfl, _⟩ | ⟨_, _, _, _, _, _, rfl, _⟩ <;> rfl; done) | (rcases h with ⟨_, _, _, _, _, _, rfl, _⟩ | ⟨_, rfl, _⟩ <;> rfl; done) | (rcases h with ⟨_, _, _, _, _, _, rfl, _⟩ | ⟨_, _, rfl, _⟩ <;> rfl; done) | (rcases h with ⟨_, _, _, _, _, _, rfl, _⟩ | ⟨_, _, _, rfl, _⟩ <;> rfl; done) | (rcases h with ⟨_, _, _, _, _, _, rfl, _⟩ | ⟨_, _, _, _, rfl, _⟩ <;> rfl; done) | (rcases h with ⟨_, _, _, _, _, _, rfl, _⟩ | ⟨_, _, _, _, _, rfl, _⟩ <;> rfl; done) | (rcases h with ⟨_, _, _, _, _, _, rfl, _⟩ | ⟨_, _, _, _, _, _, rfl, _⟩ <;> rfl; done) | (rcases h with ⟨_, rfl, _⟩ | ⟨_, _, rfl, _⟩ <;> rfl) | (rcases h with ⟨_, rfl, _⟩ | ⟨_, rfl, _⟩ <;> rfl) | (rcases h with h | h | h <;> (first | (obtain ⟨rfl, _⟩ := h; rfl; done) | (obtain ⟨_, rfl, _⟩ := h; rfl; done) | (obtain ⟨_, _, rfl, _⟩ := h; rfl; done) | (obtain ⟨_, _, _, rfl, _⟩ := h; rfl; done) | (obtain ⟨_, _, _, _, rfl, _⟩ := h; rfl; done) | (obtain ⟨_, _, _, _, _, rfl, _⟩ := h; rfl; done) | (obtain ⟨_, _, _, _, _, _, rfl, _⟩ := h; rfl; done) | (obtain ⟨_, _, _, _, _, _, _, rfl, _⟩ := h; rfl; done) | (obtain ⟨_, _, _, _, _, _, _, _, rfl, _⟩ := h; rfl; done) | (obtain ⟨_, _, _, _, _, _, _, _, _, rfl, _⟩ := h; rfl; done) | (obtain ⟨_, _, _, _, _, _, _, _, _, _, rfl, _⟩ := h; rfl; done) | (obtain ⟨_, _, _, _, _, _, _, _, _, _, _, rfl, _⟩ := h; rfl; done) | (obtain ⟨_, _, _, _, _, _, _, _, _, _, _, _, rfl, _⟩ := h; rfl; done) | (obtain ⟨_, _, _, _, _, _, _, _, _, _, _, _, _, rfl, _⟩ := h; rfl; done) | (obtain ⟨_, _, _, _, _, _, _, _, _, _, _, _, _, _, rfl, _⟩ := h; rfl; done)))) (fun cdv A outer s H vs Q E hr h => ⟨t__law_fates K a, ?_, rd vs H Q E h⟩)
  exact (pss_cons (ps_set (i := 2) nd rfl (by first | exact Or.inl rfl | exact Or.inr rfl) (pe_call G__law_pull (hr.mono (by decide)) rfl T.g__law_pull T.F__law_pull.kp T.b__law_pull .nil pass0 (pa_cons (pv 0) (pa_cons pe_int pa_nil))))
      (pss_one (ps_ret (pe_lc (own := [("_law_k", 3)]) (g := (gName 3)) (tt := tYes) (te := (tIf (tTest (tOp rLtI (tCall (sp__law_pull K a) [] E0 (tCons (tVar 0) (tCons (tC (.int 4)) tNil))) (tVar 2))) (tCall (sp__law_pull K a) [] E0 (tCons (tVar 0) (tCons (tC (.int 4)) tNil))) (tC (.int 0)))) rfl nd (pi_range1 rfl T.n_range (pa_cons (pv 1) pa_nil)) (blkOk_by (N := N__law_fates) (sc := defScope s__law_fates) (by decide +kernel)) (fun _ _ _ _ _ => (pg_name (i := 3) nd rfl (by first | exact Or.inl rfl | exact Or.inr rfl))) (fun _ _ _ _ _ => pts_nil) (fun _ _ _ _ _ => (pe_ifExp (pt_cmpR op_lt (pe_call G__law_pull (hr.mono (by decide)) rfl T.g__law_pull T.F__law_pull.kp T.b__law_pull .nil pass0 (pa_cons (pv 0) (pa_cons pe_int pa_nil))) (pv 2) (nomark _)) (pe_call G__law_pull (hr.mono (by decide)) rfl T.g__law_pull T.F__law_pull.kp T.b__law_pull .nil pass0 (pa_cons (pv 0) (pa_cons pe_int pa_nil))) pe_int))))))
theorem ok__law_taken (T : Txt K mg a)
    (G_asked : FnOk P a.w K mg base CX0 1 a.f_asked a.d_asked P_asked (sp_asked K a))
    (G_went : FnOk P a.w K mg base CX0 1 a.f_went a.d_went P_went (sp_went K a))
    (rd : RD (sp__law_taken K a) (t__law_taken K a) N__law_taken) :
    FnOk P a.w K mg base CX0 2 a.f__law_taken a.d__law_taken P__law_taken (sp__law_taken K a) := by
  have nd := sc__law_taken.nd
  refine T.F__law_taken.ok sc__law_taken (fun vs H Q E h => by first | (obtain ⟨rfl, _⟩ := h; rfl; done) | (obtain ⟨_, rfl, _⟩ := h; rfl; done) | (obtain ⟨_, _, rfl, _⟩ := h; rfl; done) | (obtain ⟨_, _, _, rfl, _⟩ := h; rfl; done) | (obtain ⟨_, _, _, _, rfl, _⟩ := h; rfl; done) | (obtain ⟨_, _, _, _, _, rfl, _⟩ := h; rfl; done) | (obtain ⟨_, _, _, _, _, _, rfl, _⟩ := h; rfl; done) | (obtain ⟨_, _, _, _, _, _, _, rfl, _⟩ := h; rfl; done) | (obtain ⟨_, _, _, _, _, _, _, _, rfl, _⟩ := h; rfl; done) | (obtain ⟨_, _, _, _, _, _, _, _, _, rfl, _⟩ := h; rfl; done) | (obtain ⟨_, _, _, _, _, _, _, _, _, _, rfl, _⟩ := h; rfl; done) | (obtain ⟨_, _, _, _, _, _, _, _, _, _, _, rfl, _⟩ := h; rfl; done) | (obtain ⟨_, _, _, _, _, _, _, _, _, _, _, _, rfl, _⟩ := h; rfl; done) | (obtain ⟨_, _, _, _, _, _, _, _, _, _, _, _, _, rfl, _⟩ := h; rfl; done) | (obtain ⟨_, _, _, _, _, _, _, _, _, _, _, _, _, _, rfl, _⟩ := h; rfl; done) | (rcases h with ⟨_, rfl, _⟩ | ⟨_, rfl, _⟩ <;> rfl; done) | (rcases h with ⟨_, rfl, _⟩ | ⟨_, _, rfl, _⟩ <;> rfl; done) | (rcases h with ⟨_, rfl, _⟩ | ⟨_, _, _, rfl, _⟩ <;> rfl; done) | (rcases h with ⟨_, rfl, _⟩ | ⟨_, _, _, _, rfl, _⟩ <;> rfl; done) | (rcases h with ⟨_, rfl, _⟩ | ⟨_, _, _, _, _, rfl, _⟩ <;> rfl; done) | (rcases h with ⟨_, rfl, _⟩ | ⟨_, _, _, _, _, _, rfl, _⟩ <;> rfl; done) | (rcases h with ⟨_, _, rfl, _⟩ | ⟨_, rfl, _⟩ <;> rfl; done) | (rcases h with ⟨_, _, rfl, _⟩ | ⟨_, _, rfl, _⟩ <;> rfl; done) | (rcases h with ⟨_, _, rfl, _⟩ | ⟨_, _, _, rfl, _⟩ <;> rfl; done) | (rcases h with ⟨_, _, rfl, _⟩ | ⟨_, _, _, _, rfl, _⟩ <;> rfl; done) | (rcases h with ⟨_, _, rfl, _⟩ | ⟨_, _, _, _, _, rfl, _⟩ <;> rfl; done) | (rcases h with ⟨_, _, rfl, _⟩ | ⟨_, _, _, _, _, _, rfl, _⟩ <;> rfl; done) | (rcases h with ⟨_, _, _, rfl, _⟩ | ⟨_, rfl, _⟩ <;> rfl; done) | (rcases h with ⟨_, _, _, rfl, _⟩ | ⟨_, _, rfl, _⟩ <;> rfl; done) | (rcases h with ⟨_, _, _, rfl, _⟩ | ⟨_, _, _, rfl, _⟩ <;> rfl; done) | (rcases h with ⟨_, _, _, rfl, _⟩ | ⟨_, _, _, _, rfl, _⟩ <;> rfl; done) | (rcases h with ⟨_, _, _, rfl, _⟩ | ⟨_, _, _, _, _, rfl, _⟩ <;> rfl; done) | (rcases h with ⟨_, _, _, rfl, _⟩ | ⟨_, _, _, _, _, _, rfl, _⟩ <;> rfl; done) | (rcases h with ⟨_, _, _, _, rfl, _⟩ | ⟨_, rfl, _⟩ <;> rfl; done) | (rcases h with ⟨_, _, _, _, rfl, _⟩ | ⟨_, _, rfl, _⟩ <;> rfl; done) | (rcases h with ⟨_, _, _, _, rfl, _⟩ | ⟨_, _, _, rfl, _⟩ <;> rfl; done) | (rcases h with ⟨_, _, _, _, rfl, _⟩ | ⟨_, _, _, _, rfl, _⟩ <;> rfl; done) | (rcases h with ⟨_, _, _, _, rfl, _⟩ | ⟨_, _, _, _, _, rfl, _⟩ <;> rfl; done) | (rcases h with ⟨_, _, _, _, rfl, _⟩ | ⟨_, _, _, _, _, _, rfl, _⟩ <;> rfl; done) | (rcases h with ⟨_, _, _, _, _, rfl, _⟩ | ⟨_, rfl, _⟩ <;> rfl; done) | (rcases h with ⟨_, _, _, _, _, rfl, _⟩ | ⟨_, _, rfl, _⟩ <;> rfl; done) | (rcases h with ⟨_, _, _, _, _, rfl, _⟩ | ⟨_, _, _, rfl, _⟩ <;> rfl; done) | (rcases h with ⟨_, _, _, _, _, rfl, _⟩ | ⟨_, _, _, _, rfl, _⟩ <;> rfl; done) | (rcases h with ⟨_, _, _, _, _, rfl, _⟩ | ⟨_, _, _, _, _, rfl, _⟩ <;> rfl; done) | (rcases h with ⟨_, _, _, _, _, rfl, _⟩ | ⟨_, _, _, _, _, _, rfl, _⟩ <;> rfl; done) | (rcases h with ⟨_, _, _, _, _, _, rfl, _⟩ | ⟨_, rfl, _⟩ <;> rfl; done) | (rcases h with ⟨_, _, _, _, _, _, rfl, _⟩ | ⟨_, _, rfl, _⟩ <;> rfl; done) | (rcases h with ⟨_, _, _, _, _, _, rfl, _⟩ | ⟨_, _, _, rfl, _⟩ <;> rfl; done) | (rcases h with ⟨_, _, _, _, _, _, rfl, _⟩ | ⟨_, _, _, _, rfl, _⟩ <;> rfl; done) | (rcases h with ⟨_, _, _, _, _, _, rfl, _⟩ | ⟨_, _, _, _, _, rfl, _⟩ <;> rfl; done) | (rcases h with ⟨_, _, _, _, _, _, rfl, _⟩ | ⟨_, _, _, _, _, _, rfl, _⟩ <;> rfl; done) | (rcases h with ⟨_, rfl, _⟩ | ⟨_, _, rfl, _⟩ <;> rfl) | (rcases h with ⟨_, rfl, _⟩ | ⟨_, rfl, _⟩ <;> rfl) | (rcases h with h | h | h <;> (first | (obtain ⟨rfl, _⟩ := h; rfl; done) | (obtain ⟨_, rfl, _⟩ := h; rfl; done) | (obtain ⟨_, _, rfl, _⟩ := h; rfl; done) | (obtain ⟨_, _, _, rfl, _⟩ := h; rfl; done) | (obtain ⟨_, _, _, _, rfl, _⟩ := h; rfl; done) | (obtain ⟨_, _, _, _, _, rfl, _⟩ := h; rfl; done) | (obtain ⟨_, _, _, _, _, _, rfl, _⟩ := h; rfl; done) | (obtain ⟨_, _, _, _, _, _, _, rfl, _⟩ := h; rfl; done) | (obtain ⟨_, _, _, _, _, _, _, _, rfl, _⟩ := h; rfl; done) | (obtain ⟨_, _, _, _, _, _, _, _, _, rfl, _⟩ := h; rfl; done) | (obtain ⟨_, _, _, _, _, _, _, _, _, _, rfl, _⟩ := h; rfl; done) | (obtain ⟨_, _, _, _, _, _, _, _, _, _, _, rfl, _⟩ := h; rfl; done) | (obtain ⟨_, _, _, _, _, _, _, _, _, _, _, _, rfl, _⟩ := h; rfl; done) | (obtain ⟨_, _, _, _, _, _, _, _, _, _, _, _, _, rfl, _⟩ := h; rfl; done) | (obtain ⟨_, _, _, _, _, _, _, _, _, _, _, _, _, _, rfl, _⟩ := h; rfl; done)))) (fun cdv A outer s H vs Q E hr h => ⟨t__law_taken K a, ?_, rd vs H Q E h⟩)
  exact (pss_cons (ps_set (i := 2) nd rfl (by first | exact Or.inl rfl | exact Or.inr rfl) (pe_ix ix_tup (pv 0) pe_int (fun _ _ => rfl)))
      (pss_cons (ps_set (i := 3) nd rfl (by first | exact Or.inl rfl | exact Or.inr rfl) (pe_lst pa_nil))
      (pss_cons (ps_for PassesOwn.never rfl (pi_list (pv 1)) (pg_name (i := 4) nd rfl (by first | exact Or.inl rfl | exact Or.inr rfl)) (pss_cons (ps_set (i := 5) nd rfl (by first | exact Or.inl rfl | exact Or.inr rfl) (pe_call G_asked (hr.mono (by decide)) rfl T.g_asked T.F_asked.kp T.b_asked .nil pass0 (pa_cons (pv 0) pa_nil)))
      (pss_one (ps_if (PW.pt (pw_and (pt_cmpR op_in_seq (pv 4) (pe_tup (pa_cons pe_int (pa_cons pe_int pa_nil))) (by rfl)) (pw_and1 (pt_cmpR op_eq (pe_ix ix_tup (pv 5) pe_int (fun _ _ => rfl)) pe_str (nomark _))))) (pss_cons (ps_if (pt_cmpR op_eq (pe_ix ix_tup (pv 5) pe_int (fun _ _ => rfl)) (pv 2) (nomark _)) (pss_cons (ps_expr (pe_bm PySem.F.plainAttrs_list PySem.F.slot_list_append PySem.F.type_list_append mt_append (pv 3) (pa_cons (pe_ix ix_tup (pv 5) pe_int (fun _ _ => rfl)) pa_nil)))
      (pss_one (ps_set (i := 2) nd rfl (by first | exact Or.inl rfl | exact Or.inr rfl) (pe_op op_sub pe_int (pv 2))))) pss_nil)
      (pss_one (ps_if (pt_cmpR op_eq (pv 4) pe_int (nomark _)) (pss_one (ps_set (i := 0) nd rfl (by first | exact Or.inl rfl | exact Or.inr rfl) (pe_call G_went (hr.mono (by decide)) rfl T.g_went T.F_went.kp T.b_went .nil pass0 (pa_cons (pv 0) pa_nil)))) pss_nil))) pss_nil))))
      (pss_one (ps_ret (pe_tup (pa_cons (pv 0) (pa_cons (pv 3) pa_nil))))))))
theorem ok__law_rows (T : Txt K mg a)
    (rd : RD (sp__law_rows K a) (t__law_rows K a) N__law_rows) :
    FnOk P a.w K mg base CX0 1 a.f__law_rows a.d__law_rows P__law_rows (sp__law_rows K a) := by
  have nd := sc__law_rows.nd
  refine T.F__law_rows.ok sc__law_rows (fun vs H Q E h => by first | (obtain ⟨rfl, _⟩ := h; rfl; done) | (obtain ⟨_, rfl, _⟩ := h; rfl; done) | (obtain ⟨_, _, rfl, _⟩ := h; rfl; done) | (obtain ⟨_, _, _, rfl, _⟩ := h; rfl; done) | (obtain ⟨_, _, _, _, rfl, _⟩ := h; rfl; done) | (obtain ⟨_, _, _, _, _, rfl, _⟩ := h; rfl; done) | (obtain ⟨_, _, _, _, _, _, rfl, _⟩ := h; rfl; done) | (obtain ⟨_, _, _, _, _, _, _, rfl, _⟩ := h; rfl; done) | (obtain ⟨_, _, _, _, _, _, _, _, rfl, _⟩ := h; rfl; done) | (obtain ⟨_, _, _, _, _, _, _, _, _, rfl, _⟩ := h; rfl; done) | (obtain ⟨_, _, _, _, _, _, _, _, _, _, rfl, _⟩ := h; rfl; done) | (obtain ⟨_, _, _, _, _, _, _, _, _, _, _, rfl, _⟩ := h; rfl; done) | (obtain ⟨_, _, _, _, _, _, _, _, _, _, _, _, rfl, _⟩ := h; rfl; done) | (obtain ⟨_, _, _, _, _, _, _, _, _, _, _, _, _, rfl, _⟩ := h; rfl; done) | (obtain ⟨_, _, _, _, _, _, _, _, _, _, _, _, _, _, rfl, _⟩ := h; rfl; done) | (rcases h with ⟨_, rfl, _⟩ | ⟨_, rfl, _⟩ <;> rfl; done) | (rcases h with ⟨_, rfl, _⟩ | ⟨_, _, rfl, _⟩ <;> rfl; done) | (rcases h with ⟨_, rfl, _⟩ | ⟨_, _, _, rfl, _⟩ <;> rfl; done) | (rcases h with ⟨_, rfl, _⟩ | ⟨_, _, _, _, rfl, _⟩ <;> rfl; done) | (rcases h with ⟨_, rfl, _⟩ | ⟨_, _, _, _, _, rfl, _⟩ <;> rfl; done) | (rcases h with ⟨_, rfl, _⟩ | ⟨_, _, _, _, _, _, rfl, _⟩ <;> rfl; done) | (rcases h with ⟨_, _, rfl, _⟩ | ⟨_, rfl, _⟩ <;> rfl; done) | (rcases h with ⟨_, _, rfl, _⟩ | ⟨_, _, rfl, _⟩ <;> rfl; done) | (rcases h with ⟨_, _, rfl, _⟩ | ⟨_, _, _, rfl, _⟩ <;> rfl; done) | (rcases h with ⟨_, _, rfl, _⟩ | ⟨_, _, _, _, rfl, _⟩ <;> rfl; done) | (rcases h with ⟨_, _, rfl, _⟩ | ⟨_, _, _, _, _, rfl, _⟩ <;> rfl; done) | (rcases h with ⟨_, _, rfl, _⟩ | ⟨_, _, _, _, _, _, rfl, _⟩ <;> rfl; done) | (rcases h with ⟨_, _, _, rfl, _⟩ | ⟨_, rfl, _⟩ <;> rfl; done) | (rcases h with ⟨_, _, _, rfl, _⟩ | ⟨_, _, rfl, _⟩ <;> rfl; done) | (rcases h with ⟨_, _, _, rfl, _⟩ | ⟨_, _, _, rfl, _⟩ <;> rfl; done) | (rcases h with ⟨_, _, _, rfl, _⟩ | ⟨_, _, _, _, rfl, _⟩ <;> rfl; done) | (rcases h with ⟨_, _, _, rfl, _⟩ | ⟨_, _, _, _, _, rfl, _⟩ <;> rfl; done) | (rcases h with ⟨_, _, _, rfl, _⟩ | ⟨_, _, _, _, _, _, rfl, _⟩ <;> rfl; done) | (rcases h with ⟨_, _, _, _, rfl, _⟩ | ⟨_, rfl, _⟩ <;> rfl; done) | (rcases h with ⟨_, _, _, _, rfl, _⟩ | ⟨_, _, rfl, _⟩ <;> rfl; done) | (rcases h with ⟨_, _, _, _, rfl, _⟩ | ⟨_, _, _, rfl, _⟩ <;> rfl; done) | (rcases h with ⟨_, _, _, _, rfl, _⟩ | ⟨_, _, _, _, rfl, _⟩ <;> rfl; done) | (rcases h with ⟨_, _, _, _, rfl, _⟩ | ⟨_, _, _, _, _, rfl, _⟩ <;> rfl; done) | (rcases h with ⟨_, _, _, _, rfl, _⟩ | ⟨_, _, _, _, _, _, rfl, _⟩ <;> rfl; done) | (rcases h with ⟨_, _, _, _, _, rfl, _⟩ | ⟨_, rfl, _⟩ <;> rfl; done) | (rcases h with ⟨_, _, _, _, _, rfl, _⟩ | ⟨_, _, rfl, _⟩ <;> rfl; done) | (rcases h with ⟨_, _, _, _, _, rfl, _⟩ | ⟨_, _, _, rfl, _⟩ <;> rfl; done) | (rcases h with ⟨_, _, _, _, _, rfl, _⟩ | ⟨_, _, _, _, rfl, _⟩ <;> rfl; done) | (rcases h with ⟨_, _, _, _, _, rfl, _⟩ | ⟨_, _, _, _, _, rfl, _⟩ <;> rfl; done) | (rcases h with ⟨_, _, _, _, _, rfl, _⟩ | ⟨_, _, _, _, _, _, rfl, _⟩ <;> rfl; done) | (rcases h with ⟨_, _, _, _, _, _, rfl, _⟩ | ⟨_, rfl, _⟩ <;> rfl; done) | (rcases h with ⟨_, _, _, _, _, _, rfl, _⟩ | ⟨_, _, rfl, _⟩ <;> rfl; done) | (rcases h with ⟨_, _, _, _, _, _, rfl, _⟩ | ⟨_, _, _, rfl, _⟩ <;> rfl; done) | (rcases h with ⟨_, _, _, _, _, _, rfl, _⟩ | ⟨_, _, _, _, rfl, _⟩ <;> rfl; done) | (rcases h with ⟨_, _, _, _, _, _, rfl, _⟩ | ⟨_, _, _, _, _, rfl, _⟩ <;> rfl; done) | (rcases h with ⟨_, _, _, _, _, _, rfl, _⟩ | ⟨_, _, _, _, _, _, rfl, _⟩ <;> rfl; done) | (rcases h with ⟨_, rfl, _⟩ | ⟨_, _, rfl, _⟩ <;> rfl) | (rcases h with ⟨_, rfl, _⟩ | ⟨_, rfl, _⟩ <;> rfl) | (rcases h with h | h | h <;> (first | (obtain ⟨rfl, _⟩ := h; rfl; done) | (obtain ⟨_, rfl, _⟩ := h; rfl; done) | (obtain ⟨_, _, rfl, _⟩ := h; rfl; done) | (obtain ⟨_, _, _, rfl, _⟩ := h; rfl; done) | (obtain ⟨_, _, _, _, rfl, _⟩ := h; rfl; done) | (obtain ⟨_, _, _, _, _, rfl, _⟩ := h; rfl; done) | (obtain ⟨_, _, _, _, _, _, rfl, _⟩ := h; rfl; done) | (obtain ⟨_, _, _, _, _, _, _, rfl, _⟩ := h; rfl; done) | (obtain ⟨_, _, _, _, _, _, _, _, rfl, _⟩ := h; rfl; done) | (obtain ⟨_, _, _, _, _, _, _, _, _, rfl, _⟩ := h; rfl; done) | (obtain ⟨_, _, _, _, _, _, _, _, _, _, rfl, _⟩ := h; rfl; done) | (obtain ⟨_, _, _, _, _, _, _, _, _, _, _, rfl, _⟩ := h; rfl; done) | (obtain ⟨_, _, _, _, _, _, _, _, _, _, _, _, rfl, _⟩ := h; rfl; done) | (obtain ⟨_, _, _, _, _, _, _, _, _, _, _, _, _, rfl, _⟩ := h; rfl; done) | (obtain ⟨_, _, _, _, _, _, _, _, _, _, _, _, _, _, rfl, _⟩ := h; rfl; done)))) (fun cdv A outer s H vs Q E hr h => ⟨t__law_rows K a, ?_, rd vs H Q E h⟩)
  exact (pss_cons (ps_set (i := 1) nd rfl (by first | exact Or.inl rfl | exact Or.inr rfl) (pe_lst (pa_cons (pe_lst pa_nil) pa_nil)))
      (pss_cons (ps_for PassesOwn.never rfl (pi_range1 rfl T.n_range (pa_cons (pv 0) pa_nil)) (pg_name (i := 2) nd rfl (by first | exact Or.inl rfl | exact Or.inr rfl)) (pss_one (ps_set (i := 1) nd rfl (by first | exact Or.inl rfl | exact Or.inr rfl) (pe_callBK (cr_sumL rfl) (by rfl) T.n_sum (by decide +kernel) (pa_cons (pe_lc (own := [("_law_row", 3)]) (g := (gName 3)) (tt := tYes) (te := (tLst (tCons (tOp rCat (tVar 3) (tLst (tCons (tC (.int 0)) tNil))) (tCons (tOp rCat (tVar 3) (tLst (tCons (tC (.int 2)) tNil))) (tCons (tOp rCat (tVar 3) (tLst (tCons (tC (.int 3)) tNil))) tNil))))) rfl nd (pi_list (pv 1)) (blkOk_by (N := N__law_rows) (sc := defScope s__law_rows) (by decide +kernel)) (fun _ _ _ _ _ => (pg_name (i := 3) nd rfl (by first | exact Or.inl rfl | exact Or.inr rfl))) (fun _ _ _ _ _ => pts_nil) (fun _ _ _ _ _ => (pe_lst (pa_cons (pe_op op_cat (pv 3) (pe_lst (pa_cons pe_int pa_nil))) (pa_cons (pe_op op_cat (pv 3) (pe_lst (pa_cons pe_int pa_nil))) (pa_cons (pe_op op_cat (pv 3) (pe_lst (pa_cons pe_int pa_nil))) pa_nil)))))) pa_nil) (pk_cons (pe_lst pa_nil) pk_nil)))))
      (pss_one (ps_ret (pv 1)))))
theorem ok__law_right (T : Txt K mg a)
    (rd : RD (sp__law_right K a) (t__law_right K a) N__law_right) :
    FnOk P a.w K mg base CX0 1 a.f__law_right a.d__law_right P__law_right (sp__law_right K a) := by
  have nd := sc__law_right.nd
  refine T.F__law_right.ok sc__law_right (fun vs H Q E h => by first | (obtain ⟨rfl, _⟩ := h; rfl; done) | (obtain ⟨_, rfl, _⟩ := h; rfl; done) | (obtain ⟨_, _, rfl, _⟩ := h; rfl; done) | (obtain ⟨_, _, _, rfl, _⟩ := h; rfl; done) | (obtain ⟨_, _, _, _, rfl, _⟩ := h; rfl; done) | (obtain ⟨_, _, _, _, _, rfl, _⟩ := h; rfl; done) | (obtain ⟨_, _, _, _, _, _, rfl, _⟩ := h; rfl; done) | (obtain ⟨_, _, _, _, _, _, _, rfl, _⟩ := h; rfl; done) | (obtain ⟨_, _, _, _, _, _, _, _, rfl, _⟩ := h; rfl; done) | (obtain ⟨_, _, _, _, _, _, _, _, _, rfl, _⟩ := h; rfl; done) | (obtain ⟨_, _, _, _, _, _, _, _, _, _, rfl, _⟩ := h; rfl; done) | (obtain ⟨_, _, _, _, _, _, _, _, _, _, _, rfl, _⟩ := h; rfl; done) | (obtain ⟨_, _, _, _, _, _, _, _, _, _, _, _, rfl, _⟩ := h; rfl; done) | (obtain ⟨_, _, _, _, _, _, _, _, _, _, _, _, _, rfl, _⟩ := h; rfl; done) | (obtain ⟨_, _, _, _, _, _, _, _, _, _, _, _, _, _, rfl, _⟩ := h; rfl; done) | (rcases h with ⟨_, rfl, _⟩ | ⟨_, rfl, _⟩ <;> rfl; done) | (rcases h with ⟨_, rfl, _⟩ | ⟨_, _, rfl, _⟩ <;> rfl; done) | (rcases h with ⟨_, rfl, _⟩ | ⟨_, _, _, rfl, _⟩ <;> rfl; done) | (rcases h with ⟨_, rfl, _⟩ | ⟨_, _, _, _, rfl, _⟩ <;> rfl; done) | (rcases h with ⟨_, rfl, _⟩ | ⟨_, _, _, _, _, rfl, _⟩ <;> rfl; done) | (rcases h with ⟨_, rfl, _⟩ | ⟨_, _, _, _, _, _, rfl, _⟩ <;> rfl; done) | (rcases h with ⟨_, _, rfl, _⟩ | ⟨_, rfl, _⟩ <;> rfl; done) | (rcases h with ⟨_, _, rfl, _⟩ | ⟨_, _, rfl, _⟩ <;> rfl; done) | (rcases h with ⟨_, _, rfl, _⟩ | ⟨_, _, _, rfl, _⟩ <;> rfl; done) | (rcases h with ⟨_, _, rfl, _⟩ | ⟨_, _, _, _, rfl, _⟩ <;> rfl; done) | (rcases h with ⟨_, _, rfl, _⟩ | ⟨_, _, _, _, _, rfl, _⟩ <;> rfl; done) | (rcases h with ⟨_, _, rfl, _⟩ | ⟨_, _, _, _, _, _, rfl, _⟩ <;> rfl; done) | (rcases h with ⟨_, _, _, rfl, _⟩ | ⟨_, rfl, _⟩ <;> rfl; done) | (rcases h with ⟨_, _, _, rfl, _⟩ | ⟨_, _, rfl, _⟩ <;> rfl; done) | (rcases h with ⟨_, _, _, rfl, _⟩ | ⟨_, _, _, rfl, _⟩ <;> rfl; done) | (rcases h with ⟨_, _, _, rfl, _⟩ | ⟨_, _, _, _, rfl, _⟩ <;> rfl; done) | (rcases h with ⟨_, _, _, rfl, _⟩ | ⟨_, _, _, _, _, rfl, _⟩ <;> rfl; done) | (rcases h with ⟨_, _, _, rfl, _⟩ | ⟨_, _, _, _, _, _, rfl, _⟩ <;> rfl; done) | (rcases h with ⟨_, _, _, _, rfl, _⟩ | ⟨_, rfl, _⟩ <;> rfl; done) | (rcases h with ⟨_, _, _, _, rfl, _⟩ | ⟨_, _, rfl, _⟩ <;> rfl; done) | (rcases h with ⟨_, _, _, _, rfl, _⟩ | ⟨_, _, _, rfl, _⟩ <;> rfl; done) | (rcases h with ⟨_, _, _, _, rfl, _⟩ | ⟨_, _, _, _, rfl, _⟩ <;> rfl; done) | (rcases h with ⟨_, _, _, _, rfl, _⟩ | ⟨_, _, _, _, _, rfl, _⟩ <;> rfl; done) | (rcases h with ⟨_, _, _, _, rfl, _⟩ | ⟨_, _, _, _, _, _, rfl, _⟩ <;> rfl; done) | (rcases h with ⟨_, _, _, _, _, rfl, _⟩ | ⟨_, rfl, _⟩ <;> rfl; done) | (rcases h with ⟨_, _, _, _, _, rfl, _⟩ | ⟨_, _, rfl, _⟩ <;> rfl; done) | (rcases h with ⟨_, _, _, _, _, rfl, _⟩ | ⟨_, _, _, rfl, _⟩ <;> rfl; done) | (rcases h with ⟨_, _, _, _, _, rfl, _⟩ | ⟨_, _, _, _, rfl, _⟩ <;> rfl; done) | (rcases h with ⟨_, _, _, _, _, rfl, _⟩ | ⟨_, _, _, _, _, rfl, _⟩ <;> rfl; done) | (rcases h with ⟨_, _, _, _, _, rfl, _⟩ | ⟨_, _, _, _, _, _, rfl, _⟩ <;> rfl; done) | (rcases h with ⟨_, _, _, _, _, _, rfl, _⟩ | ⟨_, rfl, _⟩ <;> rfl; done) | (rcases h with ⟨_, _, _, _, _, _, rfl, _⟩ | ⟨_, _, rfl, _⟩ <;> rfl; done) | (rcases h with ⟨_, _, _, _, _, _, rfl, _⟩ | ⟨_, _, _, rfl, _⟩ <;> rfl; done) | (rcases h with ⟨_, _, _, _, _, _, rfl, _⟩ | ⟨_, _, _, _, rfl, _⟩ <;> rfl; done) | (rcases h with ⟨_, _, _, _, _, _, rfl, _⟩ | ⟨_, _, _, _, _, rfl, _⟩ <;> rfl; done) | (rcases h with ⟨_, _, _, _, _, _, rfl, _⟩ | ⟨_, _, _, _, _, _, rfl, _⟩ <;> rfl; done) | (rcases h with ⟨_, rfl, _⟩ | ⟨_, _, rfl, _⟩ <;> rfl) | (rcases h with ⟨_, rfl, _⟩ | ⟨_, rfl, _⟩ <;> rfl) | (rcases h with h | h | h <;> (first | (obtain ⟨rfl, _⟩ := h; rfl; done) | (obtain ⟨_, rfl, _⟩ := h; rfl; done) | (obtain ⟨_, _, rfl, _⟩ := h; rfl; done) | (obtain ⟨_, _, _, rfl, _⟩ := h; rfl; done) | (obtain ⟨_, _, _, _, rfl, _⟩ := h; rfl; done) | (obtain ⟨_, _, _, _, _, rfl, _⟩ := h; rfl; done) | (obtain ⟨_, _, _, _, _, _, rfl, _⟩ := h; rfl; done) | (obtain ⟨_, _, _, _, _, _, _, rfl, _⟩ := h; rfl; done) | (obtain ⟨_, _, _, _, _, _, _, _, rfl, _⟩ := h; rfl; done) | (obtain ⟨_, _, _, _, _, _, _, _, _, rfl, _⟩ := h; rfl; done) | (obtain ⟨_, _, _, _, _, _, _, _, _, _, rfl, _⟩ := h; rfl; done) | (obtain ⟨_, _, _, _, _, _, _, _, _, _, _, rfl, _⟩ := h; rfl; done) | (obtain ⟨_, _, _, _, _, _, _, _, _, _, _, _, rfl, _⟩ := h; rfl; done) | (obtain ⟨_, _, _, _, _, _, _, _, _, _, _, _, _, rfl, _⟩ := h; rfl; done) | (obtain ⟨_, _, _, _, _, _, _, _, _, _, _, _, _, _, rfl, _⟩ := h; rfl; done)))) (fun cdv A outer s H vs Q E hr h => ⟨t__law_right K a, ?_, rd vs H Q E h⟩)
  exact (pss_cons (ps_set (i := 3) nd rfl (by first | exact Or.inl rfl | exact Or.inr rfl) (pe_callB call_len_seq (by rfl) T.n_len (by decide +kernel) (pa_cons (pv 2) pa_nil)))
      (pss_cons (ps_if (pt_cmpR (op_neD hr.units) (pv 2) (pe_slice sl_list (pv 0) po_none (po_some (pv 3))) (nomark _)) (pss_one (ps_ret pe_bl)) pss_nil)
      (pss_one (ps_ret (pe_or (pe_cmpR (op_eqD hr.units) (pe_callTy call_list_of (by rfl) T.n_list (by decide +kernel) (pa_cons (pe_ix ix_tup (pv 1) pe_int (fun _ _ => rfl)) pa_nil)) (pe_slice sl_list (pv 0) (po_some (pv 3)) po_none) (nomark _)) (pe_one (pe_and (pe_cmpR op_gt (pv 3) pe_int (nomark _)) (pe_one (pe_cmpR (op_eqD hr.units) (pe_callTy call_list_of (by rfl) T.n_list (by decide +kernel) (pa_cons (pe_ix ix_tup (pv 1) pe_int (fun _ _ => rfl)) pa_nil)) (pe_slice sl_list (pv 0) (po_some (pe_op op_sub (pv 3) pe_int)) po_none) (nomark _))))))))))
theorem ok_law (T : Txt K mg a)
    (G__law_bag : FnOk P a.w K mg base CX0 1 a.f__law_bag a.d__law_bag P__law_bag (sp__law_bag K a))
    (G__law_bytes : FnOk P a.w K mg base CX0 2 a.f__law_bytes a.d__law_bytes P__law_bytes (sp__law_bytes K a))
    (G__law_fates : FnOk P a.w K mg base CX0 2 a.f__law_fates a.d__law_fates P__law_fates (sp__law_fates K a))
    (G__law_pull : FnOk P a.w K mg base CX0 1 a.f__law_pull a.d__law_pull P__law_pull (sp__law_pull K a))
    (G__law_right : FnOk P a.w K mg base CX0 1 a.f__law_right a.d__law_right P__law_right (sp__law_right K a))
    (G__law_rows : FnOk P a.w K mg base CX0 1 a.f__law_rows a.d__law_rows P__law_rows (sp__law_rows K a))
    (G__law_taken : FnOk P a.w K mg base CX0 2 a.f__law_taken a.d__law_taken P__law_taken (sp__law_taken K a))
    (G_cut : FnOk P a.w K mg base (L2.CX P a.w) 3 a.f_cut a.d_cut P_cut (sp_cut K a))
    (rd : RD (sp_law K a) (t_law K a) N_law) :
    FnOk P a.w K mg base CX0 4 a.f_law a.d_law P_law (sp_law K a) := by
  have nd := sc_law.nd
  refine T.F_law.ok sc_law (fun vs H Q E h => by first | (obtain ⟨rfl, _⟩ := h; rfl; done) | (obtain ⟨_, rfl, _⟩ := h; rfl; done) | (obtain ⟨_, _, rfl, _⟩ := h; rfl; done) | (obtain ⟨_, _, _, rfl, _⟩ := h; rfl; done) | (obtain ⟨_, _, _, _, rfl, _⟩ := h; rfl; done) | (obtain ⟨_, _, _, _, _, rfl, _⟩ := h; rfl; done) | (obtain ⟨_, _, _, _, _, _, rfl, _⟩ := h; rfl; done) | (obtain ⟨_, _, _, _, _, _, _, rfl, _⟩ := h; rfl; done) | (obtain ⟨_, _, _, _, _, _, _, _, rfl, _⟩ := h; rfl; done) | (obtain ⟨_, _, _, _, _, _, _, _, _, rfl, _⟩ := h; rfl; done) | (obtain ⟨_, _, _, _, _, _, _, _, _, _, rfl, _⟩ := h; rfl; done) | (obtain ⟨_, _, _, _, _, _, _, _, _, _, _, rfl, _⟩ := h; rfl; done) | (obtain ⟨_, _, _, _, _, _, _, _, _, _, _, _, rfl, _⟩ := h; rfl; done) | (obtain ⟨_, _, _, _, _, _, _, _, _, _, _, _, _, rfl, _⟩ := h; rfl; done) | (obtain ⟨_, _, _, _, _, _, _, _, _, _, _, _, _, _, rfl, _⟩ := h; rfl; done) | (rcases h with ⟨_, rfl, _⟩ | ⟨_, rfl, _⟩ <;> rfl; done) | (rcases h with ⟨_, rfl, _⟩ | ⟨_, _, rfl, _⟩ <;> rfl; done) | (rcases h with ⟨_, rfl, _⟩ | ⟨_, _, _, rfl, _⟩ <;> rfl; done) | (rcases h with ⟨_, rfl, _⟩ | ⟨_, _, _, _, rfl, _⟩ <;> rfl; done) | (rcases h with ⟨_, rfl, _⟩ | ⟨_, _, _, _, _, rfl, _⟩ <;> rfl; done) | (rcases h with ⟨_, rfl, _⟩ | ⟨_, _, _, _, _, _, rfl, _⟩ <;> rfl; done) | (rcases h with ⟨_, _, rfl, _⟩ | ⟨_, rfl, _⟩ <;> rfl; done) | (rcases h with ⟨_, _, rfl, _⟩ | ⟨_, _, rfl, _⟩ <;> rfl; done) | (rcases h with ⟨_, _, rfl, _⟩ | ⟨_, _, _, rfl, _⟩ <;> rfl; done) | (rcases h with ⟨_, _, rfl, _⟩ | ⟨_, _, _, _, rfl, _⟩ <;> rfl; done) | (rcases h with ⟨_, _, rfl, _⟩ | ⟨_, _, _, _, _, rfl, _⟩ <;> rfl; done) | (rcases h with ⟨_, _, rfl, _⟩ | ⟨_, _, _, _, _, _, rfl, _⟩ <;> rfl; done) | (rcases h with ⟨_, _, _, rfl, _⟩ | ⟨_, rfl, _⟩ <;> rfl; done) | (rcases h with ⟨_, _, _, rfl, _⟩ | ⟨_, _, rfl, _⟩ <;> rfl; done) | (rcases h with ⟨_, _, _, rfl, _⟩ | ⟨_, _, _, rfl, _⟩ <;> rfl; done) | (rcases h with ⟨_, _, _, rfl, _⟩ | ⟨_, _, _, _, rfl, _⟩ <;> rfl; done) | (rcases h with ⟨_, _, _, rfl, _⟩ | ⟨_, _, _, _, _, rfl, _⟩ <;> rfl; done) | (rcases h with ⟨_, _, _, rfl, _⟩ | ⟨_, _, _, _, _, _, rfl, _⟩ <;> rfl; done) | (rcases h with ⟨_, _, _, _, rfl, _⟩ | ⟨_, rfl, _⟩ <;> rfl; done) | (rcases h with ⟨_, _, _, _, rfl, _⟩ | ⟨_, _, rfl, _⟩ <;> rfl; done) | (rcases h with ⟨_, _, _, _, rfl, _⟩ | ⟨_, _, _, rfl, _⟩ <;> rfl; done) | (rcases h with ⟨_, _, _, _, rfl, _⟩ | ⟨_, _, _, _, rfl, _⟩ <;> rfl; done) | (rcases h with ⟨_, _, _, _, rfl, _⟩ | ⟨_, _, _, _, _, rfl, _⟩ <;> rfl; done) | (rcases h with ⟨_, _, _, _, rfl, _⟩ | ⟨_, _, _, _, _, _, rfl, _⟩ <;> rfl; done) | (rcases h with ⟨_, _, _, _, _, rfl, _⟩ | ⟨_, rfl, _⟩ <;> rfl; done) | (rcases h with ⟨_, _, _, _, _, rfl, _⟩ | ⟨_, _, rfl, _⟩ <;> rfl; done) | (rcases h with ⟨_, _, _, _, _, rfl, _⟩ | ⟨_, _, _, rfl, _⟩ <;> rfl; done) | (rcases h with ⟨_, _, _, _, _, rfl, _⟩ | ⟨_, _, _, _, rfl, _⟩ <;> rfl; done) | (rcases h with ⟨_, _, _, _, _, rfl, _⟩ | ⟨_, _, _, _, _, rfl, _⟩ <;> rfl; done) | (rcases h with ⟨_, _, _, _, _, rfl, _⟩ | ⟨_, _, _, _, _, _, rfl, _⟩ <;> rfl; done) | (rcases h with ⟨_, _, _, _, _, _, rfl, _⟩ | ⟨_, rfl, _⟩ <;> rfl; done) | (rcases h with ⟨_, _, _, _, _, _, rfl, _⟩ | ⟨_, _, rfl, _⟩ <;> rfl; done) | (rcases h with ⟨_, _, _, _, _, _, rfl, _⟩ | ⟨_, _, _, rfl, _⟩ <;> rfl; done) | (rcases h with ⟨_, _, _, _, _, _, rfl, _⟩ | ⟨_, _, _, _, rfl, _⟩ <;> rfl; done) | (rcases h with ⟨_, _, _, _, _, _, rfl, _⟩ | ⟨_, _, _, _, _, rfl, _⟩ <;> rfl; done) | (rcases h with ⟨_, _, _, _, _, _, rfl, _⟩ | ⟨_, _, _, _, _, _, rfl, _⟩ <;> rfl; done) | (rcases h with ⟨_, rfl, _⟩ | ⟨_, _, rfl, _⟩ <;> rfl) | (rcases h with ⟨_, rfl, _⟩ | ⟨_, rfl, _⟩ <;> rfl) | (rcases h with h | h | h <;> (first | (obtain ⟨rfl, _⟩ := h; rfl; done) | (obtain ⟨_, rfl, _⟩ := h; rfl; done) | (obtain ⟨_, _, rfl, _⟩ := h; rfl; done) | (obtain ⟨_, _, _, rfl, _⟩ := h; rfl; done) | (obtain ⟨_, _, _, _, rfl, _⟩ := h; rfl; done) | (obtain ⟨_, _, _, _, _, rfl, _⟩ := h; rfl; done) | (obtain ⟨_, _, _, _, _, _, rfl, _⟩ := h; rfl; done) | (obtain ⟨_, _, _, _, _, _, _, rfl, _⟩ := h; rfl; done) | (obtain ⟨_, _, _, _, _, _, _, _, rfl, _⟩ := h; rfl; done) | (obtain ⟨_, _, _, _, _, _, _, _, _, rfl, _⟩ := h; rfl; done) | (obtain ⟨_, _, _, _, _, _, _, _, _, _, rfl, _⟩ := h; rfl; done) | (obtain ⟨_, _, _, _, _, _, _, _, _, _, _, rfl, _⟩ := h; rfl; done) | (obtain ⟨_, _, _, _, _, _, _, _, _, _, _, _, rfl, _⟩ := h; rfl; done) | (obtain ⟨_, _, _, _, _, _, _, _, _, _, _, _, _, rfl, _⟩ := h; rfl; done) | (obtain ⟨_, _, _, _, _, _, _, _, _, _, _, _, _, _, rfl, _⟩ := h; rfl; done)))) (fun cdv A outer s H vs Q E hr h => ⟨t_law K a, ?_, rd vs H Q E h⟩)
  exact (pss_cons (ps_set (i := 1) nd rfl (by first | exact Or.inl rfl | exact Or.inr rfl) (pe_call G__law_bag (hr.mono (by decide)) rfl T.g__law_bag T.F__law_bag.kp T.b__law_bag .nil pass0 (pa_cons (pv 0) pa_nil)))
      (pss_cons (ps_set (i := 2) nd rfl (by first | exact Or.inl rfl | exact Or.inr rfl) (pe_op op_cat (pe_call G_cut (hr.mono (by decide)) rfl T.g_cut T.F_cut.kp T.b_cut .nil passL (pa_cons (pe_call G__law_bytes (hr.mono (by decide)) rfl T.g__law_bytes T.F__law_bytes.kp T.b__law_bytes .nil pass0 (pa_cons (pv 1) (pa_cons pe_int pa_nil))) (pa_cons pe_int pa_nil))) (pe_call G_cut (hr.mono (by decide)) rfl T.g_cut T.F_cut.kp T.b_cut .nil passL (pa_cons (pe_call G__law_bytes (hr.mono (by decide)) rfl T.g__law_bytes T.F__law_bytes.kp T.b__law_bytes .nil pass0 (pa_cons (pv 1) (pa_cons pe_int pa_nil))) (pa_cons pe_int pa_nil)))))
      (pss_cons (ps_for PassesOwn.never rfl (pi_list (pe_call G__law_rows (hr.mono (by decide)) rfl T.g__law_rows T.F__law_rows.kp T.b__law_rows .nil pass0 (pa_cons pe_int pa_nil))) (pg_name (i := 3) nd rfl (by first | exact Or.inl rfl | exact Or.inr rfl)) (pss_cons (ps_asg (pe_call G__law_taken (hr.mono (by decide)) rfl T.g__law_taken T.F__law_taken.kp T.b__law_taken .nil pass0 (pa_cons (pe_tup (pa_cons pe_int (pa_cons pe_bl (pa_cons (pe_callTy call_tuple_of (by rfl) T.n_tuple (by decide +kernel) (pa_cons (pv 2) pa_nil)) pa_nil)))) (pa_cons (pv 3) pa_nil))) (pg_tup rfl (pgs_cons (pg_name (i := 4) nd rfl (by first | exact Or.inl rfl | exact Or.inr rfl)) (pgs_cons (pg_name (i := 5) nd rfl (by first | exact Or.inl rfl | exact Or.inr rfl)) pgs_nil))))
      (pss_one (ps_if (pt_not (pt_val (pe_call G__law_right (hr.mono (by decide)) rfl T.g__law_right T.F__law_right.kp T.b__law_right .nil pass0 (pa_cons (pv 2) (pa_cons (pv 4) (pa_cons (pv 5) pa_nil)))))) (pss_one (ps_ret pe_bl)) pss_nil))))
      (pss_cons (ps_set (i := 2) nd rfl (by first | exact Or.inl rfl | exact Or.inr rfl) (pe_call G_cut (hr.mono (by decide)) rfl T.g_cut T.F_cut.kp T.b_cut .nil passL (pa_cons (pe_call G__law_bytes (hr.mono (by decide)) rfl T.g__law_bytes T.F__law_bytes.kp T.b__law_bytes .nil pass0 (pa_cons (pv 1) (pa_cons pe_int pa_nil))) (pa_cons pe_int pa_nil))))
      (pss_cons (ps_asg (pe_call G__law_taken (hr.mono (by decide)) rfl T.g__law_taken T.F__law_taken.kp T.b__law_taken .nil pass0 (pa_cons (pe_tup (pa_cons (pe_call G__law_pull (hr.mono (by decide)) rfl T.g__law_pull T.F__law_pull.kp T.b__law_pull .nil pass0 (pa_cons (pv 1) (pa_cons pe_int pa_nil))) (pa_cons pe_bl (pa_cons (pe_callTy call_tuple_of (by rfl) T.n_tuple (by decide +kernel) (pa_cons (pv 2) pa_nil)) pa_nil)))) (pa_cons (pe_call G__law_fates (hr.mono (by decide)) rfl T.g__law_fates T.F__law_fates.kp T.b__law_fates .nil pass0 (pa_cons (pv 1) (pa_cons pe_int pa_nil))) pa_nil))) (pg_tup rfl (pgs_cons (pg_name (i := 4) nd rfl (by first | exact Or.inl rfl | exact Or.inr rfl)) (pgs_cons (pg_name (i := 5) nd rfl (by first | exact Or.inl rfl | exact Or.inr rfl)) pgs_nil))))
      (pss_one (ps_ret (pe_call G__law_right (hr.mono (by decide)) rfl T.g__law_right T.F__law_right.kp T.b__law_right .nil pass0 (pa_cons (pv 2) (pa_cons (pv 4) (pa_cons (pv 5) pa_nil)))))))))))
theorem law_ok (T : Txt K mg a) : FnOk P a.w K mg base CX0 4 a.f_law a.d_law P_law (sp_law K a) := by
  have o_is_number := ok_is_number (P := P) (base := base) T  rd_is_number
  have o_need_number := ok_need_number (P := P) (base := base) T o_is_number rd_need_number
  have o_cut := ok_cut (P := P) (base := base) T o_need_number rd_cut
  have o_asked := ok_asked (P := P) (base := base) T  rd_asked
  have o_went := ok_went (P := P) (base := base) T  rd_went
  have o__law_bag := ok__law_bag (P := P) (base := base) T  rd__law_bag
  have o__law_pull := ok__law_pull (P := P) (base := base) T  rd__law_pull
  have o__law_bytes := ok__law_bytes (P := P) (base := base) T o__law_pull rd__law_bytes
  have o__law_fates := ok__law_fates (P := P) (base := base) T o__law_pull rd__law_fates
  have o__law_taken := ok__law_taken (P := P) (base := base) T o_asked o_went rd__law_taken
  have o__law_rows := ok__law_rows (P := P) (base := base) T  rd__law_rows
  have o__law_right := ok__law_right (P := P) (base := base) T  rd__law_right
  exact ok_law (P := P) (base := base) T o__law_bag o__law_bytes o__law_fates o__law_pull o__law_right o__law_rows o__law_taken o_cut rd_law
end
theorem all_mk {l : PySem.W.OpenLaw} {w : World} {K : PySem.W.Frag} {h : Heap} {mg : Str → Option Value} {fa : Addr} (X : K.In h) (G : h.Ns mainGlobals mg) (hfa : mg "law" = some (.ref fa))
    {f0 : Addr} {od0 an0 : Option Addr} {sl0 : Array (Option Value)} {oc0 kV0 dc0 pm0 cd0 ct0 : Value}
    (a0 : PySem.W.nsIn K mainGlobals "is_number" = some (some (.ref f0)))
    (l0 : K.lookup f0 = some ⟨oc0, od0, .func (PySem.W.fnOf "is_number" "is_number" (defArgs s_is_number) (defBody s_is_number) (defScope s_is_number) .none kV0 dc0 pm0 an0 cd0 ct0), sl0⟩)
    (c0 : PySem.W.codeIn K cd0 "is_number" = true)
    (k0 : PySem.W.keepIn K (.ref f0) = true)
    {f1 : Addr} {od1 an1 : Option Addr} {sl1 : Array (Option Value)} {oc1 kV1 dc1 pm1 cd1 ct1 : Value}
    (a1 : PySem.W.nsIn K mainGlobals "need_number" = some (some (.ref f1)))
    (l1 : K.lookup f1 = some ⟨oc1, od1, .func (PySem.W.fnOf "need_number" "need_number" (defArgs s_need_number) (defBody s_need_number) (defScope s_need_number) .none kV1 dc1 pm1 an1 cd1 ct1), sl1⟩)
    (c1 : PySem.W.codeIn K cd1 "need_number" = true)
    (k1 : PySem.W.keepIn K (.ref f1) = true)
    {f2 : Addr} {od2 an2 : Option Addr} {sl2 : Array (Option Value)} {oc2 kV2 dc2 pm2 cd2 ct2 : Value}
    (a2 : PySem.W.nsIn K mainGlobals "cut" = some (some (.ref f2)))
    (l2 : K.lookup f2 = some ⟨oc2, od2, .func (PySem.W.fnOf "cut" "cut" (defArgs s_cut) (defBody s_cut) (defScope s_cut) .none kV2 dc2 pm2 an2 cd2 ct2), sl2⟩)
    (c2 : PySem.W.codeIn K cd2 "cut" = true)
    (k2 : PySem.W.keepIn K (.ref f2) = true)
    {f3 : Addr} {od3 an3 : Option Addr} {sl3 : Array (Option Value)} {oc3 kV3 dc3 pm3 cd3 ct3 : Value}
    (a3 : PySem.W.nsIn K mainGlobals "asked" = some (some (.ref f3)))
    (l3 : K.lookup f3 = some ⟨oc3, od3, .func (PySem.W.fnOf "asked" "asked" (defArgs s_asked) (defBody s_asked) (defScope s_asked) .none kV3 dc3 pm3 an3 cd3 ct3), sl3⟩)
    (c3 : PySem.W.codeIn K cd3 "asked" = true)
    (k3 : PySem.W.keepIn K (.ref f3) = true)
    {f4 : Addr} {od4 an4 : Option Addr} {sl4 : Array (Option Value)} {oc4 kV4 dc4 pm4 cd4 ct4 : Value}
    (a4 : PySem.W.nsIn K mainGlobals "went" = some (some (.ref f4)))
    (l4 : K.lookup f4 = some ⟨oc4, od4, .func (PySem.W.fnOf "went" "went" (defArgs s_went) (defBody s_went) (defScope s_went) .none kV4 dc4 pm4 an4 cd4 ct4), sl4⟩)
    (c4 : PySem.W.codeIn K cd4 "went" = true)
    (k4 : PySem.W.keepIn K (.ref f4) = true)
    {f5 : Addr} {od5 an5 : Option Addr} {sl5 : Array (Option Value)} {oc5 kV5 dc5 pm5 cd5 ct5 : Value}
    (a5 : PySem.W.nsIn K mainGlobals "_law_bag" = some (some (.ref f5)))
    (l5 : K.lookup f5 = some ⟨oc5, od5, .func (PySem.W.fnOf "_law_bag" "_law_bag" (defArgs s__law_bag) (defBody s__law_bag) (defScope s__law_bag) .none kV5 dc5 pm5 an5 cd5 ct5), sl5⟩)
    (c5 : PySem.W.codeIn K cd5 "_law_bag" = true)
    (k5 : PySem.W.keepIn K (.ref f5) = true)
    {f6 : Addr} {od6 an6 : Option Addr} {sl6 : Array (Option Value)} {oc6 kV6 dc6 pm6 cd6 ct6 : Value}
    (a6 : PySem.W.nsIn K mainGlobals "_law_pull" = some (some (.ref f6)))
    (l6 : K.lookup f6 = some ⟨oc6, od6, .func (PySem.W.fnOf "_law_pull" "_law_pull" (defArgs s__law_pull) (defBody s__law_pull) (defScope s__law_pull) .none kV6 dc6 pm6 an6 cd6 ct6), sl6⟩)
    (c6 : PySem.W.codeIn K cd6 "_law_pull" = true)
    (k6 : PySem.W.keepIn K (.ref f6) = true)
    {f7 : Addr} {od7 an7 : Option Addr} {sl7 : Array (Option Value)} {oc7 kV7 dc7 pm7 cd7 ct7 : Value}
    (a7 : PySem.W.nsIn K mainGlobals "_law_bytes" = some (some (.ref f7)))
    (l7 : K.lookup f7 = some ⟨oc7, od7, .func (PySem.W.fnOf "_law_bytes" "_law_bytes" (defArgs s__law_bytes) (defBody s__law_bytes) (defScope s__law_bytes) .none kV7 dc7 pm7 an7 cd7 ct7), sl7⟩)
    (c7 : PySem.W.codeIn K cd7 "_law_bytes" = true)
    (k7 : PySem.W.keepIn K (.ref f7) = true)
    {f8 : Addr} {od8 an8 : Option Addr} {sl8 : Array (Option Value)} {oc8 kV8 dc8 pm8 cd8 ct8 : Value}
    (a8 : PySem.W.nsIn K mainGlobals "_law_fates" = some (some (.ref f8)))
    (l8 : K.lookup f8 = some ⟨oc8, od8, .func (PySem.W.fnOf "_law_fates" "_law_fates" (defArgs s__law_fates) (defBody s__law_fates) (defScope s__law_fates) .none kV8 dc8 pm8 an8 cd8 ct8), sl8⟩)
    (c8 : PySem.W.codeIn K cd8 "_law_fates" = true)
    (k8 : PySem.W.keepIn K (.ref f8) = true)
    {f9 : Addr} {od9 an9 : Option Addr} {sl9 : Array (Option Value)} {oc9 kV9 dc9 pm9 cd9 ct9 : Value}
    (a9 : PySem.W.nsIn K mainGlobals "_law_taken" = some (some (.ref f9)))
    (l9 : K.lookup f9 = some ⟨oc9, od9, .func (PySem.W.fnOf "_law_taken" "_law_taken" (defArgs s__law_taken) (defBody s__law_taken) (defScope s__law_taken) .none kV9 dc9 pm9 an9 cd9 ct9), sl9⟩)
    (c9 : PySem.W.codeIn K cd9 "_law_taken" = true)
    (k9 : PySem.W.keepIn K (.ref f9) = true)
    {f10 : Addr} {od10 an10 : Option Addr} {sl10 : Array (Option Value)} {oc10 kV10 dc10 pm10 cd10 ct10 : Value}
    (a10 : PySem.W.nsIn K mainGlobals "_law_rows" = some (some (.ref f10)))
    (l10 : K.lookup f10 = some ⟨oc10, od10, .func (PySem.W.fnOf "_law_rows" "_law_rows" (defArgs s__law_rows) (defBody s__law_rows) (defScope s__law_rows) .none kV10 dc10 pm10 an10 cd10 ct10), sl10⟩)
    (c10 : PySem.W.codeIn K cd10 "_law_rows" = true)
    (k10 : PySem.W.keepIn K (.ref f10) = true)
    {f11 : Addr} {od11 an11 : Option Addr} {sl11 : Array (Option Value)} {oc11 kV11 dc11 pm11 cd11 ct11 : Value}
    (a11 : PySem.W.nsIn K mainGlobals "_law_right" = some (some (.ref f11)))
    (l11 : K.lookup f11 = some ⟨oc11, od11, .func (PySem.W.fnOf "_law_right" "_law_right" (defArgs s__law_right) (defBody s__law_right) (defScope s__law_right) .none kV11 dc11 pm11 an11 cd11 ct11), sl11⟩)
    (c11 : PySem.W.codeIn K cd11 "_law_right" = true)
    (k11 : PySem.W.keepIn K (.ref f11) = true)
    {f12 : Addr} {od12 an12 : Option Addr} {sl12 : Array (Option Value)} {oc12 kV12 dc12 pm12 cd12 ct12 : Value}
    (a12 : PySem.W.nsIn K mainGlobals "law" = some (some (.ref f12)))
    (l12 : K.lookup f12 = some ⟨oc12, od12, .func (PySem.W.fnOf "law" "law" (defArgs s_law) (defBody s_law) (defScope s_law) .none kV12 dc12 pm12 an12 cd12 ct12), sl12⟩)
    (c12 : PySem.W.codeIn K cd12 "law" = true)
    (k12 : PySem.W.keepIn K (.ref f12) = true)
    {C_BusError : Addr}
    (aC_BusError : PySem.W.nsIn K mainGlobals "BusError" = some (some (.ref C_BusError)))
    {C_BadNumber : Addr}
    (aC_BadNumber : PySem.W.nsIn K mainGlobals "BadNumber" = some (some (.ref C_BadNumber)))
    (xC_BadNumber : PySem.W.excIn K C_BadNumber [.type "ValueError", .type "Exception", .type "BaseException", .type "object"] "ValueError.__new__" = true)
    (kC_BadNumber : PySem.W.keepIn K (.ref C_BadNumber) = true)
    (bC_BadNumber : PySem.W.subIn K (.ref C_BadNumber) (.type "BaseException") = some true)
    (tC_BadNumber : PySem.W.typeIn K (.ref C_BadNumber) = some (.type "type"))
    {tk_MOST_SIZE : Tok}
    (aK_MOST_SIZE : PySem.W.nsIn K mainGlobals "MOST_SIZE" = some (some (.int 64 tk_MOST_SIZE)))
    (z_int : PySem.W.nsIn K mainGlobals "int" = some none)
    (z_isinstance : PySem.W.nsIn K mainGlobals "isinstance" = some none)
    (z_len : PySem.W.nsIn K mainGlobals "len" = some none)
    (z_list : PySem.W.nsIn K mainGlobals "list" = some none)
    (z_range : PySem.W.nsIn K mainGlobals "range" = some none)
    (z_sum : PySem.W.nsIn K mainGlobals "sum" = some none)
    (z_tuple : PySem.W.nsIn K mainGlobals "tuple" = some none)
    : ∃ fd : FuncData, (∀ (s : Shared) (v : Value), BindsTo s fd ⟨[v], []⟩ [("_law_script", v)]) ∧ ∀ base : Heap, K.In base → base.Ns mainGlobals mg → FnOk l.prog w K mg base CX0 4 fa fd ["_law_script"] (spLaw K) := by
  have e := hfa.symm.trans (PySem.W.mg_of X G a12)
  cases e
  have F0 := fun_mk (st := s_is_number) l0 c0 k0
  have b0 := F0.binds (ps := ["value", "low", "high"]) fun _ _ _ _ _ _ us hl => match us, hl with | [_, _, _], _ => rfl
  have F1 := fun_mk (st := s_need_number) l1 c1 k1
  have b1 := F1.binds (ps := ["number", "low", "high"]) fun _ _ _ _ _ _ us hl => match us, hl with | [_, _, _], _ => rfl
  have F2 := fun_mk (st := s_cut) l2 c2 k2
  have b2 := F2.binds (ps := ["data", "size"]) fun _ _ _ _ _ _ us hl => match us, hl with | [_, _], _ => rfl
  have F3 := fun_mk (st := s_asked) l3 c3 k3
  have b3 := F3.binds (ps := ["half"]) fun _ _ _ _ _ _ us hl => match us, hl with | [_], _ => rfl
  have F4 := fun_mk (st := s_went) l4 c4 k4
  have b4 := F4.binds (ps := ["half"]) fun _ _ _ _ _ _ us hl => match us, hl with | [_], _ => rfl
  have F5 := fun_mk (st := s__law_bag) l5 c5 k5
  have b5 := F5.binds (ps := ["_law_script"]) fun _ _ _ _ _ _ us hl => match us, hl with | [_], _ => rfl
  have F6 := fun_mk (st := s__law_pull) l6 c6 k6
  have b6 := F6.binds (ps := ["_law_bag_here", "_law_upto"]) fun _ _ _ _ _ _ us hl => match us, hl with | [_, _], _ => rfl
  have F7 := fun_mk (st := s__law_bytes) l7 c7 k7
  have b7 := F7.binds (ps := ["_law_bag_here", "_law_most"]) fun _ _ _ _ _ _ us hl => match us, hl with | [_, _], _ => rfl
  have F8 := fun_mk (st := s__law_fates) l8 c8 k8
  have b8 := F8.binds (ps := ["_law_bag_here", "_law_many"]) fun _ _ _ _ _ _ us hl => match us, hl with | [_, _], _ => rfl
  have F9 := fun_mk (st := s__law_taken) l9 c9 k9
  have b9 := F9.binds (ps := ["_law_half", "_law_fates_here"]) fun _ _ _ _ _ _ us hl => match us, hl with | [_, _], _ => rfl
  have F10 := fun_mk (st := s__law_rows) l10 c10 k10
  have b10 := F10.binds (ps := ["_law_many"]) fun _ _ _ _ _ _ us hl => match us, hl with | [_], _ => rfl
  have F11 := fun_mk (st := s__law_right) l11 c11 k11
  have b11 := F11.binds (ps := ["_law_pieces", "_law_half", "_law_got"]) fun _ _ _ _ _ _ us hl => match us, hl with | [_, _, _], _ => rfl
  have F12 := fun_mk (st := s_law) l12 c12 k12
  have b12 := F12.binds (ps := ["_law_script"]) fun _ _ _ _ _ _ us hl => match us, hl with | [_], _ => rfl
  let a : Ad := { w := w, f_is_number := f0, d_is_number := (PySem.W.fnOf "is_number" "is_number" (defArgs s_is_number) (defBody s_is_number) (defScope s_is_number) .none kV0 dc0 pm0 an0 cd0 ct0), f_need_number := f1, d_need_number := (PySem.W.fnOf "need_number" "need_number" (defArgs s_need_number) (defBody s_need_number) (defScope s_need_number) .none kV1 dc1 pm1 an1 cd1 ct1), f_cut := f2, d_cut := (PySem.W.fnOf "cut" "cut" (defArgs s_cut) (defBody s_cut) (defScope s_cut) .none kV2 dc2 pm2 an2 cd2 ct2), f_asked := f3, d_asked := (PySem.W.fnOf "asked" "asked" (defArgs s_asked) (defBody s_asked) (defScope s_asked) .none kV3 dc3 pm3 an3 cd3 ct3), f_went := f4, d_went := (PySem.W.fnOf "went" "went" (defArgs s_went) (defBody s_went) (defScope s_went) .none kV4 dc4 pm4 an4 cd4 ct4), f__law_bag := f5, d__law_bag := (PySem.W.fnOf "_law_bag" "_law_bag" (defArgs s__law_bag) (defBody s__law_bag) (defScope s__law_bag) .none kV5 dc5 pm5 an5 cd5 ct5), f__law_pull := f6, d__law_pull := (PySem.W.fnOf "_law_pull" "_law_pull" (defArgs s__law_pull) (defBody s__law_pull) (defScope s__law_pull) .none kV6 dc6 pm6 an6 cd6 ct6), f__law_bytes := f7, d__law_bytes := (PySem.W.fnOf "_law_bytes" "_law_bytes" (defArgs s__law_bytes) (defBody s__law_bytes) (defScope s__law_bytes) .none kV7 dc7 pm7 an7 cd7 ct7), f__law_fates := f8, d__law_fates := (PySem.W.fnOf "_law_fates" "_law_fates" (defArgs s__law_fates) (defBody s__law_fates) (defScope s__law_fates) .none kV8 dc8 pm8 an8 cd8 ct8), f__law_taken := f9, d__law_taken := (PySem.W.fnOf "_law_taken" "_law_taken" (defArgs s__law_taken) (defBody s__law_taken) (defScope s__law_taken) .none kV9 dc9 pm9 an9 cd9 ct9), f__law_rows := f10, d__law_rows := (PySem.W.fnOf "_law_rows" "_law_rows" (defArgs s__law_rows) (defBody s__law_rows) (defScope s__law_rows) .none kV10 dc10 pm10 an10 cd10 ct10), f__law_right := f11, d__law_right := (PySem.W.fnOf "_law_right" "_law_right" (defArgs s__law_right) (defBody s__law_right) (defScope s__law_right) .none kV11 dc11 pm11 an11 cd11 ct11), f_law := fa, d_law := (PySem.W.fnOf "law" "law" (defArgs s_law) (defBody s_law) (defScope s_law) .none kV12 dc12 pm12 an12 cd12 ct12), c_BusError := C_BusError, c_BadNumber := C_BadNumber, k_MOST_SIZE := tk_MOST_SIZE }
  have T : Txt K mg a := { F_is_number := F0, g_is_number := PySem.W.mg_of X G a0, b_is_number := b0, F_need_number := F1, g_need_number := PySem.W.mg_of X G a1, b_need_number := b1, F_cut := F2, g_cut := PySem.W.mg_of X G a2, b_cut := b2, F_asked := F3, g_asked := PySem.W.mg_of X G a3, b_asked := b3, F_went := F4, g_went := PySem.W.mg_of X G a4, b_went := b4, F__law_bag := F5, g__law_bag := PySem.W.mg_of X G a5, b__law_bag := b5, F__law_pull := F6, g__law_pull := PySem.W.mg_of X G a6, b__law_pull := b6, F__law_bytes := F7, g__law_bytes := PySem.W.mg_of X G a7, b__law_bytes := b7, F__law_fates := F8, g__law_fates := PySem.W.mg_of X G a8, b__law_fates := b8, F__law_taken := F9, g__law_taken := PySem.W.mg_of X G a9, b__law_taken := b9, F__law_rows := F10, g__law_rows := PySem.W.mg_of X G a10, b__law_rows := b10, F__law_right := F11, g__law_right := PySem.W.mg_of X G a11, b__law_right := b11, F_law := F12, g_law := PySem.W.mg_of X G a12, b_law := b12, gC_BusError := PySem.W.mg_of X G aC_BusError, gC_BadNumber := PySem.W.mg_of X G aC_BadNumber, xC_BadNumber := xC_BadNumber, kC_BadNumber := kC_BadNumber, bC_BadNumber := bC_BadNumber, tC_BadNumber := tC_BadNumber, g_MOST_SIZE := PySem.W.mg_of X G aK_MOST_SIZE, n_int := PySem.W.mg_none_of X G z_int, n_isinstance := PySem.W.mg_none_of X G z_isinstance, n_len := PySem.W.mg_none_of X G z_len, n_list := PySem.W.mg_none_of X G z_list, n_range := PySem.W.mg_none_of X G z_range, n_sum := PySem.W.mg_none_of X G z_sum, n_tuple := PySem.W.mg_none_of X G z_tuple }
  exact ⟨_, fun s v => .of_eq rfl, fun base _ _ => law_ok T⟩
end My
open PySem PySem.W PyProof.Rows
set_option maxRecDepth 100000 in
set_option maxHeartbeats 0 in
theorem PySem.Challenge.cw_plugtree_k15_whole_each_piece_once_from_holds : PySem.Challenge.rw_plugtree_k15_whole_each_piece_once_from.Holds := by
  w_on; o_law; k_head; (case hw => w_witness2)
  k_fill
  refine L2.walk_of (l := PySem.Challenge.rw_plugtree_k15_whole_each_piece_once_from) (n := 63) (k := 4) (x := "_law_script") (CX := fun _ => L2.CX0) (sp := fun w => My.spLaw _) rfl (by decide) rfl ⟨rfl, by decide, by decide⟩ (fun w h Y => PySem.W.kIn_of Y) ?F (fun _ _ a ns hl _ hS => ⟨a, ns, rfl, hS, hl, fun _ => rfl⟩) (fun _ _ _ _ _ h => h)
  case F =>
    intro w mg fa h KX G hmg
    refine' My.all_mk KX G hmg ?a0 ?l0 ?c0 ?k0 ?a1 ?l1 ?c1 ?k1 ?a2 ?l2 ?c2 ?k2 ?a3 ?l3 ?c3 ?k3 ?a4 ?l4 ?c4 ?k4 ?a5 ?l5 ?c5 ?k5 ?a6 ?l6 ?c6 ?k6 ?a7 ?l7 ?c7 ?k7 ?a8 ?l8 ?c8 ?k8 ?a9 ?l9 ?c9 ?k9 ?a10 ?l10 ?c10 ?k10 ?a11 ?l11 ?c11 ?k11 ?a12 ?l12 ?c12 ?k12 ?aC_BusError ?aC_BadNumber ?xC_BadNumber ?kC_BadNumber ?bC_BadNumber ?tC_BadNumber ?aK_MOST_SIZE ?z_int ?z_isinstance ?z_len ?z_list ?z_range ?z_sum ?z_tuple
    (case a0 => k_is)
    (case l0 => k_is)
    (case c0 => k_is)
    (case k0 => k_is)
    (case a1 => k_is)
    (case l1 => k_is)
    (case c1 => k_is)
    (case k1 => k_is)
    (case a2 => k_is)
    (case l2 => k_is)
    (case c2 => k_is)
    (case k2 => k_is)
    (case a3 => k_is)
    (case l3 => k_is)
    (case c3 => k_is)
    (case k3 => k_is)
    (case a4 => k_is)
    (case l4 => k_is)
    (case c4 => k_is)
    (case k4 => k_is)
    (case a5 => k_is)
    (case l5 => k_is)
    (case c5 => k_is)
    (case k5 => k_is)
    (case a6 => k_is)
    (case l6 => k_is)
    (case c6 => k_is)
    (case k6 => k_is)
    (case a7 => k_is)
    (case l7 => k_is)
    (case c7 => k_is)
    (case k7 => k_is)
    (case a8 => k_is)
    (case l8 => k_is)
    (case c8 => k_is)
    (case k8 => k_is)
    (case a9 => k_is)
    (case l9 => k_is)
    (case c9 => k_is)
    (case k9 => k_is)
    (case a10 => k_is)
    (case l10 => k_is)
    (case c10 => k_is)
    (case k10 => k_is)
    (case a11 => k_is)
    (case l11 => k_is)
    (case c11 => k_is)
    (case k11 => k_is)
    (case a12 => k_is)
    (case l12 => k_is)
    (case c12 => k_is)
    (case k12 => k_is)
    (case aC_BusError => k_is)
    (case aC_BadNumber => k_is)
    (case xC_BadNumber => k_exc)
    (case kC_BadNumber => k_is)
    (case bC_BadNumber => k_is)
    (case tC_BadNumber => k_is)
    (case aK_MOST_SIZE => k_is)
    (case z_int => k_is)
    (case z_isinstance => k_is)
    (case z_len => k_is)
    (case z_list => k_is)
    (case z_range => k_is)
    (case z_sum => k_is)
    (case z_tuple => k_is)
