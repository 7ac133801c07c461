import PyProof.Rows.All
import Wide.All
import OpenK.AllK
import Wide.FinOn
import HandS.ForMost
import HandS.ForExc
import HandS.IsInst
import HandS.ExcIs
import HandS.Style
import HandS.TupAny
import HandS.TupMul
import HandS.Wide
import HandS.More
import HandS.WideBits
import KE.BitLaws
import KE.KExcSuper
import HandS.Exc
import HandS.ExcInit
import PyProof.FString
import HandS.Sort
import HandS.SetFor
import HandS.TupLe
import HandS.Strs
import PyProof.FString5
import KE.KSuperObj
import HandS.Iter
import KE.KExcIs
import PyProof.EnumMake
import HandS.Defaults
import HandS.MakeKw
import HandS.ExcValue
import HandS.Conv
import PySem.Challenge.RW_plugtree_k20_who_is_let_in
set_option Elab.async false
set_option maxRecDepth 100000
set_option maxHeartbeats 4000000
set_option linter.all false
namespace My
open PySem PySem.Spec PyProof.Rows L2

/-! ### readings by short names -/
abbrev rAddI : R2 := rI0 fun i j => .int (i + j)
abbrev rSubI : R2 := rI0 fun i j => .int (i - j)
abbrev rMulI : R2 := rI CMul fun i j => .int (i * j)
abbrev rModI : R2 := rI (fun _ j => 0 < j) fun i j => .int (i % j)
abbrev rDivW : R2 := rI CDivW fun i j => .int (i / j)
abbrev rPowI : R2 := rI CPow fun i j => .int (i ^ j.toNat)
abbrev rShlI : R2 := rI CPow fun i j => .int (i * 2 ^ j.toNat)
abbrev rShrI : R2 := rI (fun _ j => 0 ≤ j) fun i j => .int (i / 2 ^ j.toNat)
abbrev rAndI : R2 := rI0 fun i j => .int (Builtin.bitAnd i j)
abbrev rOrI : R2 := rI0 fun i j => .int (Builtin.bitOr i j)
abbrev rXorI : R2 := rI0 fun i j => .int (Builtin.bitXor i j)
abbrev rLtI : R2 := rI0 fun i j => .bl (decide (i < j))
abbrev rLeI : R2 := rI0 fun i j => .bl (decide (i ≤ j))
abbrev rGtI : R2 := rI0 fun i j => .bl (decide (j < i))
abbrev rGeI : R2 := rI0 fun i j => .bl (decide (j ≤ i))
abbrev rNegI : V → Hp → VK → Prop := rU fun i => .int (-i)
abbrev rIsN : R2 := fun x y H Q => y = .non ∧ Q (.bl (decide (x = .non))) H
abbrev rNotN : R2 := fun x y H Q => y = .non ∧ Q (.bl (!decide (x = .non))) H
abbrev rAddStr : R2 := fun x y H Q => ∃ i j, x = .str i ∧ y = .str j ∧ i.length + j.length ≤ sizeLine ∧ Q (.str (i ++ j)) H
abbrev rLenQ (K : PySem.W.Frag) : List V → Hp → VK → Prop := fun xs H Q => ∃ p ys, xs = [.ref p] ∧ (SqL K H p ys ∨ SqT K H p ys) ∧ Q (.int ys.length) H
abbrev rListOf (K : PySem.W.Frag) : List V → Hp → VK → Prop := fun xs H Q => ∃ p ys, xs = [.ref p] ∧ (SqL K H p ys ∨ SqT K H p ys) ∧ ∀ l, H l = none → Q (.ref l) (upd H l (.lst ys))
abbrev rTupleOf (K : PySem.W.Frag) : List V → Hp → VK → Prop := fun xs H Q => ∃ p ys, xs = [.ref p] ∧ ((SqL K H p ys ∧ ∀ l, H l = none → Q (.ref l) (upd H l (.tup ys))) ∨ (SqT K H p ys ∧ Q (.ref p) H))
abbrev rStrInt : List V → Hp → VK → Prop := fun xs H Q => ∃ i, xs = [.int i] ∧ i.natAbs.log2 < 1920 ∧ Q (.str (toString i)) H
def tRaiseC (C : Addr) (E : XK) : TS := fun _ _ H => E (.ref C) none H

/-! ### what stays -/
abbrev Ex (H H' : Hp) : Prop := Same H H'
theorem Ex.new {H : Hp} {p : Addr} {o : HO} (h : H p = none) : Ex H (upd H p o) := fun a u e => by
  rw [upd_ne (ne_of_none e h)]
  exact e
theorem Ex.mut {H H' : Hp} {p : Addr} {o : HO} (e : Ex H H') (h : H p = none) : Ex H (upd H' p o) := fun a u ha => by
  rw [upd_ne (ne_of_none ha h)]
  exact e a u ha
theorem Ex.sqL {K : PySem.W.Frag} {H H' : Hp} {a : Addr} {xs : List V} (e : Ex H H') (h : SqL K H a xs) : SqL K H' a xs := by
  rcases h with (h | ⟨o, h⟩) | h
  · exact .inl (.inl (e _ _ h))
  · exact .inl (.inr ⟨o, e _ _ h⟩)
  · exact .inr h
theorem Ex.sqT {K : PySem.W.Frag} {H H' : Hp} {a : Addr} {xs : List V} (e : Ex H H') (h : SqT K H a xs) : SqT K H' a xs := by
  rcases h with (h | ⟨o, h⟩) | h
  · exact .inl (.inl (e _ _ h))
  · exact .inl (.inr ⟨o, e _ _ h⟩)
  · exact .inr h
mutual
theorem Ex.dp {K : PySem.W.Frag} {H H' : Hp} (e : Ex H H') : ∀ (d : PyData) (v : V), Dp K H v d → Dp K H' v d
  | .none, _, h => by cases h; exact .non
  | .bool b, _, h => by cases h; exact .bl b
  | .int i, _, h => by cases h; exact .int i
  | .str x, _, h => by cases h; exact .str x
  | .list ds, _, h => by
    cases h with
    | lst hs ha => exact .lst (e.sqL hs) (Ex.dpAll e ds _ ha)
  | .tuple ds, _, h => by
    cases h with
    | tup hs ha => exact .tup (e.sqT hs) (Ex.dpAll e ds _ ha)
  | .dict _, _, h => by cases h
theorem Ex.dpAll {K : PySem.W.Frag} {H H' : Hp} (e : Ex H H') : ∀ (ds : List PyData) (vs : List V), DpAll K H vs ds → DpAll K H' vs ds
  | [], _, h => by cases h; exact .nil
  | d :: ds, _, h => by
    cases h with
    | cons h1 h2 => exact .cons (Ex.dp e d _ h1) (Ex.dpAll e ds _ h2)
end
theorem DpAll.len {K : PySem.W.Frag} {H : Hp} : ∀ {ds : List PyData} {vs : List V}, DpAll K H vs ds → vs.length = ds.length
  | [], _, h => by cases h; rfl
  | d :: ds, _, h => by
    cases h with
    | cons h1 h2 => rw [List.length_cons, List.length_cons, DpAll.len h2]
theorem DpAll.get {K : PySem.W.Frag} {H : Hp} : ∀ {ds : List PyData} {vs : List V} {i : Nat} {d : PyData}, DpAll K H vs ds → ds[i]? = some d → ∃ v, vs[i]? = some v ∧ Dp K H v d
  | [], _, i, d, h, e => by simp at e
  | x :: ds, _, 0, d, h, e => by
    cases h with
    | cons h1 h2 =>
      simp at e
      subst e
      exact ⟨_, rfl, h1⟩
  | x :: ds, _, i + 1, d, h, e => by
    cases h with
    | cons h1 h2 =>
      obtain ⟨v, e1, e2⟩ := DpAll.get (i := i) (d := d) h2 (by simpa using e)
      exact ⟨v, by simpa using e1, e2⟩
theorem DpAll.ints {K : PySem.W.Frag} {H : Hp} : ∀ ns : List Int, DpAll K H (ns.map V.int) (ns.map PyData.int)
  | [] => .nil
  | n :: ns => .cons (.int n) (DpAll.ints ns)
theorem Dp.ints {K : PySem.W.Frag} {H : Hp} {p : Addr} {ns : List Int} (h : SqL K H p (ns.map V.int)) : Dp K H (.ref p) (.list (ns.map PyData.int)) := .lst h (DpAll.ints ns)
theorem Dp.intsT {K : PySem.W.Frag} {H : Hp} {p : Addr} {ns : List Int} (h : SqT K H p (ns.map V.int)) : Dp K H (.ref p) (.tuple (ns.map PyData.int)) := .tup h (DpAll.ints ns)

/-! ### isinstance of data -/
def tyName : PyData → String
  | .none => "NoneType" | .bool _ => "bool" | .int _ => "int" | .str _ => "str" | .list _ => "list" | .tuple _ => "tuple" | .dict _ => "dict"
theorem Dp.ty {K : PySem.W.Frag} {H : Hp} {d : PyData} {v : V} (h : Dp K H v d) : TyX K H v (.type (tyName d)) := by
  cases h with
  | non => exact .base .non
  | bl b => exact .base (.bl b)
  | int i => exact .base (.int i)
  | str x => exact .base (.str x)
  | lst hs _ =>
    rcases hs with (e | ⟨o, e⟩) | ⟨o, its, n, e, c, _⟩
    · exact .base (.lst e)
    · exact .base (.frz e)
    · exact .kList e c
  | tup hs _ =>
    rcases hs with (e | ⟨o, e⟩) | ⟨o, its, n, e, c, _⟩
    · exact .base (.tup e)
    · exact .fTuple e
    · exact .kTuple e c
def isTypN (n T : String) : Bool := n == T || (n == "bool" && T == "int")
def isTyp (d : PyData) (T : String) : Bool := isTypN (tyName d) T
theorem kitNames : ∀ n ∈ ["NoneType", "int", "bool", "str", "list", "tuple"], ∀ T ∈ ["int", "bool", "str", "list", "tuple"], kitB n T = some (isTypN n T) := by decide +kernel
/-- isinstance(x, T), T one of the five -/
theorem isi {K : PySem.W.Frag} {H : Hp} {d : PyData} {v : V} {T : String} {Q : VK} (h : Dp K H v d) (hT : T ∈ ["int", "bool", "str", "list", "tuple"]) (q : Q (.bl (isTyp d T)) H) :
    rIsi K [v, .ty T] H Q := by
  refine ⟨v, .ty T, _, _, isTyp d T, rfl, .ty T, Dp.ty h, kit_ty (kitNames _ ?_ _ hT), q⟩
  cases h <;> simp [tyName]

/-! ### going on -/
theorem iteB {c : Bool} {A B : Prop} (h1 : c = true → A) (h2 : c = false → B) : if c = true then A else B := by
  cases c with
  | true => rw [if_pos rfl]; exact h1 rfl
  | false => rw [if_neg Bool.false_ne_true]; exact h2 rfl
theorem iteP {p : Prop} [Decidable p] {A B : Prop} (h1 : p → A) (h2 : ¬ p → B) : if decide p = true then A else B :=
  iteB (fun h => h1 (of_decide_eq_true h)) (fun h => h2 (of_decide_eq_false h))
theorem iteNP {p : Prop} [Decidable p] {A B : Prop} (h1 : ¬ p → A) (h2 : p → B) : if (!decide p) = true then A else B := by
  by_cases h : p
  · rw [decide_eq_true h]
    exact iteF (h2 h)
  · rw [decide_eq_false h]
    exact iteT (h1 h)
theorem cmulR {i j : Int} (h : -(2 ^ 64) < j ∧ j < 2 ^ 64) : CMul i j := .inr h
theorem cmulL {i j : Int} (h : -(2 ^ 64) < i ∧ i < 2 ^ 64) : CMul i j := .inl h
theorem cdivS {i j : Int} (h : 0 < j) (h2 : j < 2 ^ 1000) : CDivW i j := wide_div (b := 1000) h (by omega) (by decide) (by decide)
/-! ### loops -/
theorem forL {K : PySem.W.Frag} {tl : TE} {g : TG} {tb : TS} {D : Ends} {σ : L2.St} {H : Hp} {a : Addr} {xs : List V} (i : Nat) (Pv : Nat → L2.St → Hp → Prop) (ht : ∀ R : VK, R (.ref a) H → tl σ H R) (hS : SqL K H a xs) (h0 : Pv 0 σ H)
    (hl : ∀ j σ H, Pv j σ H → SqL K H a xs) (hs : ∀ j x σ H, xs[j]? = some x → Pv j σ H → tb { D with nx := Pv (j + 1), ct := Pv (j + 1), bk := D.nx } (σ.set i (some x)) H) (hd : ∀ σ H, Pv xs.length σ H → D.nx σ H)
    (hg : g = gName i := by rfl) : tFor (iList K tl) g tb D σ H := by
  subst hg
  exact ht _ ⟨a, rfl, ⟨xs, hS⟩, for_list (xs := xs) Pv h0 (fun j σ H _ p => hl j σ H p) (fun j x σ H e p => hs j x σ H e p) hd⟩
theorem forT {K : PySem.W.Frag} {tl : TE} {g : TG} {tb : TS} {D : Ends} {σ : L2.St} {H : Hp} {a : Addr} {xs : List V} (i : Nat) (Pv : Nat → L2.St → Hp → Prop) (ht : ∀ R : VK, R (.ref a) H → tl σ H R) (hS : SqT K H a xs) (h0 : Pv 0 σ H)
    (hl : ∀ j σ H, Pv j σ H → SqT K H a xs) (hs : ∀ j x σ H, xs[j]? = some x → Pv j σ H → tb { D with nx := Pv (j + 1), ct := Pv (j + 1), bk := D.nx } (σ.set i (some x)) H) (hd : ∀ σ H, Pv xs.length σ H → D.nx σ H)
    (hg : g = gName i := by rfl) : tFor (iTup K tl) g tb D σ H := by
  subst hg
  exact ht _ ⟨a, rfl, ⟨xs, hS⟩, for_tup (xs := xs) Pv h0 (fun j σ H _ p => hl j σ H p) (fun j x σ H e p => hs j x σ H e p) hd⟩
theorem forR {ta : TA} {g : TG} {tb : TS} {D : Ends} {σ : L2.St} {H : Hp} {n : Int} (i : Nat) (Pv : Nat → L2.St → Hp → Prop) (ht : ∀ R : List V → Hp → Prop, R [.int n] H → ta σ H R) (hn : n ≤ 2 ^ 60) (hn0 : -(2 ^ 60) ≤ n) (h0 : Pv 0 σ H)
    (hs : ∀ (j : Nat) σ H, (j : Int) < n → Pv j σ H → tb { D with nx := Pv (j + 1), ct := Pv (j + 1), bk := D.nx } (σ.set i (some (.int (j : Nat)))) H) (hd : ∀ σ H, Pv n.toNat σ H → D.nx σ H)
    (hg : g = gName i := by rfl) : tFor (iRng1 ta) g tb D σ H := by
  subst hg
  refine ht _ ⟨n, rfl, by omega, by omega, for_range (lo := 0) (n := n.toNat) Pv h0 (fun j σ H hj p => ?_) hd⟩
  have e : (0 : Int) + (j : Nat) = (j : Nat) := Int.zero_add _
  rw [e]
  exact hs j σ H (by omega) p
theorem forE {K : PySem.W.Frag} {ta : TA} {g : TG} {tb : TS} {D : Ends} {σ : L2.St} {H : Hp} {a : Addr} {xs : List V} (i1 i2 : Nat) (Pv : Nat → L2.St → Hp → Prop) (ht : ∀ R : List V → Hp → Prop, R [.ref a] H → ta σ H R) (hS : SqL K H a xs) (h0 : Pv 0 σ H)
    (hl : ∀ j σ H, Pv j σ H → SqL K H a xs) (hx : ∀ j σ H T o, Pv j σ H → H T = none → Pv j σ (upd H T o))
    (hs : ∀ j x σ H, xs[j]? = some x → Pv j σ H → tb { D with nx := Pv (j + 1), ct := Pv (j + 1), bk := D.nx } ((σ.set i1 (some (.int (j : Nat)))).set i2 (some x)) H) (hd : ∀ σ H, Pv xs.length σ H → D.nx σ H)
    (hg : g = gTup K 2 (gCons (gName i1) (gCons (gName i2) gNil)) := by rfl) : tFor (iEnum K ta) g tb D σ H := by
  subst hg
  refine ht _ ⟨a, xs, rfl, hS, fun i m σ H => m = xs.length - i ∧ i ≤ xs.length ∧ Pv i σ H, ⟨xs.length, by simp, Nat.zero_le _, h0⟩, ?_⟩
  rintro i m σ H ⟨rfl, hi, p⟩
  have q := hl i σ H p
  by_cases hlt : i < xs.length
  · refine .inr ⟨⟨xs, xs[i], q, by simp [hlt]⟩, Pv (i + 1), fun σ' H' p' => ⟨xs.length - (i + 1), by omega, rfl, hlt, p'⟩, fun x H' y => ?_⟩
    obtain ⟨T, x', rfl, hT, rfl, hq⟩ := y
    exact ⟨T, _, rfl, SqT.of upd_same, rfl, _, _, rfl, _, _, rfl, rfl, hs i x' σ _ (hq xs q) (hx i σ H T _ p hT)⟩
  · have e : i = xs.length := by omega
    subst e
    exact .inl ⟨⟨xs, q, Nat.le_refl _⟩, hd σ H p⟩
/-- what a comprehension makes: item by item -/
def Made (n : Nat) (P : Nat → V → Hp → Prop) (ys : List V) (H : Hp) : Prop := ys.length = n ∧ ∀ j, j < n → ∃ v, ys[j]? = some v ∧ P j v H
theorem Made.more {n : Nat} {P : Nat → V → Hp → Prop} {ys : List V} {H H' : Hp} {v : V} (h : Made n P ys H) (hP : ∀ j v, P j v H → P j v H') (hv : P n v H') : Made (n + 1) P (ys ++ [v]) H' := by
  obtain ⟨h1, h2⟩ := h
  refine ⟨by rw [List.length_append, h1]; rfl, fun j hj => ?_⟩
  by_cases e : j < n
  · obtain ⟨u, e1, e2⟩ := h2 j e
    exact ⟨u, by rw [List.getElem?_append_left (by omega)]; exact e1, hP _ _ e2⟩
  · have e' : j = n := by omega
    subst e'
    exact ⟨v, by rw [List.getElem?_append_right (by omega), h1, Nat.sub_self]; rfl, hv⟩
theorem Made.ints {n : Nat} {f : Nat → Int} {ys : List V} {H : Hp} (h : Made n (fun j v _ => v = .int (f j)) ys H) : ys = ((List.range n).map f).map V.int := by
  obtain ⟨h1, h2⟩ := h
  apply List.ext_getElem?
  intro j
  by_cases hj : j < n
  · obtain ⟨v, e1, e2⟩ := h2 j hj
    rw [e1, e2, List.map_map, List.getElem?_map, List.getElem?_range hj]
    rfl
  · rw [List.getElem?_eq_none (by omega), List.getElem?_eq_none (by simp; omega)]
theorem Made.bls {n : Nat} {f : Nat → Bool} {ys : List V} {H : Hp} (h : Made n (fun j v _ => v = .bl (f j)) ys H) : ys = ((List.range n).map f).map V.bl := by
  obtain ⟨h1, h2⟩ := h
  apply List.ext_getElem?
  intro j
  by_cases hj : j < n
  · obtain ⟨v, e1, e2⟩ := h2 j hj
    rw [e1, e2, List.map_map, List.getElem?_map, List.getElem?_range hj]
    rfl
  · rw [List.getElem?_eq_none (by omega), List.getElem?_eq_none (by simp; omega)]
theorem Made.all {K : PySem.W.Frag} {H : Hp} : ∀ {n : Nat} {ds : List PyData} {ys : List V}, Made n (fun j v H => ∃ d, ds[j]? = some d ∧ Dp K H v d) ys H → ds.length = n → DpAll K H ys ds
  | _, [], ys, h, e => by
    obtain ⟨h1, _⟩ := h
    have : ys = [] := List.length_eq_zero_iff.mp (by rw [h1, ← e]; rfl)
    subst this
    exact .nil
  | n, d :: ds, ys, h, e => by
    obtain ⟨h1, h2⟩ := h
    subst e
    cases ys with
    | nil => simp at h1
    | cons y ys =>
      obtain ⟨v, e1, d', e2, e3⟩ := h2 0 (by simp)
      simp at e1 e2
      subst e1 e2
      refine .cons e3 (Made.all (n := ds.length) ⟨by simpa using h1, fun j hj => ?_⟩ rfl)
      obtain ⟨v, e1, e2⟩ := h2 (j + 1) (by simp; omega)
      exact ⟨v, by simpa using e1, by simpa using e2⟩
/-! ### a heap without some objects -/
def wo (B : List Addr) (H : Hp) : Hp := fun b => if b ∈ B then none else H b
theorem wo_get {B : List Addr} {H : Hp} {b : Addr} (h : b ∉ B) : wo B H b = H b := if_neg h
theorem wo_nil {H : Hp} : wo [] H = H := funext fun _ => if_neg (List.not_mem_nil)
theorem wo_ex {B : List Addr} {H : Hp} : Ex (wo B H) H := fun b o h => by
  unfold wo at h
  split at h
  · cases h
  · exact h
theorem Ex.wo {B : List Addr} {H H' : Hp} (e : Ex H H') : Ex (wo B H) (wo B H') := fun b o h => by
  unfold My.wo at h ⊢
  split at h
  · cases h
  · rename_i z
    rw [if_neg z]
    exact e b o h
theorem Ex.woN {B : List Addr} {H H' : Hp} (e : Ex H H') (h : ∀ b, b ∈ B → H b = none) : Ex H (My.wo B H') := fun b o hb => by
  rw [wo_get (fun z => by rw [h b z] at hb; cases hb)]
  exact e b o hb
theorem wo_upd {B : List Addr} {H : Hp} {p : Addr} {o : HO} (h : p ∈ B) : wo B (upd H p o) = wo B H := funext fun b => by
  unfold wo
  split
  · rfl
  · rename_i z
    exact upd_ne fun e => z (e ▸ h)
theorem wo_wo {B C : List Addr} {H : Hp} : wo B (wo C H) = wo (C ++ B) H := funext fun b => by
  unfold wo
  by_cases h1 : b ∈ B <;> by_cases h2 : b ∈ C <;> simp [h1, h2]
theorem wo_mono {B C : List Addr} {H : Hp} (h : ∀ b, b ∈ C → b ∈ B) : Ex (wo B H) (wo C H) := fun b o hb => by
  unfold wo at hb ⊢
  split at hb
  · cases hb
  · rename_i z
    rw [if_neg fun q => z (h b q)]
    exact hb
theorem there_not {B : List Addr} {H : Hp} (h : ∀ b, b ∈ B → H b ≠ none) {p : Addr} (hp : H p = none) : p ∉ B := fun z => h p z hp
theorem Ex.there {H H' : Hp} (e : Ex H H') {b : Addr} (h : H b ≠ none) : H' b ≠ none := by
  cases q : H b with
  | none => exact absurd q h
  | some o =>
    rw [e b o q]
    exact fun z => by cases z
/-- [e for i in range(n)]: the new list at D; what an item is told of is not D -/
theorem lcR {ta : TA} {g : TG} {tt : TT} {te : TE} {vs : List Nat} {σ : L2.St} {H : Hp} {Q : VK} {n : Int} (i : Nat) (P : Nat → V → Hp → Prop) (ht : ∀ R : List V → Hp → Prop, R [.int n] H → ta σ H R) (hn0 : 0 ≤ n) (hn : n ≤ 100000)
    (hP : ∀ j v H H', Ex H H' → P j v H → P j v H')
    (hw : ∀ x, wipe ((wipe σ vs).set i (some x)) vs = wipe σ vs)
    (he : ∀ (j : Nat) D H1 (Q1 : VK), (j : Int) < n → H D = none → H1 D ≠ none → Ex H (wo [D] H1) → (∀ v H2, Ex H1 H2 → P j v (wo [D] H2) → Q1 v H2) → te ((wipe σ vs).set i (some (.int (j : Nat)))) H1 Q1)
    (k : ∀ D H' ys, H D = none → Ex H (wo [D] H') → H' D = some (.lst ys) → Made n.toNat P ys (wo [D] H') → Q (.ref D) H')
    (hg : g = gName i := by rfl) (htt : tt = tYes := by rfl) : tLc (iRng1 ta) g tt te vs σ H Q := by
  subst hg htt
  refine ht _ ⟨n, rfl, by omega, by omega, fun D hD => ?_⟩
  refine lc_range (lo := 0) (n := n.toNat) (fun j H' => Ex H (wo [D] H') ∧ ∃ ys, H' D = some (.lst ys) ∧ Made j P ys (wo [D] H')) ⟨?_, [], upd_same, rfl, fun j hj => absurd hj (Nat.not_lt_zero j)⟩ (fun j H' hj p => ?_) (fun H' p => ?_)
  · exact (Ex.new hD).woN fun b hb => by rw [List.mem_singleton.mp hb]; exact hD
  · obtain ⟨e, ys, hy, hm⟩ := p
    have e0 : (0 : Int) + (j : Nat) = (j : Nat) := Int.zero_add _
    rw [e0]
    refine ⟨hw _, ?_⟩
    simp only [tYes, if_true]
    refine he j D H' _ (by omega) hD (by rw [hy]; exact fun z => by cases z) e (fun v H2 e2 hv => ⟨ys, e2 _ _ hy, ?_, ?_, ys ++ [v], upd_same, ?_⟩)
    · rw [hm.1]
      exact Nat.lt_of_lt_of_le (show j < 100000 by omega) (by decide)
    · rw [wo_upd (List.mem_singleton.mpr rfl)]
      exact e.trans e2.wo
    · rw [wo_upd (List.mem_singleton.mpr rfl)]
      exact hm.more (fun j u hu => hP _ _ _ _ e2.wo hu) hv
  · obtain ⟨e, ys, hy, hm⟩ := p
    exact k D H' ys hD e hy hm
/-- [e for x in t], t a tuple -/
theorem lcT {K : PySem.W.Frag} {tl : TE} {g : TG} {tt : TT} {te : TE} {vs : List Nat} {σ : L2.St} {H : Hp} {Q : VK} {a : Addr} {xs : List V} (i : Nat) (P : Nat → V → Hp → Prop) (ht : ∀ R : VK, R (.ref a) H → tl σ H R) (hS : SqT K H a xs) (hn : xs.length ≤ 100000)
    (hP : ∀ j v H H', Ex H H' → P j v H → P j v H')
    (hw : ∀ x, wipe ((wipe σ vs).set i (some x)) vs = wipe σ vs)
    (he : ∀ (j : Nat) x D H1 (Q1 : VK), xs[j]? = some x → H D = none → H1 D ≠ none → Ex H (wo [D] H1) → (∀ v H2, Ex H1 H2 → P j v (wo [D] H2) → Q1 v H2) → te ((wipe σ vs).set i (some x)) H1 Q1)
    (k : ∀ D H' ys, H D = none → Ex H (wo [D] H') → H' D = some (.lst ys) → Made xs.length P ys (wo [D] H') → Q (.ref D) H')
    (hg : g = gName i := by rfl) (htt : tt = tYes := by rfl) : tLc (iTup K tl) g tt te vs σ H Q := by
  subst hg htt
  refine ht _ ⟨a, rfl, ⟨xs, hS⟩, fun D hD => ?_⟩
  refine lc_tup (xs := xs) (fun j H' => j ≤ xs.length ∧ Ex H (wo [D] H') ∧ ∃ ys, H' D = some (.lst ys) ∧ Made j P ys (wo [D] H')) ⟨Nat.zero_le _, ?_, [], upd_same, rfl, fun j hj => absurd hj (Nat.not_lt_zero j)⟩ (fun j H' _ p => ?_) (fun j x H' hx p => ?_) (fun H' p => ?_)
  · exact (Ex.new hD).woN fun b hb => by rw [List.mem_singleton.mp hb]; exact hD
  · exact Ex.sqT (Same.trans p.2.1 wo_ex) hS
  · obtain ⟨hj, e, ys, hy, hm⟩ := p
    have hjl : j < xs.length := (List.getElem?_eq_some_iff.mp hx).1
    refine ⟨hw _, ?_⟩
    simp only [tYes, if_true]
    refine he j x D H' _ hx hD (by rw [hy]; exact fun z => by cases z) e (fun v H2 e2 hv => ⟨ys, e2 _ _ hy, ?_, hjl, ?_, ys ++ [v], upd_same, ?_⟩)
    · rw [hm.1]
      exact Nat.lt_of_lt_of_le (show j < 100000 by omega) (by decide)
    · rw [wo_upd (List.mem_singleton.mpr rfl)]
      exact e.trans e2.wo
    · rw [wo_upd (List.mem_singleton.mpr rfl)]
      exact hm.more (fun j u hu => hP _ _ _ _ e2.wo hu) hv
  · obtain ⟨_, e, ys, hy, hm⟩ := p
    exact k D H' ys hD e hy hm
/-- [e for x in l], l a list; what tl makes on the way stands in H0 -/
theorem lcL {K : PySem.W.Frag} {tl : TE} {g : TG} {tt : TT} {te : TE} {vs : List Nat} {σ : L2.St} {H0 H : Hp} {Q : VK} {a : Addr} {xs : List V} (i : Nat) (P : Nat → V → Hp → Prop) (ht : ∀ R : VK, R (.ref a) H → tl σ H0 R) (hS : SqL K H a xs) (hn : xs.length ≤ 100000)
    (hP : ∀ j v H H', Ex H H' → P j v H → P j v H')
    (hw : ∀ x, wipe ((wipe σ vs).set i (some x)) vs = wipe σ vs)
    (he : ∀ (j : Nat) x D H1 (Q1 : VK), xs[j]? = some x → H D = none → H1 D ≠ none → Ex H (wo [D] H1) → (∀ v H2, Ex H1 H2 → P j v (wo [D] H2) → Q1 v H2) → te ((wipe σ vs).set i (some x)) H1 Q1)
    (k : ∀ D H' ys, H D = none → Ex H (wo [D] H') → H' D = some (.lst ys) → Made xs.length P ys (wo [D] H') → Q (.ref D) H')
    (hg : g = gName i := by rfl) (htt : tt = tYes := by rfl) : tLc (iList K tl) g tt te vs σ H0 Q := by
  subst hg htt
  refine ht _ ⟨a, rfl, ⟨xs, hS⟩, fun D hD => ?_⟩
  refine lc_list (xs := xs) (fun j H' => j ≤ xs.length ∧ Ex H (wo [D] H') ∧ ∃ ys, H' D = some (.lst ys) ∧ Made j P ys (wo [D] H')) ⟨Nat.zero_le _, ?_, [], upd_same, rfl, fun j hj => absurd hj (Nat.not_lt_zero j)⟩ (fun j H' _ p => ?_) (fun j x H' hx p => ?_) (fun H' p => ?_)
  · exact (Ex.new hD).woN fun b hb => by rw [List.mem_singleton.mp hb]; exact hD
  · exact Ex.sqL (Same.trans p.2.1 wo_ex) hS
  · obtain ⟨hj, e, ys, hy, hm⟩ := p
    have hjl : j < xs.length := (List.getElem?_eq_some_iff.mp hx).1
    refine ⟨hw _, ?_⟩
    simp only [tYes, if_true]
    refine he j x D H' _ hx hD (by rw [hy]; exact fun z => by cases z) e (fun v H2 e2 hv => ⟨ys, e2 _ _ hy, ?_, hjl, ?_, ys ++ [v], upd_same, ?_⟩)
    · rw [hm.1]
      exact Nat.lt_of_lt_of_le (show j < 100000 by omega) (by decide)
    · rw [wo_upd (List.mem_singleton.mpr rfl)]
      exact e.trans e2.wo
    · rw [wo_upd (List.mem_singleton.mpr rfl)]
      exact hm.more (fun j u hu => hP _ _ _ _ e2.wo hu) hv
  · obtain ⟨_, e, ys, hy, hm⟩ := p
    exact k D H' ys hD e hy hm
/-- [e for x in l], l a new list -/
theorem lcLN {K : PySem.W.Frag} {tl : TE} {g : TG} {tt : TT} {te : TE} {vs : List Nat} {σ : L2.St} {H0 : Hp} {Q : VK} {xs : List V} (i : Nat) (P : Nat → V → Hp → Prop) (ht : ∀ R : VK, (∀ a, H0 a = none → R (.ref a) (upd H0 a (.lst xs))) → tl σ H0 R) (hn : xs.length ≤ 100000)
    (hP : ∀ j v H H', Ex H H' → P j v H → P j v H')
    (hw : ∀ x, wipe ((wipe σ vs).set i (some x)) vs = wipe σ vs)
    (he : ∀ (j : Nat) x D H1 (Q1 : VK), xs[j]? = some x → H0 D = none → H1 D ≠ none → Ex H0 (wo [D] H1) → (∀ v H2, Ex H1 H2 → P j v (wo [D] H2) → Q1 v H2) → te ((wipe σ vs).set i (some x)) H1 Q1)
    (k : ∀ D H' ys, H0 D = none → Ex H0 (wo [D] H') → H' D = some (.lst ys) → Made xs.length P ys (wo [D] H') → Q (.ref D) H')
    (hg : g = gName i := by rfl) (htt : tt = tYes := by rfl) : tLc (iList K tl) g tt te vs σ H0 Q := by
  subst hg htt
  refine ht _ fun a ha => ⟨a, rfl, ⟨xs, SqL.of upd_same⟩, fun D hD => ?_⟩
  have hS : SqL K (upd H0 a (.lst xs)) a xs := SqL.of upd_same
  have eH : Ex H0 (upd H0 a (.lst xs)) := Ex.new ha
  have hD0 : H0 D = none := eH.free hD
  generalize upd H0 a (.lst xs) = H at hS hD eH
  refine lc_list (xs := xs) (fun j H' => j ≤ xs.length ∧ Ex H (wo [D] H') ∧ ∃ ys, H' D = some (.lst ys) ∧ Made j P ys (wo [D] H')) ⟨Nat.zero_le _, ?_, [], upd_same, rfl, fun j hj => absurd hj (Nat.not_lt_zero j)⟩ (fun j H' _ p => ?_) (fun j x H' hx p => ?_) (fun H' p => ?_)
  · exact (Ex.new hD).woN fun b hb => by rw [List.mem_singleton.mp hb]; exact hD
  · exact Ex.sqL (Same.trans p.2.1 wo_ex) hS
  · obtain ⟨hj, e, ys, hy, hm⟩ := p
    have hjl : j < xs.length := (List.getElem?_eq_some_iff.mp hx).1
    refine ⟨hw _, ?_⟩
    simp only [tYes, if_true]
    refine he j x D H' _ hx hD0 (by rw [hy]; exact fun z => by cases z) (eH.trans e) (fun v H2 e2 hv => ⟨ys, e2 _ _ hy, ?_, hjl, ?_, ys ++ [v], upd_same, ?_⟩)
    · rw [hm.1]
      exact Nat.lt_of_lt_of_le (show j < 100000 by omega) (by decide)
    · rw [wo_upd (List.mem_singleton.mpr rfl)]
      exact e.trans e2.wo
    · rw [wo_upd (List.mem_singleton.mpr rfl)]
      exact hm.more (fun j u hu => hP _ _ _ _ e2.wo hu) hv
  · obtain ⟨_, e, ys, hy, hm⟩ := p
    exact k D H' ys hD0 (eH.trans e) hy hm
theorem wo_off {H : Hp} {D : Addr} (h : H D = none) : wo [D] H = H := funext fun b => by
  unfold wo
  split
  · rename_i z
    rw [List.mem_singleton.mp z, h]
  · rfl
theorem wo_comm {B C : List Addr} {H : Hp} : wo B (wo C H) = wo C (wo B H) := funext fun b => by
  unfold wo
  by_cases h1 : b ∈ B <;> by_cases h2 : b ∈ C <;> simp [h1, h2]
/-- [e for i in range(n)], where e may change the objects of B; J is what holds of them -/
theorem lcRB {ta : TA} {g : TG} {tt : TT} {te : TE} {vs : List Nat} {σ : L2.St} {H : Hp} {Q : VK} {n : Int} (i : Nat) (B : List Addr) (J : Hp → Prop) (P : Nat → V → Hp → Prop) (ht : ∀ R : List V → Hp → Prop, R [.int n] H → ta σ H R) (hn0 : 0 ≤ n) (hn : n ≤ 100000)
    (hP : ∀ j v H H', Ex H H' → P j v H → P j v H')
    (hw : ∀ x, wipe ((wipe σ vs).set i (some x)) vs = wipe σ vs) (hJ : J H)
    (he : ∀ (j : Nat) D H1 (Q1 : VK), (j : Int) < n → H D = none → H1 D ≠ none → Ex (wo B H) (wo B (wo [D] H1)) → J (wo [D] H1) →
      (∀ v H2, H2 D = H1 D → Ex (wo B (wo [D] H1)) (wo B (wo [D] H2)) → J (wo [D] H2) → P j v (wo B (wo [D] H2)) → Q1 v H2) → te ((wipe σ vs).set i (some (.int (j : Nat)))) H1 Q1)
    (k : ∀ D H' ys, H D = none → Ex (wo B H) (wo B (wo [D] H')) → J (wo [D] H') → H' D = some (.lst ys) → Made n.toNat P ys (wo B (wo [D] H')) → Q (.ref D) H')
    (hg : g = gName i := by rfl) (htt : tt = tYes := by rfl) : tLc (iRng1 ta) g tt te vs σ H Q := by
  subst hg htt
  refine ht _ ⟨n, rfl, by omega, by omega, fun D hD => ?_⟩
  refine lc_range (lo := 0) (n := n.toNat) (fun j H' => Ex (wo B H) (wo B (wo [D] H')) ∧ J (wo [D] H') ∧ ∃ ys, H' D = some (.lst ys) ∧ Made j P ys (wo B (wo [D] H'))) ⟨?_, ?_, [], upd_same, rfl, fun j hj => absurd hj (Nat.not_lt_zero j)⟩ (fun j H' hj p => ?_) (fun H' p => ?_)
  · rw [wo_upd (List.mem_singleton.mpr rfl), wo_off hD]
    exact Same.refl _
  · rw [wo_upd (List.mem_singleton.mpr rfl), wo_off hD]
    exact hJ
  · obtain ⟨e, hj1, ys, hy, hm⟩ := p
    have e0 : (0 : Int) + (j : Nat) = (j : Nat) := Int.zero_add _
    rw [e0]
    refine ⟨hw _, ?_⟩
    simp only [tYes, if_true]
    refine he j D H' _ (by omega) hD (by rw [hy]; exact fun z => by cases z) e hj1 (fun v H2 hD2 e2 hj2 hv => ⟨ys, hD2.trans hy, ?_, ?_, ?_, ys ++ [v], upd_same, ?_⟩)
    · rw [hm.1]
      exact Nat.lt_of_lt_of_le (show j < 100000 by omega) (by decide)
    · rw [wo_upd (List.mem_singleton.mpr rfl)]
      exact e.trans e2
    · rw [wo_upd (List.mem_singleton.mpr rfl)]
      exact hj2
    · rw [wo_upd (List.mem_singleton.mpr rfl)]
      exact hm.more (fun j u hu => hP _ _ _ _ e2 hu) hv
  · obtain ⟨e, hj1, ys, hy, hm⟩ := p
    exact k D H' ys hD e hj1 hy hm
/-! ### isinstance of the exception that a suite holds -/
def rIsE2 (K : PySem.W.Frag) (D a : Addr) (cls : Value) (d : Option Addr) : List V → Hp → VK → Prop := fun xs H Q => cls = .ref D ∧ d = none ∧ rIsE K D a xs H Q
theorem call_isE2 {X : Cx} {a D : Addr} {oe : Obj} {pn : List (Addr × Obj)} {cls : Value} {d : Option Addr} (C : ExcC X.K D) (hz : Zc cls d oe) (hf : ∃ vs, oe.data = .fields vs) :
    CallR (X.suite a ((a, oe) :: pn)) (.builtin "isinstance") (rIsE2 X.K D a cls d) := by
  intro pins s σ H xs us Q I r h
  obtain ⟨rfl, rfl, h⟩ := h
  exact call_isE C hz hf pins s σ H xs us Q I r h
end My

namespace My
open PySem PySem.Spec PyProof.Rows L2
theorem tuple_mul1 (l : Addr) (items : Array Value) (n : Nat) (dd : Option Addr) (sl : Array (Option Value)) (u : Tok) :
    Meets (Builtin.«tuple.__mul__» ⟨[.ref l, .int 1 u], []⟩) (fun _ R s => s.heap.get? l = some { cls := .type "tuple", dict := dd, data := .seq items n, slots := sl } ∧ R (.ok (.ret (Value.ref l))) s) :=
  .of_wp fun prog w A R s h => by
    obtain ⟨hp, g, d, tk, os⟩ := s
    obtain ⟨hl, h⟩ := h
    have f1 := AutoSeq1.idx_int
    have c1 : (items.isEmpty || (1 : Int) == 1) = true := by simp
    wp_walk using wpAny_loadPart' hl
    repeat (first
      | (refine wpAny_ite_true (by rw [c1]) ?_; wp_walk using wpAny_loadPart' hl)
      | (refine wpAny_ite_true (decide_eq_true (by rw [c1])) ?_; wp_walk using wpAny_loadPart' hl))
    exact ⟨_, rfl, h⟩
theorem tuple_mul0 (l : Addr) (items : Array Value) (n : Nat) (dd : Option Addr) (sl : Array (Option Value)) (u : Tok) (hn : items.isEmpty = false) :
    Meets (Builtin.«tuple.__mul__» ⟨[.ref l, .int 0 u], []⟩) (fun _ R s => s.heap.get? l = some { cls := .type "tuple", dict := dd, data := .seq items n, slots := sl } ∧
      R (.ok (.ret (Value.ref s.heap.objs.size))) { s with heap := s.heap.push { cls := Value.type "tuple", data := Data.seq #[] }, toks := s.toks }) :=
  .of_wp fun prog w A R s h => by
    obtain ⟨hp, g, d, tk, os⟩ := s
    obtain ⟨hl, h⟩ := h
    have f1 := AutoSeq1.idx_int
    have c1 : (items.isEmpty || (0 : Int) == 1) = false := by rw [hn]; rfl
    wp_walk using wpAny_loadPart' hl
    exact ⟨_, rfl, h⟩
/-- t * k, k not below 0: once is t itself -/
def rRepT2 (K : PySem.W.Frag) : R2 := fun x y H Q => ∃ l k xs, x = .ref l ∧ y = .int k ∧ SqT K H l xs ∧ xs ≠ [] ∧ 0 ≤ k ∧ k ≤ 1000 ∧ xs.length ≤ 1000 ∧ (k = 1 → Q (.ref l) H) ∧ (k ≠ 1 → ∀ p, H p = none → Q (.ref p) (upd H p (.tup (List.replicate k.toNat xs).flatten)))
theorem op_repT2 {X : Cx} : OpR X (binaryOp .Mult) (rRepT2 X.K) := by
  intro pins s σ H x y v u Q I rx ry h
  obtain ⟨l, k, xs, rfl, rfl, hT, hne, h1, h2, hz, q1, q2⟩ := h
  by_cases k1 : k = 1
  · subst k1
    cases rx
    obtain ⟨t, rfl⟩ := ry
    obtain ⟨its, r, ⟨⟨cls, dd, data, sl⟩, ho, hc, n, hd⟩, hs⟩ := I.tuple hT
    simp only at hc hd
    subst hc hd
    exact wpAny_binaryOp_repeat_ref (T := "tuple") (U := "int") (by decide) ⟨_, ho, rfl⟩ (fun s' => typeIs_int s' 1 t) noFill_tuple_mul F.fills_int_mul F.slot_int_rmul repeat_tuple F.slot_int_index.lookup
      (call_meets F.slot_int_rmul (typeIs_int s 1 t) F.entry_int_rmul (F.args_int_rmul_2 _ _) (int_rmul_tuple 1 t l its.toArray n dd sl)
        ⟨ho, rfl, ⟨_, ho, rfl⟩, call_meets F.slot_tuple_mul ⟨_, ho, rfl⟩ F.entry_tuple_mul (F.args_tuple_mul_2 _ _) (tuple_mul1 l its.toArray n dd sl t) ⟨ho, ⟨.ref l, H, I, rfl, q1 rfl⟩⟩⟩)
  · by_cases k0 : k = 0
    · subst k0
      cases rx
      obtain ⟨t, rfl⟩ := ry
      obtain ⟨its, r, ⟨⟨cls, dd, data, sl⟩, ho, hc, n, hd⟩, hs⟩ := I.tuple hT
      simp only at hc hd
      subst hc hd
      have hi : its.toArray.isEmpty = false := by
        cases its with
        | nil =>
          cases r
          exact absurd rfl hne
        | cons a b => rfl
      exact wpAny_binaryOp_repeat_ref (T := "tuple") (U := "int") (by decide) ⟨_, ho, rfl⟩ (fun s' => typeIs_int s' 0 t) noFill_tuple_mul F.fills_int_mul F.slot_int_rmul repeat_tuple F.slot_int_index.lookup
        (call_meets F.slot_int_rmul (typeIs_int s 0 t) F.entry_int_rmul (F.args_int_rmul_2 _ _) (int_rmul_tuple 0 t l its.toArray n dd sl)
          ⟨ho, rfl, ⟨_, ho, rfl⟩, call_meets F.slot_tuple_mul ⟨_, ho, rfl⟩ F.entry_tuple_mul (F.args_tuple_mul_2 _ _) (tuple_mul0 l its.toArray n dd sl t hi)
            ⟨ho, ⟨.ref s.heap.objs.size, _, I.laid (t' := s.toks) (o := .tup []) (fun b ob q => Heap.get?_push_of_some _ q) (Nat.le_refl _) ⟨by show 0 ≤ sizeLine; decide, [], .nil, IsTup.new _ _⟩, rfl, q2 k1 _ (I.hok.fresh (Nat.le_refl _))⟩⟩⟩)
    · exact op_repT pins s σ H _ _ v u Q I rx ry ⟨l, k, xs, rfl, rfl, hT, hne, by omega, h2, hz, q2 k1⟩
/-! ### tuples and dicts of the written part -/
def TupObj (o : Obj) (xs : List V) : Prop := o.cls = .type "tuple" ∧ ∃ (its : Array Value) (n : Nat), o.data = .seq its n ∧ its.size ≤ sizeLine ∧ Vals xs its.toList
def KTup (K : PySem.W.Frag) (a : Addr) (xs : List V) : Prop := ∃ o, K.lookup a = some o ∧ TupObj o xs
theorem KTup.sq {K : PySem.W.Frag} {a : Addr} {xs : List V} (h : KTup K a xs) (H : Hp) : SqT K H a xs := by
  obtain ⟨o, h1, h2, its, n, h3, h4, h5⟩ := h
  exact .inr ⟨o, its, n, h1, h2, h3, h4, h5⟩
def KeyOrd : List DictEntry → List Str → Prop
  | [], [] => True
  | e :: r, x :: xs => (∃ t, e.key = .str x t) ∧ KeyOrd r xs
  | _, _ => False
theorem KeyOrd.get : ∀ {es : List DictEntry} {ks : List Str} {i : Nat} {x : Str}, KeyOrd es ks → ks[i]? = some x → ∃ e t, es[i]? = some e ∧ e.key = .str x t
  | [], [], i, x, _, h => by simp at h
  | e :: r, y :: ys, 0, x, h, q => by
    obtain ⟨⟨t, h1⟩, _⟩ := h
    have e1 : y = x := Option.some.inj q
    subst e1
    exact ⟨e, t, rfl, h1⟩
  | e :: r, y :: ys, i + 1, x, h, q => by
    obtain ⟨e', t, h1, h2⟩ := KeyOrd.get (es := r) (ks := ys) (i := i) (x := x) h.2 (by simpa using q)
    exact ⟨e', t, by simpa using h1, h2⟩
  | [], _ :: _, _, _, h, _ => h.elim
  | _ :: _, [], _, _, h, _ => h.elim
theorem KeyOrd.len : ∀ {es : List DictEntry} {ks : List Str}, KeyOrd es ks → es.length = ks.length
  | [], [], _ => rfl
  | e :: r, y :: ys, h => by rw [List.length_cons, List.length_cons, KeyOrd.len h.2]
  | [], _ :: _, h => h.elim
  | _ :: _, [], h => h.elim
structure KDt (K : PySem.W.Frag) (w : World) (d : Addr) (kvs : List (Str × Int)) : Prop where
  all : ∀ p ∈ kvs, KDct K w d p.1 (.int p.2)
  keys : ∃ es n, K.lookup d = some ⟨.type "dict", none, .dict es n, #[]⟩ ∧ (d == sysModules) = false ∧ KeyOrd es.toList (kvs.map (·.1))
/-- the keys of a written dict, in their order -/
def KKeys (K : PySem.W.Frag) (d : Addr) (ks : List Str) : Prop := ∃ es n, K.lookup d = some ⟨.type "dict", none, .dict es n, #[]⟩ ∧ (d == sysModules) = false ∧ KeyOrd es.toList ks
def Itkk (ks : List Str) : It := ⟨fun i _ => i < ks.length, fun i H x H' => H' = H ∧ ∃ k, ks[i]? = some k ∧ x = .str k, fun i _ => ks.length ≤ i⟩
theorem turn_kkeys {P : Program} {w : World} {K : PySem.W.Frag} {tg : Expr} {d : Addr} {ks : List Str} {es : Array DictEntry} {n : Nat} (it : Addr) (hl : K.lookup d = some ⟨.type "dict", none, .dict es n, #[]⟩) (ho : KeyOrd es.toList ks) :
    Turn P w K tg (Itkk ks) [it] it (fun i h => h.IsKeyIter it d i ks.length n) where
  mem := by simp
  obj := fun i h st b hb => by
    have e : b = it := by simpa using hb
    subst e
    obtain ⟨oi, e, c, dd⟩ := st
    exact ⟨oi, e, fun v z => by rw [dd] at z; cases z⟩
  keep := fun i h h' st k => st.at fun oi e => k it (by simp) oi e
  item := by
    intro X hP hw hK hc i pins s σ H E I hf st hg
    subst hP hw hK
    obtain ⟨f0, f1, f2, f3, f4, f5⟩ := hf it (by simp)
    have hgd := I.kIn _ _ hl
    have hks : ks[i]? = some ks[i] := List.getElem?_eq_getElem hg
    obtain ⟨en, t, hen, hkey⟩ := ho.get hks
    have hsz : es.size = ks.length := by
      have := ho.len
      simpa using this
    refine next_key_item st hgd rfl hsz (en := en) (by simpa using hen) fun h' st' sb => ?_
    have I1 : Inv X pins σ H { s with heap := h' } := I.turned (t' := s.toks) (fun b ob hb e => (sb.2 b hb).trans e) f0 f1 f3 f4 f5
    obtain ⟨oi, e, c, dd⟩ := id st'
    exact ⟨en.key, rfl, go_of (s := { s with heap := h' }) e c dd (by decide) ⟨.str ks[i], H, I1, ⟨t, hkey⟩, ⟨rfl, _, hks, rfl⟩, st', fun b hb => (hf b hb).1⟩⟩
  done := by
    intro X hP hw hK hc i pins s σ H E I hf st hg
    subst hP hw hK
    obtain ⟨f0, f1, f2, f3, f4, f5⟩ := hf it (by simp)
    have hgd := I.kIn _ _ hl
    have hsz : es.size = ks.length := by
      have := ho.len
      simpa using this
    exact next_key_end (I.ok.hd hc) st hgd rfl hsz hg fun h' eb => ⟨rfl, I.turned (t' := s.toks) (fun b ob hb e => eb b ob hb e) f0 f1 f3 f4 f5⟩
  self := fun A i s Q E st h => wpAny_pyIter_keyiter st h
def iKKeys (K : PySem.W.Frag) (td : TE) : TI := fun σ H R => td σ H fun x H1 => ∃ d ks, x = .ref d ∧ KKeys K d ks ∧ R (Itkk ks) H1
theorem pi_kkeys {X : Cx} {tg e : Expr} {td : TE} (he : PE X e td) : PI X tg e (iKKeys X.K td) := by
  refine ⟨fun pins s σ H R I h => ?_⟩
  refine thn (he.run pins s σ H _ I h) fun u s1 ⟨x, H1, I1, rx, d, ks, ex, ⟨es, n, hl, hd, ho⟩, q⟩ => ?_
  subst ex
  obtain rfl : u = Value.ref d := rx
  have hsz : es.size = ks.length := by
    have := ho.len
    simpa using this
  refine iter_keys hd (I1.kIn _ _ hl) ⟨rfl, rfl, rfl⟩ rfl (pi_one (tk := s1.toks) I1 _ (turn_kkeys _ hl ho) ⟨_, Heap.get?_push_size _ rfl, rfl, ?_⟩ q)
  rw [hsz]
  rfl
end My

namespace My
open PySem PySem.Spec PyProof.Rows L2
/-! ### the mathematics -/
def bitsL (n : Int) (m : Nat) : List Int := (List.range m).map fun i => n / 2 ^ i % 2
def numOf : List Int → Int
  | [] => 0
  | b :: r => b + 2 * numOf r
def highOf (l : List Int) : Int := l.foldl (fun f b => 2 * f + b) 0
def Bit (l : List Int) : Prop := ∀ b ∈ l, b = 0 ∨ b = 1
def okD : Nat → PyData → Prop
  | _, .none => True
  | _, .bool _ => True
  | _, .int _ => True
  | _, .str _ => True
  | 0, .list _ => False
  | 0, .tuple _ => False
  | n + 1, .list ds => ds.length ≤ 1000 ∧ ∀ d ∈ ds, okD n d
  | n + 1, .tuple ds => ds.length ≤ 1000 ∧ ∀ d ∈ ds, okD n d
  | _, .dict _ => False
/-- the bag of a law at p: the script (the list cs at c), a place, what is left of a number, a knot -/
def Bag (K : PySem.W.Frag) (c : Addr) (cs : List Int) (H : Hp) (p : Addr) : Prop := ∃ i s k : Int, H p = some (.lst [.ref c, .int i, .int s, .int k]) ∧ SqL K H c (cs.map V.int) ∧ cs.length ≤ 63 ∧ 0 ≤ i
def isNum (d : PyData) (lo hi : Int) : Bool := match d with
  | .int i => decide (lo ≤ i) && decide (i ≤ hi)
  | _ => false
def isInt (d : PyData) : Bool := match d with
  | .int _ => true
  | _ => false
def bitsOk (n m : Int) : Prop := 0 ≤ n ∧ 0 ≤ m ∧ m ≤ 64
/-! ### the mathematics, shown -/
theorem bitsL_len (n : Int) (m : Nat) : (bitsL n m).length = m := by simp [bitsL]
theorem bitsL_get {n : Int} {m j : Nat} (h : j < m) : (bitsL n m)[j]? = some (n / 2 ^ j % 2) := by
  simp [bitsL, h]
theorem bitsL_more (n : Int) (m : Nat) : bitsL n (m + 1) = bitsL n m ++ [n / 2 ^ m % 2] := by
  simp [bitsL, List.range_succ]
theorem bitsL_bit (n : Int) (m : Nat) : Bit (bitsL n m) := by
  intro b hb
  simp only [bitsL, List.mem_map] at hb
  obtain ⟨i, _, rfl⟩ := hb
  omega
theorem Bit.rev {l : List Int} (h : Bit l) : Bit l.reverse := fun b hb => h b (List.mem_reverse.mp hb)
theorem take_one {α : Type} : ∀ {l : List α} {i : Nat} {x : α}, l[i]? = some x → l.take (i + 1) = l.take i ++ [x]
  | [], i, x, h => by simp at h
  | a :: l, 0, x, h => by
    have e : a = x := Option.some.inj h
    subst e
    rfl
  | a :: l, i + 1, x, h => by
    have ih := take_one (l := l) (i := i) (x := x) h
    show a :: l.take (i + 1) = a :: l.take i ++ [x]
    rw [ih]
    rfl
theorem numOf_app : ∀ (l : List Int) (b : Int), numOf (l ++ [b]) = numOf l + b * 2 ^ l.length
  | [], b => by simp [numOf]
  | a :: l, b => by
    have ih := numOf_app l b
    show a + 2 * numOf (l ++ [b]) = a + 2 * numOf l + b * 2 ^ (l.length + 1)
    rw [ih, Int.pow_succ, Int.mul_add]
    have e : 2 * (b * 2 ^ l.length) = b * (2 ^ l.length * 2) := by
      rw [Int.mul_comm 2 (b * 2 ^ l.length), Int.mul_assoc]
    rw [e]
    omega
theorem numOf_take {l : List Int} {j : Nat} {b : Int} (h : l[j]? = some b) : numOf (l.take (j + 1)) = numOf (l.take j) + b * 2 ^ j := by
  have hl : j < l.length := (List.getElem?_eq_some_iff.mp h).1
  rw [take_one h, numOf_app, List.length_take, Nat.min_eq_left (by omega)]
theorem highOf_app (l : List Int) (b : Int) : highOf (l ++ [b]) = 2 * highOf l + b := by
  simp [highOf, List.foldl_append]
theorem highOf_rev : ∀ l : List Int, highOf l.reverse = numOf l
  | [] => rfl
  | b :: l => by
    rw [List.reverse_cons, highOf_app, highOf_rev l]
    show 2 * numOf l + b = b + 2 * numOf l
    omega
theorem highOf_num (l : List Int) : highOf l = numOf l.reverse := by
  have := highOf_rev l.reverse
  rw [List.reverse_reverse] at this
  exact this
theorem cutV_all {xs : List V} {k : Int} (h : (xs.length : Int) ≤ k) : cutV xs none (some k) = xs := by
  obtain ⟨n, rfl⟩ : ∃ n : Nat, k = n := ⟨k.toNat, by omega⟩
  unfold cutV
  rw [HT.sIx_none, HT.sIx_nat, List.drop_zero, Nat.min_eq_right (by omega), Nat.sub_zero, List.take_length]
theorem half_half (n : Int) (j : Nat) : n / 2 ^ j / 2 = n / 2 ^ (j + 1) := by
  rw [Int.pow_succ, Int.ediv_ediv_of_nonneg (Int.pow_nonneg (by decide))]
/-! ### bits of natural numbers -/
theorem xor_and_sum : ∀ (n a b : Nat), a < 2 ^ n → a + b = (a ^^^ b) + 2 * (a &&& b)
  | 0, a, b, h => by
    have : a = 0 := by simpa using h
    subst this
    simp
  | n + 1, a, b, h => by
    have ih := xor_and_sum n (a / 2) (b / 2) (by omega)
    have h1 : (a ^^^ b) / 2 = a / 2 ^^^ b / 2 := Nat.xor_div_two
    have h2 : (a &&& b) / 2 = a / 2 &&& b / 2 := Nat.and_div_two
    have h3 : (a ^^^ b) % 2 = 1 ↔ ¬ ((a % 2 = 1) ↔ (b % 2 = 1)) := Nat.xor_mod_two_eq_one
    have h4 : (a &&& b) % 2 = 1 ↔ (a % 2 = 1 ∧ b % 2 = 1) := Nat.and_mod_two_eq_one
    rw [← h1, ← h2] at ih
    generalize a ^^^ b = x at *
    generalize a &&& b = y at *
    omega
theorem bitAnd_nn (a b : Nat) : Builtin.bitAnd (a : Int) (b : Int) = ((a &&& b : Nat) : Int) := by
  unfold Builtin.bitAnd
  simp
theorem bitXor_nn (a b : Nat) : Builtin.bitXor (a : Int) (b : Int) = ((a ^^^ b : Nat) : Int) := by
  rw [bitXor_and, bitAnd_nn]
  have := xor_and_sum a a b Nat.lt_two_pow_self
  omega
def bit (b : Bool) : Int := if b then 1 else 0
theorem bit_inj {a b : Bool} : bit a = bit b ↔ a = b := by cases a <;> cases b <;> simp [bit]
theorem bit_one {a : Bool} : bit a = 1 ↔ a = true := by cases a <;> simp [bit]
theorem bit_xor (a b : Bool) : (bit a + bit b) % 2 = bit (a ^^ b) := by cases a <;> cases b <;> rfl
theorem bit_not (a : Bool) : 1 - bit a = bit (!a) := by cases a <;> rfl
theorem bit_of {x : Int} (h : x = 0 ∨ x = 1) : x = bit (decide (x = 1)) := by rcases h with rfl | rfl <;> rfl
theorem bit_01 (a : Bool) : bit a = 0 ∨ bit a = 1 := by cases a <;> simp [bit]
theorem highOf_bits : ∀ (w N : Nat), N < 2 ^ w → highOf ((List.range w).map fun t => bit (N.testBit (w - 1 - t))) = N
  | 0, N, h => by
    have : N = 0 := by simpa using h
    subst this
    rfl
  | w + 1, N, h => by
    rw [List.range_succ, List.map_append]
    show highOf (_ ++ [_]) = _
    rw [highOf_app]
    have e : ((List.range w).map fun t => bit (N.testBit (w + 1 - 1 - t))) = (List.range w).map fun t => bit ((N / 2).testBit (w - 1 - t)) := by
      apply List.map_congr_left
      intro t ht
      have := List.mem_range.mp ht
      rw [show w + 1 - 1 - t = (w - 1 - t) + 1 by omega, Nat.testBit_succ]
    rw [e, highOf_bits w (N / 2) (by omega)]
    show 2 * ((N / 2 : Nat) : Int) + bit (N.testBit (w + 1 - 1 - w)) = N
    rw [show w + 1 - 1 - w = 0 by omega, Nat.testBit_zero]
    by_cases c : N % 2 = 1
    · rw [decide_eq_true c]
      show 2 * ((N / 2 : Nat) : Int) + 1 = N
      omega
    · rw [decide_eq_false c]
      show 2 * ((N / 2 : Nat) : Int) + 0 = N
      omega
/-! ### the register -/
def crcStep (w m : Nat) (h : Nat) (b : Int) : Nat := if (bit (h.testBit (w - 1))) ≠ b then ((2 * h) % 2 ^ w) ^^^ m else (2 * h) % 2 ^ w
def crcHeld (w m : Nat) (l : List Int) : Nat := l.foldl (crcStep w m) (2 ^ w - 1)
def crc (w m : Nat) (l : List Int) : Nat := crcHeld w m l ^^^ (2 ^ w - 1)
theorem crcStep_lt {w m h : Nat} {b : Int} (hm : m < 2 ^ w) : crcStep w m h b < 2 ^ w := by
  have h1 : (2 * h) % 2 ^ w < 2 ^ w := Nat.mod_lt _ (Nat.two_pow_pos w)
  unfold crcStep
  split
  · exact Nat.xor_lt_two_pow h1 hm
  · exact h1
theorem crcHeld_app (w m : Nat) (l : List Int) (b : Int) : crcHeld w m (l ++ [b]) = crcStep w m (crcHeld w m l) b := by
  unfold crcHeld
  rw [List.foldl_append]
  rfl
theorem foldl_lt {w m : Nat} (hm : m < 2 ^ w) : ∀ (l : List Int) (h : Nat), h < 2 ^ w → l.foldl (crcStep w m) h < 2 ^ w
  | [], h, hh => hh
  | b :: l, h, _ => foldl_lt hm l _ (crcStep_lt hm)
theorem crcHeld_lt {w m : Nat} (hm : m < 2 ^ w) (l : List Int) : crcHeld w m l < 2 ^ w := foldl_lt hm l _ (Nat.sub_lt (Nat.two_pow_pos w) (by decide))
theorem crc_lt {w m : Nat} (hm : m < 2 ^ w) (l : List Int) : crc w m l < 2 ^ w := Nat.xor_lt_two_pow (crcHeld_lt hm l) (Nat.sub_lt (Nat.two_pow_pos w) (by decide))
theorem top_bit {w h : Nat} (hw : 1 ≤ w) (hh : h < 2 ^ w) : ((h / 2 ^ (w - 1) : Nat) : Int) = bit (h.testBit (w - 1)) := by
  have h2 : h / 2 ^ (w - 1) < 2 := by
    rw [Nat.div_lt_iff_lt_mul (Nat.two_pow_pos _)]
    have : 2 ^ w = 2 * 2 ^ (w - 1) := by
      rw [← Nat.pow_succ']
      congr 1
      omega
    omega
  rw [Nat.testBit_eq_decide_div_mod_eq]
  have : h / 2 ^ (w - 1) = 0 ∨ h / 2 ^ (w - 1) = 1 := by
    generalize h / 2 ^ (w - 1) = x at *
    omega
  rcases this with e | e <;> rw [e] <;> rfl
/-! ### the long division -/
def mnum (ms : List Int) : Nat := (highOf ms).toNat
def rowb (l : List Int) (j : Nat) : Bool := decide (l.getD j 0 = 1)
/-- what stands at j when i places are divided away -/
def ex (w m : Nat) (l : List Int) (i j : Nat) : Bool := rowb l j ^^ (decide (j < i + w) && (crcHeld w m (l.take i)).testBit (w - 1 - (j - i)))
theorem ex_step {w m : Nat} {l : List Int} {i j : Nat} (hl : Bit l) (hw : 1 ≤ w) (hi : i < l.length) (hj : i + 1 ≤ j) :
    ex w m l (i + 1) j = (ex w m l i j ^^ (ex w m l i i && (decide (j ≤ i + w) && m.testBit (w - (j - i))))) := by
  have hb : l[i]? = some l[i] := List.getElem?_eq_getElem hi
  have ht : l.take (i + 1) = l.take i ++ [l[i]] := take_one hb
  have h01 := hl l[i] (List.getElem_mem hi)
  unfold ex
  rw [ht, crcHeld_app]
  generalize crcHeld w m (l.take i) = h
  have ri : rowb l i = decide (l[i] = 1) := by
    unfold rowb
    rw [List.getD_eq_getElem?_getD, hb]
    rfl
  rw [ri]
  generalize rowb l j = rj
  generalize l[i] = b at h01
  have cond : (bit (h.testBit (w - 1)) ≠ b) ↔ (decide (b = 1) ^^ (decide (i < i + w) && h.testBit (w - 1 - (i - i)))) = true := by
    rw [decide_eq_true (show i < i + w by omega), Nat.sub_self, Nat.sub_zero, Bool.true_and]
    generalize h.testBit (w - 1) = x
    rcases h01 with rfl | rfl <;> cases x <;> simp [bit]
  have stp : ∀ k, k < w → (crcStep w m h b).testBit k = ((decide (k ≠ 0) && h.testBit (k - 1)) ^^ ((decide (b = 1) ^^ (decide (i < i + w) && h.testBit (w - 1 - (i - i)))) && m.testBit k)) := by
    intro k hk
    have h2 : ((2 * h) % 2 ^ w).testBit k = (decide (k ≠ 0) && h.testBit (k - 1)) := by
      rw [Nat.testBit_mod_two_pow, decide_eq_true hk, Bool.true_and]
      cases k with
      | zero => simp
      | succ k => rw [Nat.testBit_succ, Nat.mul_div_cancel_left _ (by decide)]; simp
    unfold crcStep
    by_cases c : bit (h.testBit (w - 1)) ≠ b
    · rw [if_pos c, cond.mp c, Nat.testBit_xor, h2, Bool.true_and]
    · have c2 := Bool.eq_false_iff.mpr (fun z => c (cond.mpr z))
      rw [if_neg c, c2, h2, Bool.false_and, Bool.xor_false]
  by_cases c1 : j < i + w
  · rw [decide_eq_true (show j < i + 1 + w by omega), decide_eq_true c1, decide_eq_true (show j ≤ i + w by omega), Bool.true_and, Bool.true_and, Bool.true_and, stp _ (by omega)]
    rw [show w - 1 - (j - (i + 1)) = w - (j - i) by omega, decide_eq_true (show w - (j - i) ≠ 0 by omega), Bool.true_and, show w - (j - i) - 1 = w - 1 - (j - i) by omega, Bool.xor_assoc]
  · by_cases c2 : j = i + w
    · rw [decide_eq_true (show j < i + 1 + w by omega), decide_eq_false c1, decide_eq_true (show j ≤ i + w by omega), Bool.true_and, Bool.false_and, Bool.true_and, Bool.xor_false, stp _ (by omega)]
      rw [show w - 1 - (j - (i + 1)) = 0 by omega, show w - (j - i) = 0 by omega]
      simp
    · rw [decide_eq_false (show ¬ j < i + 1 + w by omega), decide_eq_false c1, decide_eq_false (show ¬ j ≤ i + w by omega)]
      simp
theorem ex_start {w m : Nat} {l : List Int} {j : Nat} (hw : 1 ≤ w) : ex w m l 0 j = (rowb l j ^^ decide (j < w)) := by
  unfold ex crcHeld
  rw [List.take_zero, List.foldl_nil, Nat.testBit_two_pow_sub_one, Nat.sub_zero, Nat.zero_add, decide_eq_true (show w - 1 - j < w by omega), Bool.and_true]
theorem ex_end {w m : Nat} {l : List Int} {t : Nat} (ht : t < w) : (!(ex w m l l.length (l.length + t))) = (crc w m l).testBit (w - 1 - t) := by
  unfold ex crc
  rw [List.take_length, Nat.testBit_xor, Nat.testBit_two_pow_sub_one, decide_eq_true (show w - 1 - t < w by omega), Bool.xor_true, Nat.add_sub_cancel_left, decide_eq_true (show l.length + t < l.length + w by omega), Bool.true_and]
  have : rowb l (l.length + t) = false := by
    unfold rowb
    rw [List.getD_eq_getElem?_getD, List.getElem?_eq_none (by omega)]
    rfl
  rw [this, Bool.false_xor]
/-! ### the bag -/
theorem bag_ne {K : PySem.W.Frag} {H : Hp} {p c : Addr} {cs : List Int} {ys : List V} (h : H p = some (.lst (.ref c :: ys))) (hS : SqL K H c (cs.map V.int)) : (∀ o, SqL K (upd H p o) c (cs.map V.int)) := fun o => by
  rcases hS with (e | ⟨ob, e⟩) | e
  · refine .inl (.inl ?_)
    rw [upd_ne]
    · exact e
    · intro z
      subst z
      rw [h] at e
      cases cs <;> simp at e
  · refine .inl (.inr ⟨ob, ?_⟩)
    rw [upd_ne]
    · exact e
    · intro z
      subst z
      rw [h] at e
      cases e
  · exact .inr e
theorem upd_off {H : Hp} {p : Addr} {o : HO} : ∀ b, b ≠ p → upd H p o b = H b := fun b h => upd_ne h
theorem bag_mk {K : PySem.W.Frag} {H : Hp} {p c : Addr} {cs : List Int} {i s k i' s' k' : Int} (h : H p = some (.lst [.ref c, .int i, .int s, .int k])) (hS : SqL K H c (cs.map V.int)) (hl : cs.length ≤ 63) (h0 : 0 ≤ i') :
    Bag K c cs (upd H p (.lst [.ref c, .int i', .int s', .int k'])) p := ⟨i', s', k', upd_same, bag_ne h hS _, hl, h0⟩
theorem Bag.mono {K : PySem.W.Frag} {H H' : Hp} {B c : Addr} {cs : List Int} (b : Bag K c cs H B) (e : Ex H H') : Bag K c cs H' B := by
  obtain ⟨i, s, k, h1, h2, h3, h4⟩ := b
  exact ⟨i, s, k, e _ _ h1, e.sqL h2, h3, h4⟩
theorem Bag.there {K : PySem.W.Frag} {H : Hp} {B c : Addr} {cs : List Int} (b : Bag K c cs H B) : H B ≠ none := by
  obtain ⟨i, s, k, h1, h2, h3, h4⟩ := b
  rw [h1]
  exact fun z => nomatch z
/-- the bag turned, all else as it was: so too without an object -/
theorem Bag.turned {K : PySem.W.Frag} {H H' : Hp} {B D c : Addr} {cs : List Int} (b : Bag K c cs (wo [D] H) B) (b' : Bag K c cs H' B) (off : ∀ x, x ≠ B → H' x = H x) : Bag K c cs (wo [D] H') B := by
  obtain ⟨i, s, k, h1, h2, h3, h4⟩ := b
  obtain ⟨i', s', k', h1', _, _, h4'⟩ := b'
  have nD : B ∉ [D] := fun z => by
    unfold wo at h1
    rw [if_pos z] at h1
    cases h1
  refine ⟨i', s', k', by rw [wo_get nD]; exact h1', ?_, h3, h4'⟩
  have o2 : ∀ x, x ≠ B → wo [D] H' x = wo [D] H x := fun x hx => by
    unfold wo
    split
    · rfl
    · exact off x hx
  rcases h2 with (e | ⟨ob, e⟩) | e
  · refine .inl (.inl ?_)
    rw [o2]
    · exact e
    · intro z
      subst z
      rw [h1] at e
      cases cs <;> simp at e
  · refine .inl (.inr ⟨ob, ?_⟩)
    rw [o2]
    · exact e
    · intro z
      subst z
      rw [h1] at e
      cases e
  · exact .inr e
theorem off_wo {B : Addr} {H H' : Hp} (off : ∀ x, x ≠ B → H' x = H x) : Ex (wo [B] H) (wo [B] H') := fun b o h => by
  unfold wo at h ⊢
  split at h
  · cases h
  · rename_i z
    rw [if_neg z, off b (fun e => z (by rw [e]; exact List.mem_singleton.mpr rfl))]
    exact h
theorem atI_ints {ns : List Int} {i : Int} (h0 : 0 ≤ i) (h1 : i < ns.length) : ∃ x, x ∈ ns ∧ atI (ns.map V.int) i = some (.int x) := by
  refine ⟨ns[i.toNat]'(by omega), List.getElem_mem _, ?_⟩
  refine at_of (j := i.toNat) (by omega) ?_
  rw [List.getElem?_map, List.getElem?_eq_getElem (by omega)]
  rfl
theorem okD_len {n : Nat} {ds : List PyData} : okD n (.list ds) → ds.length ≤ 1000 ∧ ∃ k, n = k + 1 ∧ ∀ d ∈ ds, okD k d := by
  intro h
  cases n with
  | zero => exact h.elim
  | succ k => exact ⟨h.1, k, rfl, h.2⟩
theorem okD_lenT {n : Nat} {ds : List PyData} : okD n (.tuple ds) → ds.length ≤ 1000 ∧ ∃ k, n = k + 1 ∧ ∀ d ∈ ds, okD k d := by
  intro h
  cases n with
  | zero => exact h.elim
  | succ k => exact ⟨h.1, k, rfl, h.2⟩
theorem all_true (n : Nat) : ((List.range n).map fun _ => true).all id = true := by
  rw [List.all_eq_true]
  intro b hb
  obtain ⟨_, _, rfl⟩ := List.mem_map.mp hb
  rfl
theorem tyS : (∀ b, isTyp (.bool b) "bool" = true) ∧ (∀ b, isTyp (.bool b) "int" = true) ∧ (∀ i, isTyp (.int i) "bool" = false) ∧ (∀ i, isTyp (.int i) "int" = true) ∧ (∀ x, isTyp (.str x) "bool" = false) ∧ (∀ x, isTyp (.str x) "int" = false) ∧ (∀ x, isTyp (.str x) "str" = true) :=
  ⟨fun _ => by show isTypN _ _ = _; simp only [tyName]; decide, fun _ => by show isTypN _ _ = _; simp only [tyName]; decide, fun _ => by show isTypN _ _ = _; simp only [tyName]; decide, fun _ => by show isTypN _ _ = _; simp only [tyName]; decide, fun _ => by show isTypN _ _ = _; simp only [tyName]; decide, fun _ => by show isTypN _ _ = _; simp only [tyName]; decide, fun _ => by show isTypN _ _ = _; simp only [tyName]; decide⟩
theorem tyL (ds : List PyData) : isTyp (.list ds) "bool" = false ∧ isTyp (.list ds) "int" = false ∧ isTyp (.list ds) "str" = false ∧ isTyp (.list ds) "list" = true ∧ isTyp (.list ds) "tuple" = false := by
  refine ⟨?_, ?_, ?_, ?_, ?_⟩ <;> (show isTypN _ _ = _; simp only [tyName]; decide)
theorem tyT (ds : List PyData) : isTyp (.tuple ds) "bool" = false ∧ isTyp (.tuple ds) "int" = false ∧ isTyp (.tuple ds) "str" = false ∧ isTyp (.tuple ds) "list" = false ∧ isTyp (.tuple ds) "tuple" = true := by
  refine ⟨?_, ?_, ?_, ?_, ?_⟩ <;> (show isTypN _ _ = _; simp only [tyName]; decide)
theorem kit_self {K : PySem.W.Frag} {v : Value} : PySem.W.kitOne K v v = some true := if_pos (beq_self_eq_true v)
theorem kit_bi {K : PySem.W.Frag} {C : Addr} {T : String} {b : Bool} (h : PySem.W.kitMeta T = true) (hs : PySem.W.subIn K (.ref C) (.type T) = some b) : PySem.W.kitOne K (.ref C) (.type T) = some b := by
  show (if (Value.ref C == Value.type T) = true then some true else if PySem.W.kitMeta T = true then PySem.W.subIn K (.ref C) (.type T) else none) = some b
  rw [if_neg (by rw [beq_eq_false_iff_ne.mpr (fun z => by cases z)]; decide), if_pos h]
  exact hs
def RD (sp : Sp) (t : TS) (N : List Str) : Prop := ∀ vs H Q E, sp vs H Q E → t { nx := fun _ H' => Q .non H', rt := Q } (start N vs) H
def RDX (sp : Sp) (t : XK → TS) (N : List Str) : Prop := ∀ vs H Q E, sp vs H Q E → t E { nx := fun _ H' => Q .non H', rt := Q } (start N vs) H
/-- [y for x in t for y in f(x)], t a tuple, f(x) a new list ys j -/
theorem lc2TL {K : PySem.W.Frag} {tl tl1 : TE} {g g1 : TG} {tt tt1 : TT} {te : TE} {vs vs1 : List Nat} {σ : L2.St} {H : Hp} {Q : VK} {a : Addr} {xs : List V} (i i1 : Nat) (ys : Nat → List V) (ht : ∀ R : VK, R (.ref a) H → tl σ H R) (hS : SqT K H a xs)
    (hn : ((List.range xs.length).flatMap ys).length ≤ 100000)
    (hw : ∀ x, wipe ((wipe σ vs).set i (some x)) vs = wipe σ vs)
    (hw1 : ∀ x y, wipe ((wipe ((wipe σ vs).set i (some x)) vs1).set i1 (some y)) vs1 = wipe ((wipe σ vs).set i (some x)) vs1)
    (hin : ∀ (j : Nat) x H1 (R : VK), xs[j]? = some x → (∀ b H2, H1 b = none → Ex H1 H2 → H2 b = some (.lst (ys j)) → R (.ref b) H2) → tl1 ((wipe σ vs).set i (some x)) H1 R)
    (he : ∀ x y H1 (R : VK), R y H1 → te ((wipe ((wipe σ vs).set i (some x)) vs1).set i1 (some y)) H1 R)
    (k : ∀ D H', H D = none → Ex H H' → H' D = some (.lst ((List.range xs.length).flatMap ys)) → Q (.ref D) H')
    (hg : g = gName i := by rfl) (hg1 : g1 = gName i1 := by rfl) (htt : tt = tYes := by rfl) (htt1 : tt1 = tYes := by rfl) : tLc2 (iTup K tl) g tt (iList K tl1) g1 tt1 te vs vs1 σ H Q := by
  subst hg hg1 htt htt1
  refine ht _ ⟨a, rfl, ⟨xs, hS⟩, fun D hD => ?_⟩
  have acc1 : ∀ j, (List.range (j + 1)).flatMap ys = (List.range j).flatMap ys ++ ys j := fun j => by simp [List.range_succ]
  have hmono : ∀ j, j ≤ xs.length → ((List.range j).flatMap ys).length ≤ 100000 := by
    intro j hj
    refine Nat.le_trans ?_ hn
    obtain ⟨d, e⟩ : ∃ d, xs.length = j + d := ⟨xs.length - j, by omega⟩
    rw [e, List.range_add, List.flatMap_append, List.length_append]
    omega
  refine ⟨fun j m H' => m = xs.length - j ∧ j ≤ xs.length ∧ Ex H H' ∧ H' D = some (.lst ((List.range j).flatMap ys)), ⟨xs.length, by simp, Nat.zero_le _, Ex.new hD, upd_same⟩, ?_⟩
  rintro j m H1 ⟨rfl, hj, e, hd⟩
  have q := Ex.sqT e hS
  by_cases hlt : j < xs.length
  · refine .inr ⟨⟨xs, xs[j], q, by simp [hlt]⟩, fun H' => Ex H H' ∧ H' D = some (.lst ((List.range (j + 1)).flatMap ys)), fun H' p => ⟨xs.length - (j + 1), by omega, rfl, hlt, p.1, p.2⟩, fun x H' y => ?_⟩
    obtain ⟨e', y⟩ := y
    subst e'
    have hx := y xs q
    refine ⟨hw x, ?_⟩
    simp only [tYes, if_true]
    refine hin j x _ _ hx (fun b H2 hb e2 hb2 => ?_)
    have nbD : b ≠ D := fun z => by
      rw [z, hd] at hb
      cases hb
    refine ⟨b, rfl, ⟨_, SqL.of hb2⟩, fun t k H' => k = (ys j).length - t ∧ t ≤ (ys j).length ∧ Ex H H' ∧ H' b = some (.lst (ys j)) ∧ H' D = some (.lst ((List.range j).flatMap ys ++ (ys j).take t)), ⟨(ys j).length, by simp, Nat.zero_le _, Same.trans e e2, hb2, ?_⟩, ?_⟩
    · rw [List.take_zero, List.append_nil]
      exact e2 _ _ hd
    · rintro t k H3 ⟨rfl, htl, e3, hb3, hd3⟩
      have q3 : SqL K H3 b (ys j) := SqL.of hb3
      by_cases hl2 : t < (ys j).length
      · refine .inr ⟨⟨ys j, (ys j)[t], q3, by simp [hl2]⟩, fun H' => Ex H H' ∧ H' b = some (.lst (ys j)) ∧ H' D = some (.lst ((List.range j).flatMap ys ++ (ys j).take (t + 1))), fun H' p => ⟨(ys j).length - (t + 1), by omega, rfl, hl2, p.1, p.2.1, p.2.2⟩, fun y' H' yy => ?_⟩
        obtain ⟨e', yy⟩ := yy
        subst e'
        have hy := yy _ q3
        refine ⟨hw1 x y', ?_⟩
        simp only [tYes, if_true]
        refine he x y' _ _ ⟨_, hd3, ?_, ?_, ?_, ?_⟩
        · have h1 := hmono (j + 1) hlt
          rw [acc1, List.length_append] at h1
          rw [List.length_append, List.length_take]
          exact Nat.lt_of_le_of_lt (show _ ≤ 100000 by omega) (by decide)
        · exact Ex.mut e3 hD
        · rw [upd_ne nbD]
          exact hb3
        · rw [upd_same, take_one hy, List.append_assoc]
      · have et : t = (ys j).length := by omega
        subst et
        refine .inl ⟨⟨_, q3, Nat.le_refl _⟩, e3, ?_⟩
        rw [hd3, acc1, List.take_length]
  · have ej : j = xs.length := by omega
    subst ej
    exact .inl ⟨⟨xs, q, Nat.le_refl _⟩, k D H1 hD e hd⟩
/-! ### tuples cut and joined -/
theorem cut_take {xs : List V} {i : Int} (h : 0 ≤ i) : cutV xs none (some i) = xs.take i.toNat := by
  obtain ⟨n, rfl⟩ : ∃ n : Nat, i = n := ⟨i.toNat, by omega⟩
  unfold cutV
  rw [HT.sIx_none, HT.sIx_nat, List.drop_zero, Nat.sub_zero, Int.toNat_natCast]
  by_cases c : n ≤ xs.length
  · rw [Nat.min_eq_left c]
  · rw [Nat.min_eq_right (by omega), List.take_length, List.take_of_length_le (by omega)]
theorem cut_drop {xs : List V} {i : Int} (h : 0 ≤ i) : cutV xs (some i) none = xs.drop i.toNat := by
  obtain ⟨n, rfl⟩ : ∃ n : Nat, i = n := ⟨i.toNat, by omega⟩
  unfold cutV
  rw [HT.sIx_none, HT.sIx_nat, Int.toNat_natCast]
  by_cases c : n ≤ xs.length
  · rw [Nat.min_eq_left c, List.take_of_length_le (by rw [List.length_drop]; exact Nat.le_refl _)]
  · rw [Nat.min_eq_right (by omega), List.drop_length, List.take_nil, List.drop_eq_nil_of_le (by omega)]
theorem slT_go {K : PySem.W.Frag} {H : Hp} {t : Addr} {xs : List V} {lo hi : Option Int} {Q : VK} (hS : SqT K H t xs) (k : ∀ t' H', Ex H H' → SqT K H' t' (cutV xs lo hi) → Q (.ref t') H') : rSlA K (.ref t) lo hi H Q := by
  refine ⟨t, xs, rfl, hS, fun hw => ?_, fun _ p hp => k p _ (Ex.new hp) (SqT.of upd_same)⟩
  refine k t H (Same.refl _) ?_
  have : cutV xs lo hi = xs := by
    unfold cutV
    rw [hw.1, hw.2, List.drop_zero, Nat.sub_zero, List.take_length]
  rw [this]
  exact hS
theorem catT_go {K : PySem.W.Frag} {H : Hp} {t u : Addr} {xs ys : List V} {Q : VK} (hx : SqT K H t xs) (hy : SqT K H u ys) (hl : xs.length + ys.length ≤ 100000) (k : ∀ t' H', Ex H H' → SqT K H' t' (xs ++ ys) → Q (.ref t') H') : rCatA K (.ref t) (.ref u) H Q := by
  refine ⟨t, u, xs, ys, rfl, rfl, hx, hy, Nat.le_trans hl (by decide), fun e => ?_, fun _ e => ?_, fun _ _ p hp => k p _ (Ex.new hp) (SqT.of upd_same)⟩
  · subst e
    exact k u H (Same.refl _) hy
  · subst e
    rw [List.append_nil] at k
    exact k t H (Same.refl _) hx
theorem cpow {b e : Int} (h1 : 0 ≤ b) (h2 : b < 1000) (h3 : 0 ≤ e) (h4 : e < 1000) : CPow b e := ⟨h3, by omega, by omega⟩
def byteN (n : Int) : Bool := decide (0 ≤ n) && decide (n ≤ 255)
def sum5N (n : Int) : Nat := crc 5 5 (bitsL n 11)
def bytesBits (ns : List Int) : List Int := ns.flatMap fun n => bitsL n 8
def sum16N (ns : List Int) : Nat := crc 16 32773 (bytesBits ns)
/-! ### packets -/
inductive Arg where
  | int (i : Int)
  | byt (ns : List Int)
def Arg.d : Arg → PyData
  | .int i => .int i
  | .byt ns => .tuple (ns.map PyData.int)
def tokW : List Str := ["out", "in", "setup"]
def ansW : List Str := ["ack", "nak", "stall"]
def code (w : Str) : Int :=
  if w = "out" then 1 else if w = "ack" then 2 else if w = "frame" then 5 else if w = "in" then 9 else if w = "nak" then 10 else if w = "setup" then 13 else 14
def hd (c : Int) : Int := c + 16 * (15 - c)
def two (n : Int) : List Int := [n % 256, n / 256]
def num11 (n : Int) : Int := n + 2048 * numOf (bitsL (sum5N n) 5).reverse
def num16 (ns : List Int) : Int := numOf (bitsL (sum16N ns) 16).reverse
inductive Pk where
  | tok (w : Str) (n e : Int)
  | frm (n : Int)
  | dat (m : Int) (ns : List Int)
  | ans (w : Str)
def Pk.ok : Pk → Prop
  | .tok w n e => w ∈ tokW ∧ 0 ≤ n ∧ n ≤ 127 ∧ 0 ≤ e ∧ e ≤ 15
  | .frm n => 0 ≤ n ∧ n ≤ 2047
  | .dat m ns => (m = 0 ∨ m = 1) ∧ ns.length ≤ 64 ∧ ns.all byteN = true
  | .ans w => w ∈ ansW
def Pk.ds : Pk → List PyData
  | .tok w n e => [.str w, .int n, .int e]
  | .frm n => [.str "frame", .int n]
  | .dat m ns => [.str "data", .int m, .tuple (ns.map PyData.int)]
  | .ans w => [.str w]
def Pk.bytes : Pk → List Int
  | .tok w n e => hd (code w) :: two (num11 (n + 128 * e))
  | .frm n => hd 5 :: two (num11 n)
  | .dat m ns => hd (if m = 0 then 3 else 11) :: (ns ++ two (num16 ns))
  | .ans w => [hd (code w)]
/-- a tuple as it may be handed in: none, or a word and numbers or rows of numbers -/
def Shape (ds : List PyData) : Prop := ds = [] ∨ ∃ (w : Str) (args : List Arg), ds = .str w :: args.map Arg.d
def isTokD : List PyData → Bool
  | [.str w, x, y] => decide (w ∈ tokW) && (isNum x 0 127 && isNum y 0 15)
  | _ => false
def isFrmD : List PyData → Bool
  | [.str w, x] => decide (w = "frame") && isNum x 0 2047
  | _ => false
def isPcD : PyData → Bool
  | .tuple ds => decide (ds.length ≤ 64) && ds.all fun d => isNum d 0 255
  | _ => false
def isDatD : List PyData → Bool
  | [.str w, m, x] => decide (w = "data") && (isNum m 0 1 && isPcD x)
  | _ => false
def isAnsD : List PyData → Bool
  | [.str w] => decide (w ∈ ansW)
  | _ => false
theorem inV_strs (w : Str) (ws : List Str) : inV (.str w) (ws.map V.str) = decide (w ∈ ws) := by
  induction ws with
  | nil => rfl
  | cons x ws ih =>
    show (eqV (.str x) (.str w) || inV (.str w) (ws.map V.str)) = _
    rw [ih]
    by_cases e : x = w
    · subst e
      simp [eqV]
    · simp [eqV, e, Ne.symm e]
end My

namespace My
open PySem PySem.Spec PyProof.Rows L2
def Small (ds : List PyData) : Prop := ∀ ns : List Int, PyData.tuple (ns.map PyData.int) ∈ ds → ns.length ≤ 1000
def cutB (row : List Int) : List Int := (row.drop 1).take (row.length - 3)
/-- the packet of a word that might write a row -/
def wordD (w : Str) (row : List Int) : List PyData :=
  if w ∈ ansW then [.str w] else if row.length ≠ 3 then [] else
    let n := (row.getD 1 0 + 256 * row.getD 2 0) % 2048
    if w = "frame" then [.str w, .int n] else [.str w, .int (n % 128), .int (n / 128)]
def codeW : List Str := ["out", "ack", "frame", "in", "nak", "setup", "stall"]
def likelyD (row : List Int) : List PyData :=
  if row.length = 0 then [] else
    match codeW.find? (fun w => decide (row.getD 0 0 = hd (code w))) with
    | some w => wordD w row
    | none => if row.getD 0 0 = hd 3 then [.str "data", .int 0, .tuple ((cutB row).map PyData.int)] else
        if row.getD 0 0 = hd 11 then [.str "data", .int 1, .tuple ((cutB row).map PyData.int)] else []
/-! ### packets: the mathematics -/
theorem eqv_ints : ∀ as bs : List Int, PyData.eqvAll (as.map PyData.int) (bs.map PyData.int) = decide (as = bs)
  | [], [] => rfl
  | [], _ :: _ => rfl
  | _ :: _, [] => rfl
  | a :: as, b :: bs => by
    show (a == b && PyData.eqvAll (as.map PyData.int) (bs.map PyData.int)) = _
    rw [eqv_ints as bs]
    by_cases e : a = b <;> by_cases f : as = bs <;> simp [e, f]
theorem eqvT (as bs : List Int) : PyData.eqv (.tuple (as.map PyData.int)) (.tuple (bs.map PyData.int)) = decide (as = bs) := by
  show PyData.eqvAll _ _ = _
  exact eqv_ints as bs
theorem shapedT (ns : List Int) : SeqAt.shaped (.tuple (ns.map PyData.int)) = true := by
  have h1 := PySem.W.depthAll_ints ns
  have h2 : PyData.depth (.tuple (ns.map PyData.int)) ≤ 64 := by simp only [PyData.depth]; omega
  show (PyData.canLay0 (.tuple (ns.map PyData.int)) && decide (PyData.depth (.tuple (ns.map PyData.int)) ≤ 64)) = true
  rw [Bool.and_eq_true]
  exact ⟨by simp only [PyData.canLay0]; exact PySem.W.canLayAll0_ints ns, decide_eq_true h2⟩
theorem numOf_lt : ∀ l : List Int, Bit l → 0 ≤ numOf l ∧ numOf l < 2 ^ l.length
  | [], _ => ⟨by decide, by decide⟩
  | b :: l, h => by
    have ih := numOf_lt l fun x hx => h x (List.mem_cons_of_mem _ hx)
    have hb := h b List.mem_cons_self
    show 0 ≤ b + 2 * numOf l ∧ b + 2 * numOf l < 2 ^ (l.length + 1)
    rw [Int.pow_succ]
    omega
theorem numOf_append : ∀ a b : List Int, numOf (a ++ b) = numOf a + 2 ^ a.length * numOf b
  | [], b => by simp [numOf]
  | x :: a, b => by
    have ih := numOf_append a b
    show x + 2 * numOf (a ++ b) = x + 2 * numOf a + 2 ^ (a.length + 1) * numOf b
    rw [ih, Int.pow_succ, Int.mul_add]
    have : 2 * (2 ^ a.length * numOf b) = 2 ^ a.length * 2 * numOf b := by
      rw [Int.mul_comm (2 ^ a.length) 2, Int.mul_assoc]
    omega
theorem turned_lt (s m : Nat) : 0 ≤ numOf (bitsL s m).reverse ∧ numOf (bitsL s m).reverse < 2 ^ m := by
  have := numOf_lt (bitsL (s : Int) m).reverse (bitsL_bit _ _).rev
  rwa [List.length_reverse, bitsL_len] at this
theorem num11_lt {n : Int} (h0 : 0 ≤ n) (h1 : n ≤ 2047) : 0 ≤ num11 n ∧ num11 n < 65536 ∧ num11 n % 2048 = n := by
  have := turned_lt (sum5N n) 5
  unfold num11
  generalize numOf (bitsL (sum5N n) 5).reverse = x at *
  omega
theorem isNum_int {d : PyData} {lo hi : Int} (h : isNum d lo hi = true) : ∃ i, d = .int i ∧ lo ≤ i ∧ i ≤ hi := by
  cases d with
  | int i =>
    simp [isNum] at h
    exact ⟨i, rfl, h.1, h.2⟩
  | _ => cases h
theorem isPc_byt {d : PyData} (h : isPcD d = true) : ∃ ns : List Int, d = .tuple (ns.map PyData.int) ∧ ns.length ≤ 64 ∧ ns.all byteN = true := by
  cases d with
  | tuple ds =>
    simp only [isPcD, Bool.and_eq_true, decide_eq_true_eq] at h
    obtain ⟨h1, h2⟩ := h
    have : ∃ ns : List Int, ds = ns.map PyData.int := by
      clear h1
      induction ds with
      | nil => exact ⟨[], rfl⟩
      | cons d ds ih =>
        rw [List.all_cons, Bool.and_eq_true] at h2
        obtain ⟨i, rfl, _, _⟩ := isNum_int h2.1
        obtain ⟨ns, rfl⟩ := ih h2.2
        exact ⟨i :: ns, rfl⟩
    obtain ⟨ns, rfl⟩ := this
    rw [List.length_map] at h1
    refine ⟨ns, rfl, h1, ?_⟩
    rw [List.all_map] at h2
    exact h2
  | _ => cases h
theorem tok_of {ds : List PyData} (h : isTokD ds = true) : ∃ w n e, ds = (Pk.tok w n e).ds ∧ (Pk.tok w n e).ok := by
  unfold isTokD at h
  split at h
  · rename_i w x y
    simp only [Bool.and_eq_true, decide_eq_true_eq] at h
    obtain ⟨n, rfl, n0, n1⟩ := isNum_int h.2.1
    obtain ⟨e, rfl, e0, e1⟩ := isNum_int h.2.2
    exact ⟨w, n, e, rfl, h.1, n0, n1, e0, e1⟩
  · cases h
theorem frm_of {ds : List PyData} (h : isFrmD ds = true) : ∃ n, ds = (Pk.frm n).ds ∧ (Pk.frm n).ok := by
  unfold isFrmD at h
  split at h
  · rename_i w x
    simp only [Bool.and_eq_true, decide_eq_true_eq] at h
    obtain ⟨n, rfl, n0, n1⟩ := isNum_int h.2
    obtain ⟨rfl, _⟩ := h
    exact ⟨n, rfl, n0, n1⟩
  · cases h
theorem dat_of {ds : List PyData} (h : isDatD ds = true) : ∃ m ns, ds = (Pk.dat m ns).ds ∧ (Pk.dat m ns).ok := by
  unfold isDatD at h
  split at h
  · rename_i w x y
    simp only [Bool.and_eq_true, decide_eq_true_eq] at h
    obtain ⟨n, rfl, n0, n1⟩ := isNum_int h.2.1
    obtain ⟨ns, rfl, l1, l2⟩ := isPc_byt h.2.2
    obtain ⟨rfl, _⟩ := h
    exact ⟨n, ns, rfl, by omega, l1, l2⟩
  · cases h
theorem ans_of {ds : List PyData} (h : isAnsD ds = true) : ∃ w, ds = (Pk.ans w).ds ∧ (Pk.ans w).ok := by
  unfold isAnsD at h
  split at h
  · rename_i w
    exact ⟨w, rfl, show w ∈ ansW from of_decide_eq_true h⟩
  · cases h
theorem isPcD_ints (ns : List Int) : isPcD (.tuple (ns.map PyData.int)) = (decide (ns.length ≤ 64) && ns.all byteN) := by
  show (decide ((ns.map PyData.int).length ≤ 64) && (ns.map PyData.int).all fun d => isNum d 0 255) = _
  rw [List.length_map, List.all_map]
  rfl
/-- each packet passes its own look, and no earlier one -/
theorem ok_looks {k : Pk} (h : k.ok) : match k with
    | .tok _ _ _ => isTokD k.ds = true
    | .frm _ => isTokD k.ds = false ∧ isFrmD k.ds = true
    | .dat _ _ => isTokD k.ds = false ∧ isFrmD k.ds = false ∧ isDatD k.ds = true
    | .ans _ => isTokD k.ds = false ∧ isFrmD k.ds = false ∧ isDatD k.ds = false ∧ isAnsD k.ds = true := by
  cases k with
  | tok w n e =>
    obtain ⟨h1, h2, h3, h4, h5⟩ := h
    show (decide (w ∈ tokW) && ((decide (0 ≤ n) && decide (n ≤ 127)) && (decide (0 ≤ e) && decide (e ≤ 15)))) = true
    simp [h1, h2, h3, h4, h5]
  | frm n =>
    obtain ⟨h1, h2⟩ := h
    refine ⟨rfl, ?_⟩
    show (decide (("frame" : Str) = "frame") && (decide (0 ≤ n) && decide (n ≤ 2047))) = true
    simp [h1, h2]
  | dat m ns =>
    obtain ⟨h1, h2, h3⟩ := h
    refine ⟨?_, rfl, ?_⟩
    · show (decide (("data" : Str) ∈ tokW) && (isNum (.int m) 0 127 && isNum (.tuple (ns.map PyData.int)) 0 15)) = false
      rw [show decide (("data" : Str) ∈ tokW) = false by decide, Bool.false_and]
    · show (decide (("data" : Str) = "data") && ((decide (0 ≤ m) && decide (m ≤ 1)) && isPcD (.tuple (ns.map PyData.int)))) = true
      rw [isPcD_ints, h3]
      rcases h1 with rfl | rfl <;> simp [h2]
  | ans w =>
    refine ⟨rfl, rfl, rfl, ?_⟩
    show decide (w ∈ ansW) = true
    exact decide_eq_true h
theorem none_ok {ds : List PyData} (h1 : isTokD ds = false) (h2 : isFrmD ds = false) (h3 : isDatD ds = false) (h4 : isAnsD ds = false) : ∀ k : Pk, k.ok → k.ds ≠ ds := by
  intro k hk e
  have := ok_looks hk
  subst e
  cases k with
  | tok w n e => rw [show isTokD _ = true from this] at h1; cases h1
  | frm n => rw [this.2] at h2; cases h2
  | dat m ns => rw [this.2.2] at h3; cases h3
  | ans w => rw [this.2.2.2] at h4; cases h4
theorem ds_bytes {k k' : Pk} (h : k.ok) (h' : k'.ok) (e : k.ds = k'.ds) : k.bytes = k'.bytes := by
  cases k <;> cases k' <;> simp only [Pk.ds, List.cons.injEq, PyData.int.injEq, PyData.str.injEq, PyData.tuple.injEq, and_true, true_and, eq_self, reduceCtorEq, and_false, false_and] at e
  · obtain ⟨rfl, rfl, rfl⟩ := e
    rfl
  · subst e
    rfl
  · obtain ⟨rfl, e2⟩ := e
    have := (List.map_inj_right (fun a b h => PyData.int.inj h)).mp e2
    subst this
    rfl
  · subst e
    rfl
theorem likely_ok {k : Pk} (h : k.ok) : likelyD k.bytes = k.ds := by
  cases k with
  | tok w n e =>
    obtain ⟨hw, n0, n1, e0, e1⟩ := h
    have hx := num11_lt (n := n + 128 * e) (by omega) (by omega)
    show likelyD [hd (code w), num11 (n + 128 * e) % 256, num11 (n + 128 * e) / 256] = [.str w, .int n, .int e]
    generalize num11 (n + 128 * e) = N at hx
    have e3 : (N % 256 + 256 * (N / 256)) % 2048 = n + 128 * e := by omega
    have hf : codeW.find? (fun v => decide (hd (code w) = hd (code v))) = some w := by
      rcases (by simpa [tokW] using hw) with rfl | rfl | rfl <;> decide
    have na : w ∉ ansW := by
      rcases (by simpa [tokW] using hw) with rfl | rfl | rfl <;> decide
    have nf : w ≠ "frame" := by
      rcases (by simpa [tokW] using hw) with rfl | rfl | rfl <;> decide
    unfold likelyD
    rw [if_neg (by simp)]
    show (match codeW.find? (fun v => decide (hd (code w) = hd (code v))) with | some w' => _ | none => _) = _
    rw [hf]
    show wordD w [hd (code w), N % 256, N / 256] = _
    unfold wordD
    rw [if_neg na, if_neg (by simp)]
    show (if w = "frame" then _ else [PyData.str w, .int ((N % 256 + 256 * (N / 256)) % 2048 % 128), .int ((N % 256 + 256 * (N / 256)) % 2048 / 128)]) = _
    rw [if_neg nf, e3]
    congr 3
    · omega
    · congr 2
      omega
  | frm n =>
    obtain ⟨n0, n1⟩ := h
    have hx := num11_lt n0 n1
    show likelyD [hd 5, num11 n % 256, num11 n / 256] = [.str "frame", .int n]
    generalize num11 n = N at hx
    have e3 : (N % 256 + 256 * (N / 256)) % 2048 = n := by omega
    unfold likelyD
    rw [if_neg (by simp)]
    rw [show codeW.find? (fun v => decide ([hd 5, N % 256, N / 256].getD 0 0 = hd (code v))) = some "frame" from (by decide : codeW.find? (fun v => decide (hd 5 = hd (code v))) = some "frame")]
    show wordD "frame" [hd 5, N % 256, N / 256] = _
    unfold wordD
    rw [if_neg (by decide), if_neg (by simp)]
    show (if ("frame" : Str) = "frame" then [PyData.str "frame", .int ((N % 256 + 256 * (N / 256)) % 2048)] else [PyData.str "frame", .int ((N % 256 + 256 * (N / 256)) % 2048 % 128), .int ((N % 256 + 256 * (N / 256)) % 2048 / 128)]) = _
    rw [if_pos rfl, e3]
  | dat m ns =>
    obtain ⟨hm, hl, hb⟩ := h
    have hc : cutB (hd (if m = 0 then 3 else 11) :: (ns ++ two (num16 ns))) = ns := by
      unfold cutB two
      rw [List.drop_one, List.tail_cons]
      simp
    show likelyD (hd (if m = 0 then 3 else 11) :: (ns ++ two (num16 ns))) = [.str "data", .int m, .tuple (ns.map PyData.int)]
    unfold likelyD
    rw [if_neg (by simp), hc]
    show (match codeW.find? (fun v => decide (hd (if m = 0 then 3 else 11) = hd (code v))) with | some w' => _ | none => if hd (if m = 0 then 3 else 11) = hd 3 then _ else if hd (if m = 0 then 3 else 11) = hd 11 then _ else _) = _
    rcases hm with rfl | rfl
    · rw [show codeW.find? (fun v => decide (hd (if (0 : Int) = 0 then 3 else 11) = hd (code v))) = none by decide]
      rfl
    · rw [show codeW.find? (fun v => decide (hd (if (1 : Int) = 0 then 3 else 11) = hd (code v))) = none by decide]
      rfl
  | ans w =>
    show likelyD [hd (code w)] = [.str w]
    rcases (by simpa [ansW] using (show w ∈ ansW from h)) with rfl | rfl | rfl <;> rfl
theorem likely_shape (row : List Int) : Shape (likelyD row) := by
  have hw : ∀ w, Shape (wordD w row) := fun w => by
    unfold wordD
    split
    · exact .inr ⟨w, [], rfl⟩
    · split
      · exact .inl rfl
      · dsimp only
        split
        · exact .inr ⟨w, [.int _], rfl⟩
        · exact .inr ⟨w, [.int _, .int _], rfl⟩
  unfold likelyD
  split
  · exact .inl rfl
  · split
    · exact hw _
    · split
      · exact .inr ⟨"data", [.int 0, .byt (cutB row)], rfl⟩
      · split
        · exact .inr ⟨"data", [.int 1, .byt (cutB row)], rfl⟩
        · exact .inl rfl
theorem likely_small (row : List Int) (hl : row.length ≤ 1000) : Small (likelyD row) := by
  intro ns
  have hw : ∀ w, PyData.tuple (ns.map PyData.int) ∉ wordD w row := fun w h => by
    unfold wordD at h
    split at h
    · simp at h
    · split at h
      · simp at h
      · dsimp only at h
        split at h <;> simp at h
  have hc : (cutB row).length ≤ 1000 := by
    unfold cutB
    rw [List.length_take, List.length_drop]
    omega
  have hm : ns.map PyData.int = (cutB row).map PyData.int → ns.length ≤ 1000 := fun e => by
    have := congrArg List.length e
    rw [List.length_map, List.length_map] at this
    omega
  intro h
  unfold likelyD at h
  split at h
  · simp at h
  · split at h
    · exact absurd h (hw _)
    · split at h
      · simp at h
        exact hm h
      · split at h
        · simp at h
          exact hm h
        · simp at h
end My

namespace My
open PySem PySem.Spec PyProof.Rows L2
end My
namespace L2
open PySem PySem.Spec PyProof.Rows My
/-! ### data opened and made -/
theorem Dp.tupE {K : PySem.W.Frag} {H : Hp} {v : V} {ds : List PyData} (h : Dp K H v (.tuple ds)) : ∃ p xs, v = .ref p ∧ SqT K H p xs ∧ DpAll K H xs ds := by
  cases h with
  | tup hs ha => exact ⟨_, _, rfl, hs, ha⟩
theorem Dp.lstE {K : PySem.W.Frag} {H : Hp} {v : V} {ds : List PyData} (h : Dp K H v (.list ds)) : ∃ p xs, v = .ref p ∧ SqL K H p xs ∧ DpAll K H xs ds := by
  cases h with
  | lst hs ha => exact ⟨_, _, rfl, hs, ha⟩
theorem Dp.intE {K : PySem.W.Frag} {H : Hp} {v : V} {i : Int} (h : Dp K H v (.int i)) : v = .int i := by cases h; rfl
theorem Dp.blE {K : PySem.W.Frag} {H : Hp} {v : V} {i : Bool} (h : Dp K H v (.bool i)) : v = .bl i := by cases h; rfl
theorem Dp.strE {K : PySem.W.Frag} {H : Hp} {v : V} {i : Str} (h : Dp K H v (.str i)) : v = .str i := by cases h; rfl
theorem DpAll.consE {K : PySem.W.Frag} {H : Hp} {vs : List V} {d : PyData} {ds : List PyData} (h : DpAll K H vs (d :: ds)) : ∃ v r, vs = v :: r ∧ Dp K H v d ∧ DpAll K H r ds := by
  cases h with
  | cons h1 h2 => exact ⟨_, _, rfl, h1, h2⟩
theorem DpAll.nilE {K : PySem.W.Frag} {H : Hp} {vs : List V} (h : DpAll K H vs []) : vs = [] := by cases h; rfl
theorem DpAll.intsE {K : PySem.W.Frag} {H : Hp} : ∀ {vs : List V} {ns : List Int}, DpAll K H vs (ns.map PyData.int) → vs = ns.map V.int
  | vs, [], h => h.nilE
  | vs, n :: ns, h => by
    obtain ⟨v, r, rfl, h1, h2⟩ := DpAll.consE (d := .int n) (ds := ns.map PyData.int) h
    rw [h1.intE, DpAll.intsE h2]
    rfl
theorem Dp.intsE {K : PySem.W.Frag} {H : Hp} {v : V} {ns : List Int} (h : Dp K H v (.tuple (ns.map PyData.int))) : ∃ p, v = .ref p ∧ SqT K H p (ns.map V.int) := by
  obtain ⟨p, xs, rfl, h1, h2⟩ := h.tupE
  rw [h2.intsE] at h1
  exact ⟨p, rfl, h1⟩
theorem DpAll.app {K : PySem.W.Frag} {H : Hp} : ∀ {xs ys : List V} {ds es : List PyData}, DpAll K H xs ds → DpAll K H ys es → DpAll K H (xs ++ ys) (ds ++ es)
  | _, _, [], _, h, g => by
    cases h
    exact g
  | _, _, d :: ds, _, h, g => by
    cases h with
    | cons h1 h2 => exact .cons h1 (DpAll.app h2 g)
theorem DpAll.drop {K : PySem.W.Frag} {H : Hp} : ∀ {n : Nat} {xs : List V} {ds : List PyData}, DpAll K H xs ds → DpAll K H (xs.drop n) (ds.drop n)
  | 0, _, _, h => h
  | n + 1, _, [], h => by
    cases h
    exact .nil
  | n + 1, _, d :: ds, h => by
    cases h with
    | cons h1 h2 => exact DpAll.drop (n := n) h2
theorem DpAll.take {K : PySem.W.Frag} {H : Hp} : ∀ {n : Nat} {xs : List V} {ds : List PyData}, DpAll K H xs ds → DpAll K H (xs.take n) (ds.take n)
  | 0, _, _, _ => .nil
  | n + 1, _, [], h => by
    cases h
    exact .nil
  | n + 1, _, d :: ds, h => by
    cases h with
    | cons h1 h2 => exact .cons h1 (DpAll.take (n := n) h2)
/-- a new tuple -/
theorem Dp.newT {K : PySem.W.Frag} {H : Hp} {t : Addr} {xs : List V} {ds : List PyData} (ht : H t = none) (h : DpAll K H xs ds) : Dp K (upd H t (.tup xs)) (.ref t) (.tuple ds) :=
  .tup (SqT.of upd_same) (Ex.dpAll (Ex.new ht) _ _ h)
theorem Dp.newL {K : PySem.W.Frag} {H : Hp} {t : Addr} {xs : List V} {ds : List PyData} (ht : H t = none) (h : DpAll K H xs ds) : Dp K (upd H t (.lst xs)) (.ref t) (.list ds) :=
  .lst (SqL.of upd_same) (Ex.dpAll (Ex.new ht) _ _ h)
end L2
namespace My
open PySem PySem.Spec PyProof.Rows L2
/-! ### data without lists stands apart from the bag -/
mutual
def noL : PyData → Bool
  | .none => true
  | .bool _ => true
  | .int _ => true
  | .str _ => true
  | .list _ => false
  | .tuple ds => noLs ds
  | .dict _ => false
def noLs : List PyData → Bool
  | [] => true
  | d :: ds => noL d && noLs ds
end
theorem sqT_offL {K : PySem.W.Frag} {p : Addr} {l : List V} {H : Hp} {t : Addr} {xs : List V} (h1 : H p = some (.lst l)) (h : SqT K H t xs) : SqT K (wo [p] H) t xs := by
  have ne : ∀ o, H t = some o → (∀ l, o ≠ .lst l) → t ∉ [p] := fun o e no z => by
    rw [List.mem_singleton.mp z, h1] at e
    cases e
    exact no _ rfl
  rcases h with (e | ⟨o, e⟩) | e
  · exact .inl (.inl (by rw [wo_get (ne _ e fun l z => by cases z)]; exact e))
  · exact .inl (.inr ⟨o, by rw [wo_get (ne _ e fun l z => by cases z)]; exact e⟩)
  · exact .inr e
theorem Bag.isL {K : PySem.W.Frag} {p c : Addr} {cs : List Int} {H : Hp} (bag : Bag K c cs H p) : ∃ l, H p = some (.lst l) := by
  obtain ⟨i, s, k, h1, _⟩ := bag
  exact ⟨_, h1⟩
theorem sqT_offB {K : PySem.W.Frag} {p c : Addr} {cs : List Int} {H : Hp} {t : Addr} {xs : List V} (bag : Bag K c cs H p) (h : SqT K H t xs) : SqT K (wo [p] H) t xs := by
  obtain ⟨l, h1⟩ := bag.isL
  exact sqT_offL h1 h
end My
namespace L2
open PySem PySem.Spec PyProof.Rows My
mutual
theorem Dp.offL {K : PySem.W.Frag} {p : Addr} {l : List V} {H : Hp} (h1 : H p = some (.lst l)) : ∀ (d : PyData) (v : V), noL d = true → Dp K H v d → Dp K (wo [p] H) v d
  | .none, _, _, h => by cases h; exact .non
  | .bool b, _, _, h => by cases h; exact .bl b
  | .int i, _, _, h => by cases h; exact .int i
  | .str x, _, _, h => by cases h; exact .str x
  | .list ds, _, n, h => by unfold noL at n; exact Bool.noConfusion n
  | .tuple ds, _, n, h => by
    unfold noL at n
    cases h with
    | tup hs ha => exact .tup (sqT_offL h1 hs) (Dp.offLAll h1 ds _ n ha)
  | .dict _, _, _, h => by cases h
theorem Dp.offLAll {K : PySem.W.Frag} {p : Addr} {l : List V} {H : Hp} (h1 : H p = some (.lst l)) : ∀ (ds : List PyData) (vs : List V), noLs ds = true → DpAll K H vs ds → DpAll K (wo [p] H) vs ds
  | [], _, _, h => by cases h; exact .nil
  | d :: ds, _, n, h => by
    unfold noLs at n
    obtain ⟨n1, n2⟩ := Bool.and_eq_true_iff.mp n
    cases h with
    | cons h2 h3 => exact .cons (Dp.offL h1 d _ n1 h2) (Dp.offLAll h1 ds _ n2 h3)
end
theorem Dp.offAll' {K : PySem.W.Frag} {p c : Addr} {cs : List Int} {H : Hp} (bag : Bag K c cs H p) {ds : List PyData} {vs : List V} (n : noLs ds = true) (h : DpAll K H vs ds) : DpAll K (wo [p] H) vs ds := by
  obtain ⟨l, h1⟩ := bag.isL
  exact Dp.offLAll h1 ds vs n h
theorem Dp.off {K : PySem.W.Frag} {p c : Addr} {cs : List Int} {H : Hp} (bag : Bag K c cs H p) (d : PyData) (v : V) (n : noL d = true) (h : Dp K H v d) : Dp K (wo [p] H) v d := by
  obtain ⟨l, h1⟩ := bag.isL
  exact Dp.offL h1 d v n h
end L2
namespace My
open PySem PySem.Spec PyProof.Rows L2
theorem noLs_ints : ∀ ns : List Int, noLs (ns.map PyData.int) = true
  | [] => rfl
  | n :: ns => by
    show (noL (.int n) && noLs (ns.map PyData.int)) = true
    rw [noLs_ints ns]
    rfl
theorem noLs_all : ∀ {ds : List PyData}, (∀ d ∈ ds, noL d = true) → noLs ds = true
  | [], _ => rfl
  | d :: ds, h => by
    unfold noLs
    rw [h d (List.mem_cons_self), noLs_all fun x hx => h x (List.mem_cons_of_mem _ hx)]
    rfl
/-! ### comprehensions and walks whose range, list or tuple a call makes -/
theorem lcAt {ta : TA} {g : TG} {tt : TT} {te : TE} {vs : List Nat} {σ : L2.St} {H : Hp} {Q : VK} (S : Int → Hp → Prop) (ht : ∀ R : List V → Hp → Prop, (∀ n H0, S n H0 → R [.int n] H0) → ta σ H R)
    (k : ∀ n H0, S n H0 → tLc (iRng1 fun _ H' R => R [.int n] H') g tt te vs σ H0 Q) : tLc (iRng1 ta) g tt te vs σ H Q :=
  ht _ fun n H0 s => k n H0 s
theorem lcAtL {K : PySem.W.Frag} {tl : TE} {g : TG} {tt : TT} {te : TE} {vs : List Nat} {σ : L2.St} {H : Hp} {Q : VK} (S : Addr → Hp → Prop) (ht : ∀ R : VK, (∀ p H0, S p H0 → R (.ref p) H0) → tl σ H R)
    (k : ∀ p H0, S p H0 → tLc (iList K fun _ H' R => R (.ref p) H') g tt te vs σ H0 Q) : tLc (iList K tl) g tt te vs σ H Q :=
  ht _ fun p H0 s => k p H0 s
/-- what a comprehension made, as rows of what each of its items is -/
theorem Made.some {α : Type} {K : PySem.W.Frag} {H : Hp} {f : α → PyData} {G : α → Prop} : ∀ {n : Nat} {ys : List V}, Made n (fun _ v H => ∃ x, G x ∧ Dp K H v (f x)) ys H → ∃ xs : List α, xs.length = n ∧ (∀ x ∈ xs, G x) ∧ DpAll K H ys (xs.map f)
  | n, [], ⟨h1, _⟩ => ⟨[], h1, fun x hx => (List.not_mem_nil hx).elim, .nil⟩
  | n, y :: ys, ⟨h1, h2⟩ => by
    obtain ⟨v, e1, x, gx, dx⟩ := h2 0 (by rw [← h1]; simp)
    have e2 : y = v := by simpa using e1
    subst e2
    obtain ⟨xs, l1, g1, d1⟩ := Made.some (n := ys.length) (ys := ys) (f := f) (G := G) ⟨rfl, fun j hj => by
      obtain ⟨u, e3, r⟩ := h2 (j + 1) (by rw [← h1]; simp; omega)
      exact ⟨u, by simpa using e3, r⟩⟩
    refine ⟨x :: xs, by rw [← h1]; simp [l1], fun z hz => ?_, .cons dx d1⟩
    rcases List.mem_cons.mp hz with rfl | hz
    · exact gx
    · exact g1 z hz
/-! ### data that == may be asked of -/
theorem depth_tup (ds : List PyData) : PyData.depth (.tuple ds) = PyData.depthAll ds + 1 := by simp only [PyData.depth]
theorem depth_lst (ds : List PyData) : PyData.depth (.list ds) = PyData.depthAll ds + 1 := by simp only [PyData.depth]
theorem depthAll_le {n : Nat} : ∀ {ds : List PyData}, (∀ d ∈ ds, PyData.depth d ≤ n) → PyData.depthAll ds ≤ n
  | [], _ => by simp [PyData.depthAll]
  | d :: ds, h => by
    have := depthAll_le (n := n) (ds := ds) fun x hx => h x (List.mem_cons_of_mem _ hx)
    have h2 := h d (List.mem_cons_self)
    simp only [PyData.depthAll]
    omega
theorem canAll : ∀ {ds : List PyData}, (∀ d ∈ ds, PyData.canLay0 d = true) → PyData.canLayAll0 ds = true
  | [], _ => by simp only [PyData.canLayAll0]
  | d :: ds, h => by
    simp only [PyData.canLayAll0]
    rw [h d (List.mem_cons_self), canAll fun x hx => h x (List.mem_cons_of_mem _ hx)]
    rfl
def Shp (n : Nat) (d : PyData) : Prop := PyData.canLay0 d = true ∧ PyData.depth d ≤ n
theorem Shp.shaped {n : Nat} {d : PyData} (h : Shp n d) (hn : n ≤ 64) : SeqAt.shaped d = true := by
  show (PyData.canLay0 d && decide (PyData.depth d ≤ 64)) = true
  rw [h.1, decide_eq_true (Nat.le_trans h.2 hn)]
  rfl
theorem Shp.int (i : Int) : Shp 1 (.int i) := ⟨by simp only [PyData.canLay0], by simp only [PyData.depth]; omega⟩
theorem Shp.bool (i : Bool) : Shp 1 (.bool i) := ⟨by simp only [PyData.canLay0], by simp only [PyData.depth]; omega⟩
theorem Shp.str {i : Str} (h : i.cps.all (· < 0x110000) = true) : Shp 1 (.str i) := ⟨by simp only [PyData.canLay0]; exact h, by simp only [PyData.depth]; omega⟩
theorem Shp.mono {n m : Nat} {d : PyData} (h : Shp n d) (hn : n ≤ m) : Shp m d := ⟨h.1, Nat.le_trans h.2 hn⟩
theorem Shp.tup {n : Nat} {ds : List PyData} (h : ∀ d ∈ ds, Shp n d) : Shp (n + 1) (.tuple ds) :=
  ⟨by simp only [PyData.canLay0]; exact canAll fun d hd => (h d hd).1, by rw [depth_tup]; exact Nat.succ_le_succ (depthAll_le fun d hd => (h d hd).2)⟩
theorem Shp.lst {n : Nat} {ds : List PyData} (h : ∀ d ∈ ds, Shp n d) : Shp (n + 1) (.list ds) :=
  ⟨by simp only [PyData.canLay0]; exact canAll fun d hd => (h d hd).1, by rw [depth_lst]; exact Nat.succ_le_succ (depthAll_le fun d hd => (h d hd).2)⟩
theorem Shp.ints (ns : List Int) : Shp 2 (.tuple (ns.map PyData.int)) := Shp.tup fun d hd => by
  obtain ⟨i, _, rfl⟩ := List.mem_map.mp hd
  exact Shp.int i
theorem okTup (n : Nat) {ds : List PyData} (h : ds.length ≤ 1000) (g : ∀ d ∈ ds, okD n d) : okD (n + 1) (.tuple ds) := ⟨h, g⟩
theorem okLst (n : Nat) {ds : List PyData} (h : ds.length ≤ 1000) (g : ∀ d ∈ ds, okD n d) : okD (n + 1) (.list ds) := ⟨h, g⟩
theorem okInt (n : Nat) (i : Int) : okD n (.int i) := by cases n <;> trivial
theorem okBool (n : Nat) (i : Bool) : okD n (.bool i) := by cases n <;> trivial
theorem okStr (n : Nat) (i : Str) : okD n (.str i) := by cases n <;> trivial
theorem okIntsT (n : Nat) {ns : List Int} (h : ns.length ≤ 1000) : okD (n + 1) (.tuple (ns.map PyData.int)) := okTup n (by rw [List.length_map]; exact h) fun d hd => by
  obtain ⟨i, _, rfl⟩ := List.mem_map.mp hd
  exact okInt n i
theorem mem1 {α : Type} {P : α → Prop} {a : α} (h : P a) : ∀ x ∈ [a], P x := fun x hx => by rw [List.mem_singleton.mp hx]; exact h
theorem memC {α : Type} {P : α → Prop} {a : α} {l : List α} (h : P a) (g : ∀ x ∈ l, P x) : ∀ x ∈ a :: l, P x := fun x hx => by
  rcases List.mem_cons.mp hx with rfl | hx
  · exact h
  · exact g x hx
theorem mem0 {α : Type} {P : α → Prop} : ∀ x ∈ ([] : List α), P x := fun x hx => (List.not_mem_nil hx).elim
theorem iteY {c : Bool} {A B : Prop} (h : c = true) (a : A) : if c = true then A else B := by rw [if_pos h]; exact a
theorem iteN {c : Bool} {A B : Prop} (h : c = false) (b : B) : if c = true then A else B := by subst h; exact b
abbrev rInt1 : List V → Hp → VK → Prop := fun xs H Q => (∃ i, xs = [.int i] ∧ Q (.int i) H) ∨ ∃ k, xs = [.bl k] ∧ Q (.int (if k then 1 else 0)) H
theorem atH (x : V) (r : List V) : atI (x :: r) 0 = some x := at_of (j := 0) (by simp) rfl
theorem Bag.turnedX {K : PySem.W.Frag} {H H' : Hp} {B D c : Addr} {cs : List Int} (b : Bag K c cs (wo [D] H) B) (b' : Bag K c cs H' B) (e : Ex (wo [B] (wo [D] H)) (wo [B] (wo [D] H'))) : Bag K c cs (wo [D] H') B := by
  obtain ⟨i, s, k, h1, h2, h3, h4⟩ := b
  obtain ⟨i', s', k', h1', _, _, h4'⟩ := b'
  have nD : B ∉ [D] := fun z => by
    unfold wo at h1
    rw [if_pos z] at h1
    cases h1
  refine ⟨i', s', k', by rw [wo_get nD]; exact h1', ?_, h3, h4'⟩
  have o2 : ∀ x o, x ≠ B → wo [D] H x = some o → wo [D] H' x = some o := fun x o hx ho => by
    have := e x o (by rw [wo_get (by rw [List.mem_singleton]; exact hx)]; exact ho)
    rwa [wo_get (by rw [List.mem_singleton]; exact hx)] at this
  rcases h2 with (f | ⟨ob, f⟩) | f
  · refine .inl (.inl (o2 _ _ ?_ f))
    intro z
    subst z
    rw [h1] at f
    cases cs <;> simp at f
  · refine .inl (.inr ⟨ob, o2 _ _ ?_ f⟩)
    intro z
    subst z
    rw [h1] at f
    cases f
  · exact .inr f
/-- [e for i in range(n)], where e may change the objects of B; J is what holds of them; the new list is a list -/
theorem lcRB2 {ta : TA} {g : TG} {tt : TT} {te : TE} {vs : List Nat} {σ : L2.St} {H : Hp} {Q : VK} {n : Int} (i : Nat) (B : List Addr) (J : Hp → Prop) (P : Nat → V → Hp → Prop) (ht : ∀ R : List V → Hp → Prop, R [.int n] H → ta σ H R) (hn0 : 0 ≤ n) (hn : n ≤ 100000)
    (hP : ∀ j v H H', Ex H H' → P j v H → P j v H')
    (hw : ∀ x, wipe ((wipe σ vs).set i (some x)) vs = wipe σ vs) (hJ : J H)
    (he : ∀ (j : Nat) D H1 (Q1 : VK) acc, (j : Int) < n → H D = none → H1 D = some (.lst acc) → Ex (wo B H) (wo B (wo [D] H1)) → J (wo [D] H1) →
      (∀ v H2, H2 D = H1 D → Ex (wo B (wo [D] H1)) (wo B (wo [D] H2)) → J (wo [D] H2) → P j v (wo B (wo [D] H2)) → Q1 v H2) → te ((wipe σ vs).set i (some (.int (j : Nat)))) H1 Q1)
    (k : ∀ D H' ys, H D = none → Ex (wo B H) (wo B (wo [D] H')) → J (wo [D] H') → H' D = some (.lst ys) → Made n.toNat P ys (wo B (wo [D] H')) → Q (.ref D) H')
    (hg : g = gName i := by rfl) (htt : tt = tYes := by rfl) : tLc (iRng1 ta) g tt te vs σ H Q := by
  subst hg htt
  refine ht _ ⟨n, rfl, by omega, by omega, fun D hD => ?_⟩
  refine lc_range (lo := 0) (n := n.toNat) (fun j H' => Ex (wo B H) (wo B (wo [D] H')) ∧ J (wo [D] H') ∧ ∃ ys, H' D = some (.lst ys) ∧ Made j P ys (wo B (wo [D] H'))) ⟨?_, ?_, [], upd_same, rfl, fun j hj => absurd hj (Nat.not_lt_zero j)⟩ (fun j H' hj p => ?_) (fun H' p => ?_)
  · rw [wo_upd (List.mem_singleton.mpr rfl), wo_off hD]
    exact Same.refl _
  · rw [wo_upd (List.mem_singleton.mpr rfl), wo_off hD]
    exact hJ
  · obtain ⟨e, hj1, ys, hy, hm⟩ := p
    have e0 : (0 : Int) + (j : Nat) = (j : Nat) := Int.zero_add _
    rw [e0]
    refine ⟨hw _, ?_⟩
    simp only [tYes, if_true]
    refine he j D H' _ ys (by omega) hD hy e hj1 (fun v H2 hD2 e2 hj2 hv => ⟨ys, hD2.trans hy, ?_, ?_, ?_, ys ++ [v], upd_same, ?_⟩)
    · rw [hm.1]
      exact Nat.lt_of_lt_of_le (show j < 100000 by omega) (by decide)
    · rw [wo_upd (List.mem_singleton.mpr rfl)]
      exact e.trans e2
    · rw [wo_upd (List.mem_singleton.mpr rfl)]
      exact hj2
    · rw [wo_upd (List.mem_singleton.mpr rfl)]
      exact hm.more (fun j u hu => hP _ _ _ _ e2 hu) hv
  · obtain ⟨e, hj1, ys, hy, hm⟩ := p
    exact k D H' ys hD e hj1 hy hm
/-- an object that stands apart stays -/
theorem stay {B D : Addr} {H H' : Hp} {o : HO} (e : Ex (wo [B] H) (wo [B] H')) (hB : D ≠ B) (h : H D = some o) : H' D = some o := by
  have := e D o (by rw [wo_get (by rw [List.mem_singleton]; exact hB)]; exact h)
  rwa [wo_get (by rw [List.mem_singleton]; exact hB)] at this
/-- one turn of a comprehension by a call that turns the bag and makes data without lists -/
theorem turn_data {K : PySem.W.Frag} {B D c : Addr} {cs : List Int} {H3 H4 : Hp} {acc : List V} {v : V} {d : PyData} (DB : D ≠ B) (hD : H3 D = some (.lst acc)) (J : Bag K c cs (wo [D] H3) B) (bag : Bag K c cs H4 B) (e : Ex (wo [B] H3) (wo [B] H4))
    (n : noL d = true) (h : Dp K (wo [B] H4) v d) : H4 D = H3 D ∧ Ex (wo [B] (wo [D] H3)) (wo [B] (wo [D] H4)) ∧ Bag K c cs (wo [D] H4) B ∧ Dp K (wo [B] (wo [D] H4)) v d := by
  have h4 := stay e DB hD
  have key : Ex (wo [B] (wo [D] H3)) (wo [B] (wo [D] H4)) := by
    rw [wo_comm, wo_comm (H := H4)]
    exact e.wo
  refine ⟨h4.trans hD.symm, key, J.turnedX bag key, ?_⟩
  rw [wo_comm]
  exact Dp.offL (l := acc) (by rw [wo_get (by rw [List.mem_singleton]; exact DB)]; exact h4) d v n h
theorem up1 {a : V} : ([a] : List V).length ≤ sizeLine := (by decide : 1 ≤ sizeLine)
theorem up2 {a b : V} : ([a, b] : List V).length ≤ sizeLine := (by decide : 2 ≤ sizeLine)
theorem up3 {a b c : V} : ([a, b, c] : List V).length ≤ sizeLine := (by decide : 3 ≤ sizeLine)
theorem up4 {a b c d : V} : ([a, b, c, d] : List V).length ≤ sizeLine := (by decide : 4 ≤ sizeLine)
/-! ### displays evaluated whole -/
def EvD (K : PySem.W.Frag) (te : TE) (σ : L2.St) (d : PyData) : Prop := ∀ (H : Hp) (Q : VK), (∀ v H', Ex H H' → Dp K H' v d → Q v H') → te σ H Q
def EvDs (K : PySem.W.Frag) (ta : TA) (σ : L2.St) (ds : List PyData) : Prop := ∀ (H : Hp) (Q : List V → Hp → Prop), (∀ vs H', Ex H H' → DpAll K H' vs ds → Q vs H') → ta σ H Q
theorem evInt {K : PySem.W.Frag} {σ : L2.St} {i : Int} : EvD K (tC (.int i)) σ (.int i) := fun H Q q => q _ _ (Same.refl _) (.int i)
theorem evStr {K : PySem.W.Frag} {σ : L2.St} {i : Str} : EvD K (tC (.str i)) σ (.str i) := fun H Q q => q _ _ (Same.refl _) (.str i)
theorem evBl {K : PySem.W.Frag} {σ : L2.St} {i : Bool} : EvD K (tC (.bl i)) σ (.bool i) := fun H Q q => q _ _ (Same.refl _) (.bl i)
theorem evNil {K : PySem.W.Frag} {σ : L2.St} : EvDs K tNil σ [] := fun H Q q => q _ _ (Same.refl _) .nil
theorem evCons {K : PySem.W.Frag} {σ : L2.St} {te : TE} {ta : TA} {d : PyData} {ds : List PyData} (h : EvD K te σ d) (g : EvDs K ta σ ds) : EvDs K (tCons te ta) σ (d :: ds) := fun H Q q =>
  h H _ fun v H1 e1 d1 => g H1 _ fun vs H2 e2 d2 => q _ _ (Same.trans e1 e2) (.cons (Ex.dp e2 _ _ d1) d2)
theorem evTup {K : PySem.W.Frag} {σ : L2.St} {ta : TA} {ds : List PyData} (h : EvDs K ta σ ds) (hl : ds.length ≤ 1000) : EvD K (tTup ta) σ (.tuple ds) := fun H Q q =>
  h H _ fun vs H1 e1 d1 => ⟨Nat.le_trans (by rw [DpAll.len d1]; exact hl) (by decide : 1000 ≤ sizeLine), fun t ht => q _ _ (Same.trans e1 (Ex.new ht)) (Dp.newT ht d1)⟩
/-- a new list of data, that is ours -/
theorem evLst {K : PySem.W.Frag} {σ : L2.St} {ta : TA} {ds : List PyData} (h : EvDs K ta σ ds) (hl : ds.length ≤ 1000) {H : Hp} {Q : VK} (q : ∀ p xs H', H p = none → Ex H H' → H' p = some (.lst xs) → DpAll K H' xs ds → Q (.ref p) H') : tLst ta σ H Q :=
  h H _ fun vs H1 e1 d1 => ⟨Nat.le_trans (by rw [DpAll.len d1]; exact hl) (by decide : 1000 ≤ sizeLine), fun t ht => q _ _ _ (e1.free ht) (Same.trans e1 (Ex.new ht)) upd_same (Ex.dpAll (Ex.new ht) _ _ d1)⟩
/-- for .. in a list that a call makes -/
theorem forLC {K : PySem.W.Frag} {tl : TE} {g : TG} {tb : TS} {D : Ends} {σ : L2.St} {H : Hp} (S : Addr → List V → Hp → Prop) (Pv : Addr → List V → Nat → L2.St → Hp → Prop) (ht : ∀ R : VK, (∀ p xs H0, S p xs H0 → R (.ref p) H0) → tl σ H R) (hS : ∀ p xs H0, S p xs H0 → SqL K H0 p xs) (h0 : ∀ p xs H0, S p xs H0 → Pv p xs 0 σ H0)
    (hl : ∀ p xs j σ H, Pv p xs j σ H → SqL K H p xs) (hs : ∀ p xs j x σ H, xs[j]? = some x → Pv p xs j σ H → g x σ H fun σ2 H2 => tb { D with nx := Pv p xs (j + 1), ct := Pv p xs (j + 1), bk := D.nx } σ2 H2) (hd : ∀ p xs σ H, Pv p xs xs.length σ H → D.nx σ H) :
    tFor (iList K tl) g tb D σ H :=
  ht _ fun p xs H0 s => ⟨p, rfl, ⟨xs, hS p xs H0 s⟩, for_list (xs := xs) (Pv p xs) (h0 p xs H0 s) (fun j σ H _ q => hl p xs j σ H q) (fun j x σ H e q => hs p xs j x σ H e q) (hd p xs)⟩
theorem smallLen {n : Nat} (h : n ≤ 1000) : n ≤ sizeLine := Nat.le_trans h (by decide)
end My

namespace PySem
namespace OwnE
open PySem.W PySem.Calls PyProof.Rows PySem.HandSPX
def iA (p1 p2 : Pos) : Arguments := { posonlyargs := [], args := [{ arg := "self", annotation := none, pos := p1 }, { arg := "at", annotation := none, pos := p2 }], vararg := none, kwonlyargs := [], kw_defaults := [], kwarg := none, defaults := [] }
def iB (tx : Str) (p0 p1 p2 p3 p4 p5 p6 p7 p8 q1 q2 q3 q4 : Pos) : List Stmt :=
  [.Expr (.Call (.Attribute (.Call (.Name "super" p0) [] [] p1) "__init__" p2) [.JoinedStr [.Constant (.str tx) 0 p3, .FormattedValue (.Name "at" p4) (-1) none p5] p6] [] p7) p8,
   .Assign [.Attribute (.Name "self" q1) "at" q2] (.Name "at" q3) q4]
def iS : Scope := { kind := .function, names := [(PySem.Str.ofString "self", .local), (PySem.Str.ofString "at", .local), (PySem.Str.ofString "__class__", .free), (PySem.Str.ofString "super", .globalImplicit)], isGenerator := false, isCoroutine := false, more := [] }
structure OwnTxt (K : Frag) (mg : Str → Option Value) (P : Program) (C : Addr) (nC qI : Str) : Prop where
  gC : mg nC = some (.ref C)
  cls : ∃ nm q N bs bm sn sub ab col dd k0 k1 k2 k3 k5, K.lookup C = some (excClassObj nm q C N bs bm true sn sub ab col dd k0 k1 k2 k3 k5 "ValueError.__new__") ∧ refsVE bm = true
  sa : findIn K (.ref C) "__setattr__" = some (some (.builtin "object.__setattr__"))
  ga : findIn K (.ref C) "__getattribute__" = some (some (.builtin "BaseException.__getattribute__"))
  gg : findIn K (.ref C) "__getattr__" = some none
  noN : findIn K (.ref C) "at" = some none
  kC : keepIn K (.ref C) = true
  exC : subIn K (.ref C) (.type "BaseException") = some true
  veC : subIn K (.ref C) (.type "ValueError") = some true
  mrC : mroIn K C (.ref C) = some true
  tyC : typeIn K (.ref C) = some (.type "type")
  hdC : hasDictIn K C = true
  sup : ks_superIn K C C "__init__" = some (some (.builtin "ValueError.__init__"))
  noT : nsIn K cStatics "thirdparty.any" = some none
  noS : nsIn K mainGlobals "super" = some none
  top : (P.main.scope.names.lookup ("super" : Str)).isSome = false
  fn : ∃ (fI cc cda : Addr), findIn K (.ref C) "__init__" = some (some (.ref fI)) ∧ typeIn K (.ref fI) = some (.type "function") ∧
    (∃ (cl : Value) (cld : Option Addr) (csl : Array (Option Value)), K.lookup cc = some ⟨cl, cld, .cell (some (.ref C)), csl⟩) ∧
    (∃ (ccl : Value) (cdd : Option Addr) (ccs : Array (Option Value)) (vs : Array Value) (file : Str) (tf : Tok), K.lookup cda = some ⟨ccl, cdd, .fields vs, ccs⟩ ∧ vs[2]? = some (.str file tf) ∧ ((P.main.file : Str) == file) = true) ∧
    ∃ (oc : Value) (od : Option Addr) (doc pm : Value) (an : Option Addr) (ct : Value) (osl : Array (Option Value)) (tx : Str) (p1 p2 p0 p3 p4 p5 p6 p7 p8 p9 pa q1 q2 q3 q4 : Pos),
    K.lookup fI = some ⟨oc, od, .func (ksFn "__init__" qI (iA p1 p2) (iB tx p0 p3 p4 p5 p6 p7 p8 p9 pa q1 q2 q3 q4) iS .none .none doc pm an (.ref cda) ct cc), osl⟩ ∧ codeIn K (.ref cda) qI = true ∧ tx.length ≤ 1000 ∧ (p4.endLine == p9.line) = true
theorem one_size (v : Value) : [v].length ≤ sizeLine := by
  rw [sizeLine_eq]
  exact (by decide : 1 ≤ 16777216)
section
variable {prog : Program} {w : World} {A : Around} {E : Value → Shared → Prop} {h : Heap} {g : Array GenState} {d : Drawn} {t : Nat} {os : OsState}
variable {nm q : Str} {C N : Addr} {bs bm : List Value} {hdct : Bool} {sn : List Str} {sub : List Value} {ab : Bool} {col : Option Bool} {dd : Option Addr} {k0 k1 k2 k3 k5 : Option Value}
/-- the bound ValueError.__init__ called -/
theorem call_mw {u e t0 : Addr} {rest : List Value} {Q : Value → Shared → Prop}
    (hC : h.get? C = some (excClassObj nm q C N bs bm hdct sn sub ab col dd k0 k1 k2 k3 k5 "ValueError.__new__")) (he : h.get? e = some (excO C t0)) (hu : h.get? u = some (kxs_mw "ValueError.__init__" e)) (hrest : rest.length ≤ sizeLine)
    (hq : ∀ h' t1, (∀ b o, b ≠ e → h.get? b = some o → h'.get? b = some o) → h'.get? e = some (excO C t1) → Q .none ⟨h', g, d, t, os⟩) :
    wpAny (model prog w) A (call (.ref u) rest) Q E ⟨h, g, d, t, os⟩ := by
  refine wpAny_call (codeAny_of_tree ?_)
  show wpAny _ A.in1 (callAny (.ref u) ⟨rest, []⟩) _ _ _
  simp only [callAny]
  refine wpAny_bind (wpAny_load hu ?_)
  simp only [kxs_mw, show (Value.type "method-wrapper" == Value.type "method" || Value.type "method-wrapper" == Value.type "builtin_function_or_method" || Value.type "method-wrapper" == Value.type "method-wrapper") = true by decide, if_true]
  refine W.KFB.if_so (by decide) ?_
  refine wpAny_bind (check_bound_init F.excBase_ValueError.toExcCallFacts hC he rfl ?_)
  refine wpAny_bind (wpAny_pure (wpAny_pure ?_))
  refine ⟨plainId_quiet F.excBase_ValueError.init.plain _, codeAny_builtin F.excBase_ValueError.initEntry ?_⟩
  rw [Around.under_plainId F.excBase_ValueError.init.plain _]
  wp_walk
  refine hq _ h.objs.size (fun b o hb ho => ?_) ?_
  · rw [Heap.get?_update_other _ _ (Ne.symm hb)]
    exact Heap.get?_push_of_some _ ho
  · rw [Heap.get?_update_self _ (Heap.get?_push_of_some _ he) rfl]
    rfl
end
section
variable {prog : Program} {w : World} {A : Around} {c : Code} {E : Value → Shared → Prop} {s : Shared} {env : Env}
theorem mcAt {o : Expr} {name : Str} {apos pos : Pos} {args : List Expr} {Q : Value → Shared → Prop}
    (h : wpAt (model prog w) A c (attributeBase o name env (eval o env)) (fun ov s₁ => wpAny (model prog w) A (getMethod ov name (do return (← importBound o env).getD true)) (fun fx s₂ => wpAny (model prog w) A (callWith pos fx.1 fx.2 (backTo pos (starEach args env)) []) Q E s₂) E s₁) E s)
    (hform : methodCallForm (args.length + ([] : List Keyword).length) (backTo pos (starEach args env)) (backToKw pos (keywordEach [] env)) = true)
    (hline : (apos.endLine == pos.line) = true) :
    wpAt (model prog w) A c (eval (.Call (.Attribute o name apos) args [] pos) env) Q E s := by
  have hpos : methodCallPos true o env apos pos = pure pos := by unfold methodCallPos; simp [hline]
  rw [arm_eval_Call]
  refine wpAt_bind (ks_wpAt_mono h (fun ov s₁ h₁ => wpAt_of_wpAny ?_) fun _ _ e => e)
  refine wpAny_bind (wpAny_standAt ?_)
  unfold methodCall
  rw [hform]
  refine wpAny_bind (wpAny_holding (wpAny_mono h₁ (fun fx s₂ h₂ => ?_) fun _ _ e => e))
  exact wpAny_bind (wpAny_of_eq hpos h₂)
end
theorem ldN {M : Model} {A : Around} {E : Value → Shared → Prop} {s : Shared} {env : Env} {L : Addr} {m : Str → Option Value} {x : Str} {pos : Pos} {v : Value} {Q : Value → Shared → Prop} (hL : env.locals = L) (hn : s.heap.Ns L m) (hv : m x = some v) (h : Q v s)
    (hk : env.scope.kind = .function) (hl : env.kindOf x = some .local) (hd : (x == ("__debug__" : Str)) = false) : wpAny M A (eval (.Name x pos) env) Q E s := by
  subst hL
  exact wpAny_Name (wpAny_loadName_local hk hl hn hv h) hd
/-- what __init__ leaves of a fresh exception at x -/
structure InitEnd (h h' : Heap) (x C dx t1 : Addr) (v : Value) : Prop where
  keep : ∀ b o, b ≠ x → h.get? b = some o → h'.get? b = some o
  obj : h'.get? x = some { cls := .ref C, dict := some dx, data := .fields #[.ref t1, .none, .none, .none, .bool false, .none] }
  dbig : h.objs.size ≤ dx
  dne : dx ≠ x
  ns : h'.Ns1 dx (fun y => if y = "at" then some v else none)
structure OwnMade (h h' : Heap) (e C d : Addr) (v : Value) : Prop where
  keep : ∀ b o, h.get? b = some o → h'.get? b = some o
  new : h.objs.size ≤ e
  obj : ∃ oe vs, h'.get? e = some oe ∧ oe.cls = .ref C ∧ oe.dict = some d ∧ oe.data = .fields vs ∧ vs[1]? = some .none
  dbig : h.objs.size ≤ d
  dne : d ≠ e
  ns : h'.Ns1 d (fun y => if y = "at" then some v else none)
section
variable {prog : Program} {w : World} {A : Around} {E : Value → Shared → Prop} {R : Result → Shared → Prop} {s : Shared} {K : Frag} {mg mb : Str → Option Value} {C : Addr} {nC qI : Str}
theorem own_init (T : OwnTxt K mg prog C nC qI) {fI cc cda : Addr} (hI : findIn K (.ref C) "__init__" = some (some (.ref fI)))
    (hcc : ∃ (cl : Value) (cld : Option Addr) (csl : Array (Option Value)), K.lookup cc = some ⟨cl, cld, .cell (some (.ref C)), csl⟩)
    (hcda : ∃ (ccl : Value) (cdd : Option Addr) (ccs : Array (Option Value)) (vs : Array Value) (file : Str) (tf : Tok), K.lookup cda = some ⟨ccl, cdd, .fields vs, ccs⟩ ∧ vs[2]? = some (.str file tf) ∧ ((prog.main.file : Str) == file) = true)
    (hfn : ∃ (oc : Value) (od : Option Addr) (doc pm : Value) (an : Option Addr) (ct : Value) (osl : Array (Option Value)) (tx : Str) (p1 p2 p0 p3 p4 p5 p6 p7 p8 p9 pa q1 q2 q3 q4 : Pos),
      K.lookup fI = some ⟨oc, od, .func (ksFn "__init__" qI (iA p1 p2) (iB tx p0 p3 p4 p5 p6 p7 p8 p9 pa q1 q2 q3 q4) iS .none .none doc pm an (.ref cda) ct cc), osl⟩ ∧ codeIn K (.ref cda) qI = true ∧ tx.length ≤ 1000 ∧ (p4.endLine == p9.line) = true)
    {x t0 tv : Nat} {i : Int} (X : K.In s.heap) (hg : s.heap.Ns mainGlobals mg) (hb : s.heap.Ns builtinsNs mb) (hbs : mb "super" = some (.type "super"))
    (hlim : s.heap.NoLimit) (hx : s.heap.get? x = some (excO C t0)) (hnx : K.lookup x = none) (hroom : A.depth < recursionLimit) (hi : i.natAbs.log2 < 1920)
    (hq : ∀ h' tk dx t1, InitEnd s.heap h' x C dx t1 (.int i tv) → R (.ok (.ret .none)) { s with heap := h', toks := tk }) :
    codeAny (model prog w) A (.call (.ref fI) ⟨[.ref x, .int i tv], []⟩) R s := by
  obtain ⟨oc, od, doc, pm, an, ct, osl, tx, p1, p2, p0, p3, p4, p5, p6, p7, p8, p9, pa, q1, q2, q3, q4, ho, hcd, htx, hline⟩ := hfn
  obtain ⟨nm, q, N, bs, bm, sn, sub, ab, col, dd, k0, k1, k2, k3, k5, hC, hbm⟩ := T.cls
  obtain ⟨cl, cld, csl, hcell⟩ := hcc
  obtain ⟨ccl, cdd, ccs, vs, file, tf, hcode, hvs, hfile⟩ := hcda
  have hclD : clsIn K C = some { name := nm, bases := bs, mro := .ref C :: bm, ns := N, qualname := q, hasDict := true, slotNames := sn, subclasses := sub, abstract := ab, collection := col, hasDel := false } := by unfold clsIn; rw [hC] <;> rfl
  refine ks_codeAny_call_defAt (fd := ksFn "__init__" qI (iA p1 p2) (iB tx p0 p3 p4 p5 p6 p7 p8 p9 pa q1 q2 q3 q4) iS .none .none doc pm an (.ref cda) ct cc) (binds := [("self", .ref x), ("at", .int i tv)]) hroom (X _ _ ho) rfl hlim (codeRec_of X hcd) rfl
    (BindsTo.of_eq (by first | rfl | with_unfolding_all rfl)) (show ∀ x ∈ iS.names, x.2 ≠ .cell by decide) (fun y hy => by
      rcases List.mem_cons.mp hy with rfl | hy
      · rfl
      · rcases List.mem_cons.mp hy with rfl | hy
        · rfl
        · exact absurd hy (List.not_mem_nil)) (fun h₁ hns hk₁ => ?_)
  have X₁ : K.In h₁ := X.keeps hk₁
  have hx₁ := hk₁ _ _ hx
  show wpAt _ _ _ (execs (iB tx p0 p3 p4 p5 p6 p7 p8 p9 pa q1 q2 q3 q4) (ksEnv qI iS s.heap.objs.size fI (.ref cda) cc)) _ _ _
  refine ks_wpAt_execs_cons (ks_wpAt_Expr_any (mcAt ?_ rfl hline))
  obtain ⟨hh, g, d, t, os⟩ := s
  refine ks_wpAt_super_base (env := ksEnv qI iS hh.objs.size fI (.ref cda) cc) (ar := { arg := "self", annotation := none, pos := p1 }) rfl rfl (by decide) rfl (X₁ _ _ ho) rfl rfl rfl (X₁ _ _ hcode) rfl hvs hfile T.top ?_
  refine ks_loadName_global rfl rfl (loadGlobal_builtin (env := ksEnv qI iS hh.objs.size fI (.ref cda) cc) (mg := mg) (mb := mb) (hg.keeps hk₁) (mg_none_of X hg T.noS) (hb.keeps hk₁) hbs ⟨rfl, ?_⟩)
  refine wpAny_loadName_free rfl rfl rfl ⟨_, X₁ _ _ hcell, rfl⟩ ?_
  refine wpAny_loadName_local rfl rfl hns rfl ?_
  refine ks_wpAny_isType_cls (X₁ _ _ hC) rfl ⟨rfl, ?_⟩
  refine ks_wpAny_call_super (X₁ _ _ hC) rfl hx₁ rfl (fun c e => by cases e) (looks_mroIn X₁ T.mrC) (fun h₂ e2 k2 => ?_)
  have X₂ : K.In h₂ := X₁.keeps k2
  have hx₂ := k2 _ _ hx₁
  have hxC : x ≠ C := by
    rintro rfl
    have z := X₁ _ _ hC
    rw [hx₁] at z
    cases z
  have hsup := T.sup
  unfold ks_superIn at hsup
  rw [hclD] at hsup
  have hI2 : Looks (model prog w) h₂ (isInstance (.ref x) (.type "ValueError")) true :=
    (InstAt.type (M := model prog w) (od := none) ⟨hx₂, rfl, rfl, trivial⟩).andThen (looks_subIn X₂ T.veC)
  refine kxs_getMethod kxs_ValueError e2 (looks_opaque X₂ T.noT) (l₀ := .ref C :: bm) (fun A Q E s k q => wpAny_bind ((looks_clsIn X₂ hclD) A _ E s k (wpAny_pure q))) rfl X₂ hsup hI2 hxC (by decide) ?_
  have k3 : ∀ b o, h₂.get? b = some o → (h₂.push (kxs_mw "ValueError.__init__" x)).get? b = some o := fun b o e => Heap.get?_push_of_some _ e
  have hu : (h₂.push (kxs_mw "ValueError.__init__" x)).get? h₂.objs.size = some (kxs_mw "ValueError.__init__" x) := Heap.get?_push_at rfl rfl
  refine kxs_callWith (i := "ValueError.__init__") (x := x) rfl (evalArgs_plain (spliced_cons ?_))
  have hns3 := (hns.keeps k2).keeps k3
  show wpAny _ _ (eval (.JoinedStr [.Constant (.str tx) 0 p5, .FormattedValue (.Name "at" p6) (-1) none p7] p8) _) _ _ _
  refine wpAny_JoinedStr ?_
  have hlen : ((Str.empty ++ tx) ++ Str.ofString (toString i)).length ≤ sizeLine := by
    have e := int_text_length_le (k := 1920) (by decide) hi
    have e0 : (Str.empty : Str).length = 0 := rfl
    rw [sizeLine_eq, strLen_append, strLen_append, ofString_length, e0]
    omega
  have hlen0 : (Str.empty ++ tx).length ≤ sizeLine := by
    have e0 : (Str.empty : Str).length = 0 := rfl
    rw [sizeLine_eq, strLen_append, e0]
    omega
  refine Constant_str ⟨_, _, rfl, hlen0, ?_⟩
  refine wpAny_FormattedValue_plain (ldN rfl hns3 (v := .int i tv) rfl ?_ rfl rfl (by decide))
  refine wpAny_formatField_int hi ⟨_, _, rfl, hlen, hlen, ?_⟩
  refine spliced_nil ⟨hu, ?_⟩
  refine call_mw (k3 _ _ (k2 _ _ (X₁ _ _ hC))) (k3 _ _ hx₂) hu (one_size _) (fun h₄ t1 k4 hx₄ => ?_)
  have hxL : hh.objs.size ≠ x := Nat.ne_of_gt (Heap.lt_size hx)
  have hns4 : h₄.Ns hh.objs.size (fun y => ([(PySem.Str.ofString "self", Value.ref x), (PySem.Str.ofString "at", Value.int i tv)] : List (Str × Value)).reverse.lookup y) := hns3.at fun o q => k4 _ _ hxL q
  have X₄ : K.In h₄ := fun b o e => k4 b o (fun z => by rw [z, hnx] at e; cases e) ((X₂.keeps k3) _ _ e)
  show wpAt _ _ _ (execs _ _) _ _ _
  refine wpAt_of_wpAny (wpAny_execs_cons (plainObj_wpAny_Assign_Attribute ?_))
  refine ldN rfl hns4 (v := .int i tv) rfl (ldN rfl hns4 (v := .ref x) rfl ?_ rfl rfl (by decide)) rfl rfl (by decide)
  refine set_plain X₄ (ox := excO C t1) (od := none) ⟨hx₄, rfl, rfl, trivial⟩ T.sa ?_
  refine exc_osa X₄ hx₄ hclD (show refsVE (.ref C :: bm) = true from hbm) rfl T.noN (fun h₅ tk₅ dx k₅ dn dne hx₅ hn₅ => ?_)
  show wpAny _ _ (execs _ _) _ _ _
  have z : hh.objs.size < h₄.objs.size := hns4.lt
  exact wpAny_execs_nil (hq h₅ tk₅ dx t1 ⟨fun b o hb e => k₅ b o hb (k4 b o hb (k3 _ _ (k2 _ _ (hk₁ b o e)))), hx₅, Nat.le_of_lt (Nat.lt_of_lt_of_le z dn), dne, hn₅⟩)
theorem own_made (T : OwnTxt K mg prog C nC qI) {tv : Nat} {i : Int} (X : K.In s.heap) (hg : s.heap.Ns mainGlobals mg) (hb : s.heap.Ns builtinsNs mb) (hbs : mb "super" = some (.type "super")) (hlim : s.heap.NoLimit)
    (hroom : A.depth + 1 < recursionLimit) (hi : i.natAbs.log2 < 1920) (hq : ∀ h' tk e d, OwnMade s.heap h' e C d (.int i tv) → R (.ok (.ret (.ref e))) { s with heap := h', toks := tk }) :
    codeAny (model prog w) A (.call (.ref C) ⟨[.int i tv], []⟩) R s := by
  obtain ⟨fI, cc, cda, hI, htI, hcc, hcda, hfn⟩ := T.fn
  obtain ⟨nm, q, N, bs, bm, sn, sub, ab, col, dd, k0, k1, k2, k3, k5, hC, hbm⟩ := T.cls
  obtain ⟨hp, g, dr, tk, os⟩ := s
  have up : ∀ b o, hp.get? b = some o → ((hp.push (kdv_tup [.int i tv])).push (excO C hp.objs.size)).get? b = some o := fun b o e => Heap.get?_push_of_some _ (Heap.get?_push_of_some _ e)
  have hx : ((hp.push (kdv_tup [.int i tv])).push (excO C hp.objs.size)).get? (hp.objs.size + 1) = some (excO C hp.objs.size) := by heap_get
  have fresh : K.lookup (hp.objs.size + 1) = none := by
    cases e : K.lookup (hp.objs.size + 1) with
    | none => rfl
    | some o => exact absurd (Nat.lt_of_succ_lt (Heap.lt_size (X _ _ e))) (Nat.lt_irrefl _)
  refine call_own F.excBase_ValueError (fun Y => refsVE_contains Y bm hbm) (X _ _ hC) (looks_findIn X hI) (fun self => bind_fn X self htI) (one_size _) ?_
  refine own_init (s := ⟨(hp.push (kdv_tup [.int i tv])).push (excO C hp.objs.size), g, dr, tk, os⟩) T hI hcc hcda hfn (X.keeps up) (hg.keeps up) (hb.keeps up) hbs (hlim.keeps up) hx fresh hroom hi fun h' tk' dx t1 M => ?_
  have big : hp.objs.size + 1 + 1 ≤ dx := by
    have z := M.dbig
    rw [Heap.size_push, Heap.size_push] at z
    exact z
  exact ⟨rfl, hq h' tk' (hp.objs.size + 1) dx ⟨fun b o e => M.keep b o (Nat.ne_of_lt (Nat.lt_succ_of_lt (Heap.lt_size e))) (up b o e), Nat.le_succ _, ⟨_, _, M.obj, rfl, rfl, rfl, rfl⟩, Nat.le_trans (Nat.le_trans (Nat.le_succ _) (Nat.le_succ _)) big, M.dne, M.ns⟩⟩
end
end OwnE
end PySem
namespace L2
open PySem PySem.Spec PyProof.Rows PySem.OwnE
theorem relO_at {v : V} {v' : Value} (r : RelV v v') (f : Str) : RelO (List.lookup f [(("at" : Str), v)]) (if f = "at" then some v' else none) := by
  by_cases hw : f = "at"
  · subst hw
    rw [if_pos rfl]
    have q : List.lookup ("at" : Str) [(("at" : Str), v)] = some v := by simp [List.lookup]
    rw [q]
    exact r
  · rw [if_neg hw]
    have q : List.lookup f [(("at" : Str), v)] = none := by
      have qw : (f == ("at" : Str)) = false := by simpa using hw
      simp [List.lookup, qw]
    rw [q]
    trivial
section
variable {X : Cx} {C : Addr} {nC qI : Str}
/-- Own(e): the error's dict d is new and holds at = the int -/
def tMkAt (C : Addr) (ta : TA) : St → Hp → XK → Prop := fun σ H Q => ta σ H fun vs H1 => ∃ i : Int, vs = [.int i] ∧ i.natAbs.log2 < 1920 ∧ ∀ d, H1 d = none → Q (.ref C) (some d) (upd H1 d (.xd [(("at" : Str), .int i)]))
theorem pmk_at {a : Expr} {ta : TA} {p pos : Pos} {k : Nat} (T : OwnTxt X.K X.mg X.prog C nC qI) (hr : Room k X.A) (ha : PA X [a] ta) (hg : Gl X nC := by rfl) (hd : (nC == ("__debug__" : Str)) = false := by decide)
    (he : starEach (a :: []) X.env = (false, eval a X.env) :: starEach [] X.env := by rfl) (hpl : (backTo pos (starEach [] X.env)).any (·.1) = false := by rfl) :
    PMk X (.Call (.Name nC p) [a] [] pos) (tMkAt C ta) := by
  intro pins s σ H Q I h
  refine wpAny_Call_Name_kw (ld_glob I hg T.gC ?_ hd)
  refine PySem.W.callWith_K (h₀ := X.base) I.ok.mod.kin T.kC (thn (ha.run pos pins s σ H _ I h) fun us s1 hh => ?_) he hpl
  obtain ⟨vs, H1, I1, r1, i, ev, hi, q1⟩ := hh
  subst ev
  refine ⟨I1.kIn, ?_⟩
  cases r1 with
  | cons rv rn =>
    rename_i v' us'
    cases rn
    obtain ⟨tv, rfl⟩ := rv
    show wpAny _ _ (call (.ref C) [.int i tv]) _ _ _
    have hlim := I1.nolimit
    obtain ⟨mb, hb, hbb⟩ := I1.ok.mod.blt
    obtain ⟨hp, g, dr, tk, os⟩ := s1
    refine wpAny_call (own_made T I1.kIn (I1.mod.glob.keeps I1.bk) (hb.keeps I1.bk) ((hbb "super" (by decide)).trans (by first | boot_by_name | rfl | kernel_rfl)) hlim (by have := hr.dp; omega) hi fun h' tk' e d M => ?_)
    show MkP X pins σ Q (.ref e) ⟨h', g, dr, tk', os⟩
    obtain ⟨oe, fv, hoe, hc, hdd, hdat, h1⟩ := M.obj
    have hns := M.ns
    obtain ⟨G', g1, g2⟩ := restrict h' fun b => decide (b ≠ e)
    have gk : ∀ b, b ≠ e → G'.get? b = h'.get? b := fun b hb => g1 b (decide_eq_true hb)
    have ge : G'.get? e = none := g2 e (by simp)
    have old : ∀ b o, hp.get? b = some o → G'.get? b = some o := fun b o q => (gk b (Nat.ne_of_lt (Nat.lt_of_lt_of_le (Heap.lt_size q) M.new))).trans (M.keep b o q)
    have rv : RelV (.int i) (.int i tv) := ⟨tv, rfl⟩
    have ob : ObjOk X.prog X.w (upd H1 d (.xd [(("at" : Str), .int i)])) G' d (.xd [(("at" : Str), .int i)]) :=
      ⟨_, hns.at (fun o q => (gk d M.dne).trans q), fun f => relO_at rv f⟩
    have J : Inv X pins σ (upd H1 d (.xd [(("at" : Str), .int i)])) ⟨G', g, dr, tk', os⟩ := I1.laid (t' := tk') old M.dbig ob
    refine ⟨e, oe, fv, ⟨G', g, dr, tk', os⟩, _, .ref C, some d, rfl, J, fun b o q => ?_, ge, hoe, ⟨hc, hdd⟩, hdat, h1, ?_, rfl, I1.bare, raises_own T.exC T.tyC, q1 d (I1.hok.fresh M.dbig)⟩
    · by_cases hb : b = e
      · have q' : G'.get? b = some o := q
        rw [hb, ge] at q'; cases q'
      · exact (gk b hb).symm.trans q
    · rw [upd_ne (Ne.symm M.dne)]
      exact I1.hok.fresh M.new
/-- raise Own(e) -/
def tRaiseAt (C : Addr) (W : WX) (ta : TA) : TS := fun _ σ H => tMkAt C ta σ H fun cls d H' => W cls d σ H'
theorem ps_raiseAt {a : Expr} {ta : TA} {W : WX} {p pos pos2 : Pos} {k : Nat} (hc : X.calm = true) (T : OwnTxt X.K X.mg X.prog C nC qI) (hr : Room k X.A) (tk : Takes X W) (ha : PA X [a] ta) (hg : Gl X nC := by rfl) (hd : (nC == ("__debug__" : Str)) = false := by decide)
    (he : starEach (a :: []) X.env = (false, eval a X.env) :: starEach [] X.env := by rfl) (hpl : (backTo pos (starEach [] X.env)).any (·.1) = false := by rfl) :
    PS X (.Raise (some (.Call (.Name nC p) [a] [] pos)) none pos2) (tRaiseAt C W ta) := ps_raise hc tk (pmk_at T hr ha hg hd he hpl)
/-- e.at, e the exception that the suite holds -/
def tByAt (C : Addr) (a : Addr) (cls : Value) (d : Option Addr) (te : TE) : TE := fun σ H Q => te σ H fun x H1 => x = .ref a ∧ cls = .ref C ∧ ∃ (dd : Addr) (v : V), d = some dd ∧ H1 dd = some (.xd [(("at" : Str), v)]) ∧ Q v H1
theorem pe_byAt {a : Addr} {oe : Obj} {cls : Value} {d : Option Addr} {pn : List (Addr × Obj)} {e : Expr} {te : TE} {pos : Pos} (T : OwnTxt X.K X.mg X.prog C nC qI) (hz : Zc cls d oe) (hf : ∃ vs, oe.data = .fields vs) (he : PE (X.suite a ((a, oe) :: pn)) e te)
    (hb : attributeBase e "at" X.env (eval e X.env) = eval e X.env := by rfl) :
    PE (X.suite a ((a, oe) :: pn)) (.Attribute e "at" pos) (tByAt C a cls d te) := by
  refine ⟨fun pins s σ H Q I h => ?_⟩
  refine attr_of hb (thn (he.run pins s σ H _ I h) fun u s1 hh => ?_)
  obtain ⟨x, H1, I1, rx, ex, ec, dd, v, ed, ea, q⟩ := hh
  subst ex
  obtain rfl : u = Value.ref a := rx
  subst ec
  subst ed
  obtain ⟨ha, _⟩ := I1.pin (a, oe) (List.mem_append_left _ List.mem_cons_self)
  obtain ⟨vs, hd⟩ := hf
  obtain ⟨mA, hns, hr⟩ : ObjOk X.prog X.w H1 s1.heap dd (.xd [(("at" : Str), v)]) := I1.hok dd _ ea
  obtain ⟨od, ho, hl⟩ := lookIn_ns hns
  have l : List.lookup ("at" : Str) [(("at" : Str), v)] = some v := by simp [List.lookup]
  obtain ⟨u, hu, ru⟩ := RelO.some_of (v := v) (o := mA "at") (by rw [← l]; exact hr "at")
  have J : PySem.W.InstAt s1.heap a oe C (some od) := ⟨ha, hz.1, by unfold PySem.W.notCls; rw [hd] <;> rfl, by rw [hz.2]; exact ho⟩
  exact HandSPX.exc_get I1.kIn J T.ga T.gg T.exC (PySem.W.findObj_own T.hdC T.noN rfl (by rw [hl, hu])) (handed_of ru) ⟨v, H1, I1.tok _, ru, q⟩
end
end L2

namespace L2
open PySem PySem.Spec PyProof.Rows
section
variable {X : Cx}
def rRg1 : List V → Hp → VK → Prop := fun vs H Q => ∃ j, vs = [V.int j] ∧ ∀ p, H p = none → Q (.ref p) (upd H p (.rng 0 j))
def rRg2 : List V → Hp → VK → Prop := fun vs H Q => ∃ i j, vs = [V.int i, V.int j] ∧ ∀ p, H p = none → Q (.ref p) (upd H p (.rng i j))
theorem cr_rg2 : CallR X (.type "range") rRg2 := cr_range2
theorem cr_rg1 : CallR X (.type "range") rRg1 := by
  intro pins s σ H vs us Q I r h
  obtain ⟨j, rfl, q⟩ := h
  cases r with
  | cons rv rn =>
    cases rn
    obtain ⟨t, rfl⟩ := rv
    refine call_range_1 ⟨.ref s.heap.objs.size, upd H s.heap.objs.size (.rng 0 j), I.laid (t' := s.toks + 2) (fun b o e => Heap.get?_push_of_some _ e) (Nat.le_refl _) ?_, rfl, q _ (I.hok.fresh (Nat.le_refl _))⟩
    exact ⟨_, _, _, Heap.get?_push_size _ rfl⟩
def rInRg : R2 := fun x y H Q => ∃ i a lo hi, x = V.int i ∧ y = V.ref a ∧ H a = some (.rng lo hi) ∧ Q (.bl (decide (lo ≤ i ∧ i < hi))) H
def rNotInRg : R2 := fun x y H Q => ∃ i a lo hi, x = V.int i ∧ y = V.ref a ∧ H a = some (.rng lo hi) ∧ Q (.bl (!decide (lo ≤ i ∧ i < hi))) H
theorem op_inRg : OpR X (compareOp .In) rInRg := op_in_rng
theorem op_notInRg : OpR X (compareOp .NotIn) rNotInRg := by
  intro pins s σ H x y v u Q I rx ry h
  obtain ⟨i, a, lo, hi, rfl, rfl, ha, q⟩ := h
  obtain ⟨k, rfl⟩ := rx
  obtain rfl : u = Value.ref a := ry
  obtain ⟨t1, t2, t3, ho⟩ := I.hok a _ ha
  show wpAny _ _ (do return Value.bool (!(← contains (Value.ref a) (Value.int i k)))) _ _ s
  refine wpAny_bind (wpAny_contains_slot (T := "range") ⟨_, ho, rfl⟩ F.slot_range_contains (call_meets F.slot_range_contains ⟨_, ho, rfl⟩ F.entry_range_contains (F.args_range_contains_2 _ _) (q_contains a lo hi i t1 t2 t3 k)
    ⟨ho, wpAny_truthy_bool (wpAny_pure ⟨.bl _, H, I, rfl, ?_⟩)⟩))
  rw [place1]
  exact q
/-- two pairs of a number and a text -/
def ltP (i : Int) (x : Str) (j : Int) (y : Str) : Bool := if i = j then (if x = y then false else decide (x.cps.toList < y.cps.toList)) else decide (i < j)
def geP (i : Int) (x : Str) (j : Int) (y : Str) : Bool := if i = j then (if x = y then true else !decide (x.cps.toList < y.cps.toList)) else decide (j ≤ i)
def rLtP (K : PySem.W.Frag) : R2 := fun x y H Q => ∃ a b i x1 j y1, x = .ref a ∧ y = .ref b ∧ SqT K H a [.int i, .str x1] ∧ SqT K H b [.int j, .str y1] ∧ Q (.bl (ltP i x1 j y1)) H
def rGeP (K : PySem.W.Frag) : R2 := fun x y H Q => ∃ a b i x1 j y1, x = .ref a ∧ y = .ref b ∧ SqT K H a [.int i, .str x1] ∧ SqT K H b [.int j, .str y1] ∧ Q (.bl (geP i x1 j y1)) H
theorem beq_dec {α : Type} [DecidableEq α] [BEq α] [LawfulBEq α] (a b : α) : (a == b) = decide (a = b) := by
  by_cases h : a = b
  · rw [decide_eq_true h]; exact beq_iff_eq.mpr h
  · rw [decide_eq_false h]; exact beq_eq_false_iff_ne.mpr h
theorem op_ltP (hu : X.A.units + 64 < cLine) : OpR X (compareOp .Lt) (rLtP X.K) := by
  intro pins s σ H x y v u Q I rx ry h
  obtain ⟨a, b, i, x1, j, y1, rfl, rfl, ha, hb, q⟩ := h
  cases rx
  cases ry
  obtain ⟨its, r1, p1, _⟩ := I.tuple ha
  obtain ⟨its2, r2, p2, _⟩ := I.tuple hb
  obtain ⟨u1, u2, rfl, ⟨t1, rfl⟩, ⟨t2, rfl⟩⟩ := r1.two
  obtain ⟨w1, w2, rfl, ⟨t3, rfl⟩, ⟨t4, rfl⟩⟩ := r2.two
  have e : ltP i x1 j y1 = Ob.lexAt (fun k => if k = 0 then decide (i = j) else decide (x1 = y1)) (fun k => if k = 0 then decide (i < j) else decide (x1.cps.toList < y1.cps.toList)) (decide (2 < 2)) 0 2 := by
    unfold ltP Ob.lexAt Ob.lexAt Ob.lexAt
    by_cases h1 : i = j <;> by_cases h2 : x1 = y1 <;> simp [h1, h2]
  rw [e] at q
  refine (Ob.RcOp.tuples_lt (e := fun k => if k = 0 then decide (i = j) else decide (x1 = y1)) (r := fun k => if k = 0 then decide (i < j) else decide (x1.cps.toList < y1.cps.toList)) p1 p2 (Nat.lt_of_le_of_lt (Nat.le_add_right _ _) hu) (fun k h1 h2 => ?_) (fun k h1 h2 _ => ?_)) X.prog X.w _ _ ⟨.bl _, H, I, rfl, q⟩
  · match k, h1 with
    | 0, _ => exact (beq_dec i j) ▸ SeqAt.EqAt.int_int _ _ _ _
    | 1, _ => exact (beq_dec x1 y1) ▸ SeqAt.EqAt.str_str _ _ _ _
  · match k, h1 with
    | 0, _ => exact Ob.RcOp.lt_int _ _ _ _
    | 1, _ => exact fun _ _ _ _ h => lt_str h
theorem op_geP (hu : X.A.units + 64 < cLine) : OpR X (compareOp .GtE) (rGeP X.K) := by
  intro pins s σ H x y v u Q I rx ry h
  obtain ⟨a, b, i, x1, j, y1, rfl, rfl, ha, hb, q⟩ := h
  cases rx
  cases ry
  obtain ⟨its, r1, p1, _⟩ := I.tuple ha
  obtain ⟨its2, r2, p2, _⟩ := I.tuple hb
  obtain ⟨u1, u2, rfl, ⟨t1, rfl⟩, ⟨t2, rfl⟩⟩ := r1.two
  obtain ⟨w1, w2, rfl, ⟨t3, rfl⟩, ⟨t4, rfl⟩⟩ := r2.two
  have e : geP i x1 j y1 = Ob.lexAt (fun k => if k = 0 then decide (i = j) else decide (x1 = y1)) (fun k => if k = 0 then decide (j ≤ i) else !decide (x1.cps.toList < y1.cps.toList)) (decide (2 ≥ 2)) 0 2 := by
    unfold geP Ob.lexAt Ob.lexAt Ob.lexAt
    by_cases h1 : i = j <;> by_cases h2 : x1 = y1 <;> simp [h1, h2]
  rw [e] at q
  refine (Ob.RcOp.tuples_ge (e := fun k => if k = 0 then decide (i = j) else decide (x1 = y1)) (r := fun k => if k = 0 then decide (j ≤ i) else !decide (x1.cps.toList < y1.cps.toList)) p1 p2 (Nat.lt_of_le_of_lt (Nat.le_add_right _ _) hu) (fun k h1 h2 => ?_) (fun k h1 h2 _ => ?_)) X.prog X.w _ _ ⟨.bl _, H, I, rfl, q⟩
  · match k, h1 with
    | 0, _ => exact (beq_dec i j) ▸ SeqAt.EqAt.int_int _ _ _ _
    | 1, _ => exact (beq_dec x1 y1) ▸ SeqAt.EqAt.str_str _ _ _ _
  · match k, h1 with
    | 0, _ => exact Ob.RcOp.ge_int _ _ _ _
    | 1, _ => exact fun _ _ _ _ h => PySem.P.ge_str h
end
/-! ### set(l), l a list of ints -/
/-- a built-in type called: what its __new__ and its __init__ do is left to be shown -/
theorem type_called {T newId initId : String} {P : Program} {w : World} {A : Around} {E : Value → Shared → Prop} {args : List Value} {Q Q₁ : Value → Shared → Prop} {s : Shared} (ft : TypeCalled T newId initId)
    (hct : checkTypeCall T ⟨args, []⟩ = pure ()) (hnew : codeAny (model P w) A.in1 (.call (.builtin newId) ⟨.type T :: args, []⟩) (wants Q₁ E) s)
    (hnext : ∀ obj s₁, Q₁ obj s₁ → s₁.TypeIs obj T ∧ codeAny (model P w) A.in1 (.call (.builtin initId) ⟨obj :: args, []⟩) (wants (fun r s₂ => r = .none ∧ Q obj s₂) E) s₁) :
    wpAny (model P w) A (call (.type T) args) Q E s := by
  obtain ⟨c, tl, hmro⟩ := ft.mro
  have m1 := ft.made
  have m2 := ft.sub
  have m3 := ft.notType
  have m4 := ft.canCreate
  refine wpAny_call (codeAny_of_tree ?_)
  show wpAny _ _ (callAny (.type T) _) _ _ _
  refine wpAny_pure ⟨Code.quiet_builtin _ (by decide +kernel), codeAny_builtin PySem.F.entry_type_call ?_⟩
  rw [Around.under_plain (weight_type_call_type T args []) rfl]
  repeat (any_goals (first | assumption | wp_step))
  refine codeAny_mono hnew fun r s₁ hr => ?_
  cases r with
  | error e => exact hr
  | ok fl =>
    cases fl with
    | ret obj =>
      obtain ⟨hT, hi⟩ := hnext _ _ hr
      have l1 := ft.init.lookup
      have l2 := ft.init.bind obj
      repeat (any_goals (first | assumption | wp_step))
      refine codeAny_mono hi fun r₂ s₂ hr₂ => ?_
      cases r₂ with
      | error e => exact hr₂
      | ok fl₂ =>
        cases fl₂ with
        | ret r =>
          obtain ⟨rfl, hq⟩ := hr₂
          repeat (any_goals (first | assumption | wp_step))
        | _ => exact hr₂.elim
    | _ => exact hr.elim
theorem set_of_list {P : Program} {w : World} {A : Around} {E : Value → Shared → Prop} {s : Shared} {l : Addr} {items : List Value} {ns : List Int} {Q : Value → Shared → Prop} (hh : A.handled = none) (hl : s.heap.IsList l items.toArray) (hi : IntsAre items ns) (hb : ns.length + 1 < scanBound)
    (h : ∀ (h' : Heap) (tk c : Nat), SetR w h' s.heap.objs.size (fun j => decide (j ∈ ns)) c → c ≤ ns.length → (∀ b o, s.heap.get? b = some o → h'.get? b = some o) → Q (.ref s.heap.objs.size) { s with heap := h', toks := tk }) :
    wpAny (model P w) A (call (.type "set") [.ref l]) Q E s := by
  have hz : items.length = ns.length := hi.length
  refine type_called (Q₁ := fun obj s₁ => obj = .ref s.heap.objs.size ∧ s₁ = { s with heap := s.heap.push { cls := .type "set", dict := none, data := .set #[] 0 (.fresh 0 0 (!w.params.followText "set-order")) } }) F.called_set
    (F.typeCall_set_1 _) (code_set_led1 _ ⟨rfl, rfl⟩) fun obj s₁ h₁ => ?_
  obtain ⟨rfl, rfl⟩ := h₁
  have new : (s.heap.push { cls := .type "set", dict := none, data := .set #[] 0 (.fresh 0 0 (!w.params.followText "set-order")) }).get? s.heap.objs.size = some { cls := .type "set", dict := none, data := .set #[] 0 (.fresh 0 0 (!w.params.followText "set-order")) } := Heap.get?_push_size _ rfl
  have up : ∀ b o, s.heap.get? b = some o → (s.heap.push { cls := .type "set", dict := none, data := .set #[] 0 (.fresh 0 0 (!w.params.followText "set-order")) }).get? b = some o := fun b o e => Heap.get?_push_of_some _ e
  refine ⟨⟨_, new, rfl⟩, codeAny_call_builtin F.called_set.init.plain F.entry_set_init (check_set_init_1 ⟨_, new, rfl⟩ ?_)⟩
  obtain ⟨⟨ocls, odict, odata, oslots⟩, ho, hc, nl, hd⟩ := hl
  simp only at hc hd
  subst hc hd
  have ho2 := up _ _ ho
  have hl2 := Heap.lt_size ho
  have isl : (s.heap.push { cls := .type "set", dict := none, data := .set #[] 0 (.fresh 0 0 (!w.params.followText "set-order")) }).IsList l items.toArray := ⟨_, ho2, rfl, nl, rfl⟩
  have f1 := F.sub_list_set
  have f2 := F.sub_list_frozenset
  have f3 : (Value.type "list" == Value.type "dict") = false := by decide
  unfold Builtin.«set.__init__» noKeywords Builtin.Frozenset.updateFrom
  generalize hPI : pyIter = PI
  wp_walk
  subst hPI
  refine wpAny_pyIter_list isl ?_
  refine wpAny_bind (wpAny_runValue ?_)
  have hh3 : A.in1.in1.in1.handled = none := by simp [hh]
  have sz : (s.heap.push { cls := .type "set", dict := none, data := .set #[] 0 (.fresh 0 0 (!w.params.followText "set-order")) }).objs.size = s.heap.objs.size + 1 := Heap.size_push ..
  have n1 : l ≠ (s.heap.push { cls := .type "set", dict := none, data := .set #[] 0 (.fresh 0 0 (!w.params.followText "set-order")) }).objs.size := by rw [sz]; exact Nat.ne_of_lt (Nat.lt_succ_of_lt hl2)
  have n2 : s.heap.objs.size ∉ [(s.heap.push { cls := .type "set", dict := none, data := .set #[] 0 (.fresh 0 0 (!w.params.followText "set-order")) }).objs.size, l] := by
    rw [sz]
    simp only [List.mem_cons, List.not_mem_nil, or_false, not_or]
    exact ⟨Nat.ne_of_lt (Nat.lt_succ_self _), Nat.ne_of_gt hl2⟩
  have hv : ∀ (i : Nat) (v : Value), items.toArray[i]? = some v → ∃ k t, ns[i]? = some k ∧ v = .int k t := fun i v e => by
    have e' : items[i]? = some v := by simpa using e
    have hi' : i < ns.length := by rw [← hz]; exact (List.getElem?_eq_some_iff.mp e').1
    obtain ⟨t, q⟩ := IntsAre.int_at hi i v e'
    exact ⟨ns[i], t, List.getElem?_eq_getElem hi', by rw [q, List.getD_eq_getElem?_getD, List.getElem?_eq_getElem hi'] <;> rfl⟩
  refine set_update_ints ((Walks.list hh3 _ l n1 items.toArray).toS) s.heap.objs.size n2 ns (by simpa using hz) hb hv (items.toArray.size - 0) 0 _ (by omega) (Nat.zero_le _) ⟨⟨_, Heap.get?_push_size _ rfl, rfl, rfl⟩, isl.push _⟩ ?_ ?_
  · exact ⟨0, Nat.le_refl 0, setR_new_at (Heap.get?_push_of_some _ new)⟩
  · intro s' c' hm hc' hS'
    obtain ⟨h', g2, d', tk', os'⟩ := s'
    obtain rfl : g2 = s.gens := hm.gens
    obtain rfl : d' = s.drawn := hm.drawn
    obtain rfl : os' = s.os := hm.os
    show wpAny _ _ _ _ _ _
    refine wpAny_pure ?_
    show wpAny _ _ (ret Value.none) _ _ _
    have hc2 : c' ≤ ns.length := by simpa [hz] using hc'
    refine wpAny_pure ⟨rfl, h h' tk' c' hS' hc2 fun b o e => ?_⟩
    have b0 := Heap.lt_size e
    exact hm.heap b o (by rw [sz]; simp only [List.mem_cons, List.not_mem_nil, or_false, not_or]; exact ⟨Nat.ne_of_lt b0, Nat.ne_of_lt (Nat.lt_succ_of_lt b0)⟩) (Heap.get?_push_of_some _ (up _ _ e))
section
variable {X : Cx}
def rSetOfL (K : PySem.W.Frag) (w : World) : List V → Hp → VK → Prop := fun xs H Q => ∃ (l : Addr) (ns : List Int), xs = [.ref l] ∧ SqL K H l (ns.map V.int) ∧ ns.length < 64 ∧
  ∀ p c, H p = none → c ≤ ns.length → Q (.ref p) (upd H p (SetO w p (fun j => decide (j ∈ ns)) c))
theorem cr_setL (hc : X.calm = true) : CallR X (.type "set") (rSetOfL X.K X.w) := by
  intro pins s σ H xs us Q I r h
  obtain ⟨l, ns, rfl, hl, hz, q⟩ := h
  cases r with
  | cons rv rn =>
    cases rn
    cases rv
    obtain ⟨its, rr, pl, _⟩ := I.list hl
    refine set_of_list (I.ok.hd hc) pl.isList (intsAre_of rr) (by unfold scanBound; omega) fun h' tk c R hcn k => ?_
    exact ⟨.ref s.heap.objs.size, upd H s.heap.objs.size (SetO X.w s.heap.objs.size (fun j => decide (j ∈ ns)) c), I.laid (t' := tk) k (Nat.le_refl _) (setO_new R), rfl, q _ c (I.hok.fresh (Nat.le_refl _)) hcn⟩
end
end L2
namespace L2
open PySem PySem.Spec PyProof.Rows
section
variable {X : Cx}
def rInsert : V → List V → Hp → VK → Prop := fun x vs H Q => ∃ (l : Addr) (xs : List V) (i : Int) (y : V), x = .ref l ∧ vs = [.int i, y] ∧ H l = some (.lst xs) ∧ xs.length < sizeLine ∧ 0 ≤ i ∧ i < 2 ^ 63 ∧
    Q .non (upd H l (.lst (xs.take i.toNat ++ [y] ++ xs.drop i.toNat)))
theorem mt_insertR : MtR X "list.insert" rInsert := mt_insert
end
end L2

namespace PySem
namespace EnumG
open Sem (wp)
open AutoSeq1 (wpAny_loadPart')
section
variable {prog : Program} {w : World} {A : Around} {E : Value → Shared → Prop} {s : Shared}
/-- one turn: what the inner iterator gives, in a new pair -/
theorem next_item {e it : Addr} {i : Int} {old : Value} {N : Value → Shared → Prop} {Q : Value → Shared → Prop} (he : IsEnum s.heap e it i old)
    (hn : ∀ A' E', wpAny (model prog w) A' (Builtin.SmallTypes.nextOf (.ref it)) (fun x s₁ => IsEnum s₁.heap e it i old ∧ N x s₁) E' s)
    (hQ : ∀ x s₁ h', N x s₁ → IsEnumOut h' e it (i + 1) x s₁.heap.objs.size → h'.get? s₁.heap.objs.size = some { cls := .type "tuple", data := .seq #[.int i s₁.toks, x] } →
      (∀ b o, b ≠ e → s₁.heap.get? b = some o → h'.get? b = some o) → Q (.ref s₁.heap.objs.size) { s₁ with heap := h', toks := s₁.toks + 1 }) :
    wpAny (model prog w) A (Builtin.«enumerate.__next__» ⟨[.ref e], []⟩) (fun fin s' => ∃ v, fin = .done (.ret v) ∧ Q v s') E s := by
  show wpAny _ _ (field (.ref e) 2 >>= _) _ _ _
  refine wpAny_bind (wpAny_field he rfl (x := .ref it) rfl (wpAny_bind (wpAny_mono (hn A E) (fun x s₁ hx => ?_) fun _ _ z => z)))
  obtain ⟨he₁, hN⟩ := hx
  have hel : e < s₁.heap.objs.size := Heap.lt_size he₁
  replace hQ := hQ x s₁
  obtain ⟨h1, g, d, tk, os⟩ := s₁
  show wpAny _ _ (field (.ref e) 3 >>= _) _ _ _
  refine wpAny_bind (wpAny_field he₁ rfl (x := rawInt i) rfl ?_)
  show wpAny _ _ (field (.ref e) 4 >>= _) _ _ _
  refine wpAny_bind (wpAny_field he₁ rfl (x := .none) rfl ?_)
  show wpAny _ _ (mkInt i >>= _) _ _ _
  refine wpAny_bind (wpAny_mkInt ?_)
  show wpAny _ _ (setField (.ref e) 3 (rawInt (i + 1)) >>= _) _ _ _
  refine wpAny_bind (wpAny_setField_rec he₁ (by simp) fun h2 e2 b2 => ?_)
  show wpAny _ _ (setField (.ref e) 4 .none >>= _) _ _ _
  refine wpAny_bind (wpAny_setField_rec e2 (by simp) fun h3 e3 b3 => ?_)
  show wpAny _ _ (newTuple [.int i tk, x] >>= _) _ _ _
  refine wpAny_bind (wpAny_newTuple ?_)
  have z3 : h3.objs.size = h1.objs.size := by rw [b3.1, b2.1]
  have e4 : IsEnum (h3.push { cls := .type "tuple", data := .seq #[.int i tk, x] }) e it (i + 1) old := Heap.get?_push_of_some _ e3
  have t4 : (h3.push { cls := .type "tuple", data := .seq #[.int i tk, x] }).get? h1.objs.size = some { cls := .type "tuple", data := .seq #[.int i tk, x] } := by
    rw [← z3]; exact Heap.get?_push_size _ rfl
  have k4 : ∀ b o, b ≠ e → h1.get? b = some o → (h3.push { cls := .type "tuple", data := .seq #[.int i tk, x] }).get? b = some o := fun b o hb q =>
    Heap.get?_push_of_some _ (b3.extBut b o hb (b2.extBut b o hb q))
  show wpAny _ _ (Builtin.SmallTypes.ownedTupleIsFree (.ref e) >>= _) _ _ _
  rw [z3]
  generalize h3.push { cls := .type "tuple", data := .seq #[.int i tk, x] } = h4 at e4 t4 k4
  unfold Builtin.SmallTypes.ownedTupleIsFree
  refine wpAny_bind (wpAny_bind (wpAny_field e4 rfl (x := .none) rfl (wpAny_pure ?_)))
  simp only [if_true]
  refine wpAny_bind (wpAny_rule (wpAny_bind (wpAny_field e4 rfl (x := old) rfl (wpAny_bind (wpAny_setField_rec e4 (by simp) fun h5 e5 b5 => ?_)))))
  show wpAny _ _ (Builtin.SmallTypes.ownedTupleHandOut (.ref e) (.ref h1.objs.size) >>= _) _ _ _
  unfold Builtin.SmallTypes.ownedTupleHandOut
  refine wpAny_bind (wpAny_bind (wpAny_setField_rec e5 (by simp) fun h6 e6 b6 => wpAny_setField_rec e6 (by simp) fun h7 e7 b7 => ?_))
  have far : ∀ b o, b ≠ e → h4.get? b = some o → h7.get? b = some o := fun b o hb q => b7.extBut b o hb (b6.extBut b o hb (b5.extBut b o hb q))
  exact wpAny_bind (wpAny_letGo (wpAny_pure ⟨_, rfl, hQ h7 hN e7 (far _ _ (Nat.ne_of_gt hel) t4) fun b o hb q => far b o hb (k4 b o hb q)⟩))
end
end EnumG
end PySem
namespace PySem
namespace EnumG
open Sem (wp)
section
variable {prog : Program} {w : World} {A : Around} {E : Value → Shared → Prop} {s : Shared}
/-- what an enumerate asks of a tuple's iterator: an item -/
theorem nextOf_tup {it l : Addr} {i : Nat} {items : Array Value} {x : Value} {Q : Value → Shared → Prop} (hit : s.heap.IsTupleIter it l i) (hl : s.heap.IsTuple l items) (hx : items[i]? = some x)
    (hQ : ∀ h', h'.IsTupleIter it l (i + 1) → Heap.SameBut it s.heap h' → Q x { s with heap := h' }) : wpAny (model prog w) A (Builtin.SmallTypes.nextOf (.ref it)) Q E s := by
  obtain ⟨o, ho, hc, hd⟩ := id hit
  obtain ⟨ol, hol, _, nl, hdl⟩ := hl
  unfold Builtin.SmallTypes.nextOf
  refine wpAny_bind (wpAny_callSpecial?_slot (name := Str.ofString "__next__") hit.typeIs F.slot_tuple_iterator_next
    (wpAny_call_entry F.slot_tuple_iterator_next hit.typeIs F.entry_tuple_iterator_next ?_ (F.args_tuple_iterator_next_1 _)))
  show wpAny _ _ (field (.ref it) 0 >>= _) _ _ s
  refine wpAny_bind (wpAny_field ho hd (x := .ref l) rfl ?_)
  show wpAny _ _ (if (Value.ref l == Value.none) = true then _ else _) _ _ s
  rw [if_neg (show ¬ ((Value.ref l == Value.none) = true) from Bool.false_ne_true)]
  show wpAny _ _ (field (.ref it) 1 >>= _) _ _ s
  refine wpAny_bind (wpAny_field ho hd (x := .int i 0) rfl ?_)
  show wpAny _ _ (seqItems? (.ref l) >>= _) _ _ s
  refine wpAny_bind (wpAny_seqItems hol hdl ?_)
  simp only [Int.toNat_natCast, hx]
  refine wpAny_bind (wpAny_setField ho hd (by simp) (wpAny_pure ⟨x, rfl, wpAny_pure (hQ _ ?_ (Heap.SameBut.update ..))⟩))
  exact ⟨_, Heap.get?_update_self _ ho (Obj.isFreed_of_fields (Obj.data_mapFields hd _)), (Obj.cls_mapFields ..).trans hc, by rw [Obj.data_mapFields hd]; simp [rawInt]⟩
/-- its end -/
theorem nextOf_tup_end {it l : Addr} {i : Nat} {items : Array Value} {Q : Value → Shared → Prop} (hh : A.handled = none) (hit : s.heap.IsTupleIter it l i) (hl : s.heap.IsTuple l items) (hx : items[i]? = none)
    (hE : ∀ h' e, Heap.ExtBut it s.heap h' → (∃ o, h'.get? e = some o ∧ o.cls = .type "StopIteration") → E (.ref e) { s with heap := h' }) : wpAny (model prog w) A (Builtin.SmallTypes.nextOf (.ref it)) Q E s := by
  obtain ⟨o, ho, hc, hd⟩ := id hit
  obtain ⟨ol, hol, _, nl, hdl⟩ := hl
  unfold Builtin.SmallTypes.nextOf
  refine wpAny_bind (wpAny_callSpecial?_slot (name := Str.ofString "__next__") hit.typeIs F.slot_tuple_iterator_next
    (wpAny_call_entry F.slot_tuple_iterator_next hit.typeIs F.entry_tuple_iterator_next ?_ (F.args_tuple_iterator_next_1 _)))
  show wpAny _ _ (field (.ref it) 0 >>= _) _ _ s
  refine wpAny_bind (wpAny_field ho hd (x := .ref l) rfl ?_)
  show wpAny _ _ (if (Value.ref l == Value.none) = true then _ else _) _ _ s
  rw [if_neg (show ¬ ((Value.ref l == Value.none) = true) from Bool.false_ne_true)]
  show wpAny _ _ (field (.ref it) 1 >>= _) _ _ s
  refine wpAny_bind (wpAny_field ho hd (x := .int i 0) rfl ?_)
  show wpAny _ _ (seqItems? (.ref l) >>= _) _ _ s
  refine wpAny_bind (wpAny_seqItems hol hdl ?_)
  simp only [Int.toNat_natCast, hx]
  refine wpAny_bind (wpAny_rule (wpAny_bind (wpAny_setField ho hd (by simp) ?_)))
  show wpAny _ _ (newExc (.type "StopIteration") [] >>= _) _ _ _
  refine wpAny_bind ?_
  simp only [newExc, newTuple]
  refine wpAny_bind (wpAny_newObj_type ?_ (by size_fits))
  refine wpAny_bind (m := firstArgMember _ _) (wpAny_of_eq (a := Value.none) (by first | rfl | (simp only [firstArgMember]; rfl)) ?_)
  refine wpAny_newObj_type ?_ (by size_fits)
  simp only [raiseNew]
  refine wpAny_bind (wpAny_handled ?_)
  first | rw [show A.in1.handled = none from hh] | rw [hh]
  refine wpAny_bind (wpAny_pure (wpAny_throw ?_))
  exact hE _ _ (((Heap.SameBut.update ..).extBut.push _).push _) ⟨_, Heap.get?_push_size _ rfl, rfl⟩
theorem pyNext_item {e it l : Addr} {i : Nat} {items : Array Value} {x old : Value} {Q : Option Value → Shared → Prop} (he : IsEnum s.heap e it i old) (hit : s.heap.IsTupleIter it l i) (hl : s.heap.IsTuple l items) (hx : items[i]? = some x) (hne : e ≠ it)
    (hQ : ∀ h', IsEnumOut h' e it ((i : Int) + 1) x s.heap.objs.size → h'.IsTupleIter it l (i + 1) → h'.get? s.heap.objs.size = some { cls := .type "tuple", data := .seq #[.int i s.toks, x] } →
      (∀ b o, b ≠ e → b ≠ it → s.heap.get? b = some o → h'.get? b = some o) → Q (some (.ref s.heap.objs.size)) { s with heap := h', toks := s.toks + 1 }) :
    wpAny (model prog w) A (pyNext (.ref e)) Q E s := by
  have hT : s.TypeIs (.ref e) "enumerate" := ⟨_, he, rfl⟩
  unfold pyNext
  refine wpAny_bind (wpAny_attempt (wpAny_callSpecial?_slot (name := Str.ofString "__next__") hT F.slot_enumerate_next
    (wpAny_call_entry F.slot_enumerate_next hT F.entry_enumerate_next (next_item (N := fun y s₁ => y = x ∧ ∃ h₁, s₁ = { s with heap := h₁ } ∧ h₁.IsTupleIter it l (i + 1) ∧ Heap.SameBut it s.heap h₁) he (fun A' E' => ?_) (fun y s₁ h' hN ho ht k => ?_)) (F.args_enumerate_next_1 _))))
  · exact nextOf_tup hit hl hx fun h₁ hi b => ⟨(b.2 e hne).trans he, rfl, h₁, rfl, hi, b⟩
  · obtain ⟨rfl, h₁, rfl, hi, b⟩ := hN
    have z : h₁.objs.size = s.heap.objs.size := b.1
    simp only [z] at ho ht ⊢
    obtain ⟨oi, hoi, r⟩ := hi
    exact wpAny_pure (hQ h' ho ⟨oi, k _ _ (Ne.symm hne) hoi, r⟩ ht fun c o hce hci q => k c o hce (b.extBut c o hci q))
theorem pyNext_end {e it l : Addr} {i : Nat} {items : Array Value} {old : Value} {Q : Option Value → Shared → Prop} (hh : A.handled = none) (he : IsEnum s.heap e it i old) (hit : s.heap.IsTupleIter it l i) (hl : s.heap.IsTuple l items) (hx : items[i]? = none)
    (hQ : ∀ h', Heap.ExtBut it s.heap h' → Q none { s with heap := h' }) : wpAny (model prog w) A (pyNext (.ref e)) Q E s := by
  have hT : s.TypeIs (.ref e) "enumerate" := ⟨_, he, rfl⟩
  unfold pyNext
  refine wpAny_bind (wpAny_attempt (wpAny_callSpecial?_slot (name := Str.ofString "__next__") hT F.slot_enumerate_next
    (wpAny_call_entry F.slot_enumerate_next hT F.entry_enumerate_next ?_ (F.args_enumerate_next_1 _))))
  show wpAny _ _ (field (.ref e) 2 >>= _) _ _ _
  refine wpAny_bind (wpAny_field he rfl (x := .ref it) rfl ?_)
  refine wpAny_bind (nextOf_tup_end hh hit hl hx fun h' x he' ⟨o, ho, hc⟩ => ?_)
  exact wpAny_bind (wpAny_isInstance (T := "StopIteration") (b := true) ⟨o, ho, hc⟩ isSubtype_stop (wpAny_pure (hQ _ he')))
theorem meets_new (l : Addr) (items : Array Value) (n : Nat) (dct : Option Addr) (sl : Array (Option Value)) :
    Meets (Builtin.«enumerate.__new__» ⟨[.type "enumerate", .ref l], []⟩) (fun _ R s => s.heap.get? l = some { cls := .type "tuple", dict := dct, data := .seq items n, slots := sl } ∧
      R (.ok (.ret (.ref (s.heap.objs.size + 1)))) { s with heap := (s.heap.push { cls := .type "tuple_iterator", data := .fields #[.ref l, .int 0 0] }).push { cls := .type "enumerate", data := .fields #[.none, .bool false, .ref s.heap.objs.size, rawInt 0, .none, .none] } }) :=
  .of_wp fun prog w A R s h => by
    obtain ⟨hp, g, d, tk, os⟩ := s; obtain ⟨hl, h⟩ := h
    have hsub := sub_enumerate
    have hz : (hp.push { cls := .type "tuple_iterator", data := .fields #[.ref l, .int 0 0] }).objs.size = hp.objs.size + 1 := Heap.size_push ..
    have hL : Heap.IsTuple (Shared.heap ⟨hp, g, d, tk, os⟩) l items := ⟨_, hl, rfl, n, rfl⟩
    wp_walk using AutoSeq1.wpAny_loadPart' hl
    refine wpAny_stack_any fun st => wpAny_pure ?_
    split
    · rename_i c _ _ _ _ _
      cases (c == Value.type "enumerate") <;>
      · wp_walk using AutoSeq1.wpAny_loadPart' hl, wpAny_pyIter_tuple hL
        exact ⟨_, rfl, by first | exact h | (rw [hz]; exact h)⟩
    · wp_walk using AutoSeq1.wpAny_loadPart' hl, wpAny_pyIter_tuple hL
      exact ⟨_, rfl, by first | exact h | (rw [hz]; exact h)⟩
theorem call_enum {l : Addr} {items : Array Value} {Q : Value → Shared → Prop} (hL : s.heap.IsTuple l items)
    (h : ∀ h', IsEnum h' (s.heap.objs.size + 1) s.heap.objs.size 0 .none → h'.IsTupleIter s.heap.objs.size l 0 → (∀ b o, s.heap.get? b = some o → h'.get? b = some o) → Q (.ref (s.heap.objs.size + 1)) { s with heap := h' }) :
    wpAny (model prog w) A (call (.type "enumerate") [.ref l]) Q E s := by
  obtain ⟨⟨c, dct, dt, sl⟩, hl, hc, n, hd⟩ := hL
  simp only at hc hd
  subst hc hd
  refine callType_new F.called_enumerate (by decide) (F.typeCall_enumerate_1 _) (F.newCall_enumerate_1 _) (fun obj => F.args_object_init_2 obj _) F.entry_enumerate_new (meets_new l items n dct sl) ⟨hl, ?_⟩
  have hz : (s.heap.push { cls := .type "tuple_iterator", data := .fields #[.ref l, .int 0 0] }).objs.size = s.heap.objs.size + 1 := Heap.size_push ..
  have he : IsEnum ((s.heap.push { cls := .type "tuple_iterator", data := .fields #[.ref l, .int 0 0] }).push { cls := .type "enumerate", data := .fields #[.none, .bool false, .ref s.heap.objs.size, rawInt 0, .none, .none] }) (s.heap.objs.size + 1) s.heap.objs.size 0 .none := by
    have q := Heap.get?_push_size (s.heap.push { cls := .type "tuple_iterator", data := .fields #[.ref l, .int 0 0] }) (o := { cls := .type "enumerate", data := .fields #[.none, .bool false, .ref s.heap.objs.size, rawInt 0, .none, .none] }) rfl
    rw [hz] at q
    exact q
  exact ⟨⟨_, he, rfl⟩, h _ he ⟨_, Heap.get?_push_of_some _ (Heap.get?_push_size _ rfl), rfl, rfl⟩ fun b o x => Heap.get?_push_of_some _ (Heap.get?_push_of_some _ x)⟩
end
end EnumG
end PySem
namespace L2
open PySem PySem.Spec PyProof.Rows
/-- the tuple at a, each item with its number in a new pair -/
def IteT (K : PySem.W.Frag) (a : Addr) : It :=
  ⟨fun i H => ∃ (xs : List V) (x : V), SqT K H a xs ∧ xs[i]? = some x, fun i H v H' => ∃ T x, v = .ref T ∧ H T = none ∧ H' = upd H T (.tup [.int (i : Nat), x]) ∧ ∀ xs, SqT K H a xs → xs[i]? = some x, fun i H => ∃ xs : List V, SqT K H a xs ∧ xs.length ≤ i⟩
theorem turn_enumT {P : Program} {w : World} {K : PySem.W.Frag} {elts : List Expr} {kk : Nat} {tpos : Pos} (a e it : Addr) :
    Turn P w K (.Tuple elts kk tpos) (IteT K a) [e, it] e (fun i h => (∃ old, IsEnum h e it ((i : Nat) : Int) old) ∧ h.IsTupleIter it a i ∧ e ≠ it) where
  mem := by simp
  obj := fun i h ⟨⟨old, he⟩, ⟨o, ho, hc, hd⟩, _⟩ b hb => by
    rcases List.mem_cons.mp hb with rfl | hb
    · exact ⟨_, he, fun v q => nomatch q⟩
    · obtain rfl : b = it := by simpa using hb
      exact ⟨o, ho, fun v q => by rw [hd] at q; cases q⟩
  keep := fun i h h' ⟨⟨old, he⟩, ⟨o, ho, r⟩, hne⟩ k => ⟨⟨old, k e (by simp) _ he⟩, ⟨o, k it (by simp) _ ho, r⟩, hne⟩
  item := by
    intro X hP hw hK hc i pins s σ H E I hf st hg
    subst hP hw hK
    obtain ⟨⟨old, he⟩, hit, hne⟩ := st
    obtain ⟨xs, x, hq, hx⟩ := hg
    obtain ⟨its, rv, p, hz⟩ := I.tuple hq
    obtain ⟨u, hu, ru⟩ := rv.get hx
    have hel : e < s.heap.objs.size := Heap.lt_size he
    have hil : it < s.heap.objs.size := let ⟨_, q, _⟩ := hit; Heap.lt_size q
    refine EnumG.pyNext_item he hit (show s.heap.IsTuple a its.toArray from p) (x := u) (by simpa using hu) hne fun h' ho hit' hT hk => ?_
    refine ⟨_, rfl, wpAny_letOwnedTupleGo_enum (s := { s with heap := h', toks := s.toks + 1 }) ho fun h'' he' sb => ?_⟩
    have hT2 : h''.get? s.heap.objs.size = some { cls := .type "tuple", data := .seq #[.int i s.toks, u] } := (sb.2 _ (Nat.ne_of_gt hel)).trans hT
    have new : ObjOk X.prog X.w (upd H s.heap.objs.size (.tup [.int (i : Nat), x])) h'' s.heap.objs.size (.tup [.int (i : Nat), x]) :=
      ⟨by show 2 ≤ sizeLine; decide, [.int i s.toks, u], .cons ⟨_, rfl⟩ (.cons ru .nil), ⟨_, hT2, rfl, _, rfl⟩⟩
    have I1 : Inv X pins σ (upd H s.heap.objs.size (.tup [.int (i : Nat), x])) { s with heap := h'', toks := s.toks + 1 } :=
      I.turnedNew (ch := [e, it]) (fun b ob hb q => (sb.2 b (fun z => hb (by simp [z]))).trans (hk b ob (fun z => hb (by simp [z])) (fun z => hb (by simp [z])) q)) hf (Nat.le_refl _) new
    obtain ⟨oi, hoi, ri⟩ := hit'
    refine ⟨.ref s.heap.objs.size, _, I1, rfl, ⟨_, x, rfl, I.hok.fresh (Nat.le_refl _), rfl, fun ys hy => by rw [I.tuple_inj hy hq]; exact hx⟩, ⟨⟨u, ?_⟩, ⟨oi, (sb.2 it (Ne.symm hne)).trans hoi, ri⟩, hne⟩, fun b hb => ?_⟩
    · have e1 : ((i + 1 : Nat) : Int) = (i : Int) + 1 := by omega
      rw [e1]; exact he'
    · have hb' : b < s.heap.objs.size := by
        rcases List.mem_cons.mp hb with rfl | hb
        · exact hel
        · obtain rfl : b = it := by simpa using hb
          exact hil
      rw [upd_ne (Nat.ne_of_lt hb')]
      exact (hf b hb).1
  done := by
    intro X hP hw hK hc i pins s σ H E I hf st hg
    subst hP hw hK
    obtain ⟨⟨old, he⟩, hit, hne⟩ := st
    obtain ⟨xs, hq, hx⟩ := hg
    obtain ⟨its, rv, p, hz⟩ := I.tuple hq
    obtain ⟨f0, f1, f2, f3, f4, f5⟩ := hf it (by simp)
    have hl := rv.length
    exact EnumG.pyNext_end (I.ok.hd hc) he hit (show s.heap.IsTuple a its.toArray from p) (by simp; omega) fun h' eb => ⟨rfl, I.turned (t' := s.toks) (fun b o hb q => eb b o hb q) f0 f1 f3 f4 f5⟩
  self := fun A i s Q E ⟨⟨_, he⟩, _⟩ h => wpAny_pyIter_enum he h
def iEnumT (K : PySem.W.Frag) (ta : TA) : TI := fun σ H R => ta σ H fun vs H1 => ∃ a xs, vs = [.ref a] ∧ SqT K H1 a xs ∧ R (IteT K a) H1
theorem pi_enumT {X : Cx} {e : Expr} {ta : TA} {p pos tpos : Pos} {elts : List Expr} {kk : Nat} (hg : Gl X "enumerate") (hm : X.mg "enumerate" = none) (ha : PA X [e] ta) (hs : starEach [e] X.env = [(false, eval e X.env)] := by rfl) :
    PI X (.Tuple elts kk tpos) (.Call (.Name "enumerate" p) [e] [] pos) (iEnumT X.K ta) := by
  refine ⟨fun pins s σ H R I h => ?_⟩
  refine Call_ (ld_blt I hg hm boot_enumerate (PyProof.Rows.callWith_type1 (thn (ha.run pos pins s σ H _ I h) fun us s1 ⟨vs, H1, I1, r1, q1⟩ => ?_) hs rfl))
  obtain ⟨a, xs, ex, hq, q⟩ := q1
  subst ex
  cases r1 with
  | cons r rr =>
    cases rr
    cases r
    obtain ⟨its, rv, p', hz⟩ := I1.tuple hq
    refine EnumG.call_enum (show s1.heap.IsTuple a its.toArray from p') fun h' he hit hk => wpAny_pyIter_enum he ?_
    have I2 : Inv X pins σ H1 { s1 with heap := h' } := I1.kept (t' := s1.toks) hk
    refine ⟨s1.heap.objs.size + 1, [s1.heap.objs.size + 1, s1.heap.objs.size], _, _, H1, rfl, I2, turn_enumT a (s1.heap.objs.size + 1) s1.heap.objs.size, ⟨⟨.none, he⟩, hit, Nat.succ_ne_self _⟩, fun b hb => ?_, q⟩
    have hle : s1.heap.objs.size ≤ b := by
      rcases List.mem_cons.mp hb with rfl | hb
      · exact Nat.le_add_right _ _
      · obtain rfl : b = s1.heap.objs.size := by simpa using hb
        exact Nat.le_refl _
    exact I1.fpOk hle (I1.hok.fresh hle)
end L2
namespace L2
open PySem PySem.Spec PyProof.Rows
/-- isinstance of the exception that a suite holds, its class known, fields in its dict -/
def rIsE3 (K : PySem.W.Frag) (D a : Addr) (cls : Value) (d : Option Addr) : List V → Hp → VK → Prop := fun xs H Q => cls = .ref D ∧ (∃ dd fs, d = some dd ∧ H dd = some (.xd fs)) ∧ rIsE K D a xs H Q
theorem call_isE3 {X : Cx} {a D : Addr} {oe : Obj} {pn : List (Addr × Obj)} {cls : Value} {d : Option Addr} (C : ExcC X.K D) (hz : Zc cls d oe) (hf : ∃ vs, oe.data = .fields vs) :
    CallR (X.suite a ((a, oe) :: pn)) (.builtin "isinstance") (rIsE3 X.K D a cls d) := by
  intro pins s σ H xs us Q I r h
  obtain ⟨rfl, ⟨dd, fs, rfl, hdd⟩, c, cv, b, rfl, hcv, e, q⟩ := h
  cases r with
  | cons rx rr =>
    cases rr with
    | cons rt rr =>
      cases rr
      cases rx
      obtain rfl := hcv _ rt
      obtain ⟨hget, _⟩ := I.pin (a, oe) (List.mem_append.mpr (.inl List.mem_cons_self))
      obtain ⟨vs, hv⟩ := hf
      obtain ⟨mA, hns, hr⟩ : ObjOk X.prog X.w H s.heap dd (.xd fs) := I.hok dd _ hdd
      obtain ⟨od, ho, hl⟩ := lookIn_ns hns
      have J : PySem.W.InstAt s.heap a oe D (some od) := ⟨hget, hz.1, by unfold PySem.W.notCls; rw [hv] <;> rfl, by rw [hz.2]; exact ho⟩
      have hc : (PySem.W.clsIn X.K D).isSome = true := by
        have z := C.hd
        unfold PySem.W.hasDictIn at z
        cases y : PySem.W.clsIn X.K D with
        | none => rw [y] at z; cases z
        | some _ => rfl
      exact PySem.W.kia_one (PySem.W.kitx_exc hc C.hg C.hk C.hs C.ha C.hn C.ht C.hm) I.kIn J e (fun z => nomatch z) fun tk => ⟨.bl b, H, I.kept (t' := tk) fun _ _ z => z, rfl, q⟩
end L2
namespace My
open PySem PySem.Spec PyProof.Rows L2
theorem forET {K : PySem.W.Frag} {ta : TA} {g : TG} {tb : TS} {D : Ends} {σ : L2.St} {H : Hp} {a : Addr} {xs : List V} (i1 i2 : Nat) (Pv : Nat → L2.St → Hp → Prop) (ht : ∀ R : List V → Hp → Prop, R [.ref a] H → ta σ H R) (hS : SqT K H a xs) (h0 : Pv 0 σ H)
    (hl : ∀ j σ H, Pv j σ H → SqT K H a xs) (hx : ∀ j σ H T o, Pv j σ H → H T = none → Pv j σ (upd H T o))
    (hs : ∀ j x σ H, xs[j]? = some x → Pv j σ H → tb { D with nx := Pv (j + 1), ct := Pv (j + 1), bk := D.nx } ((σ.set i1 (some (.int (j : Nat)))).set i2 (some x)) H) (hd : ∀ σ H, Pv xs.length σ H → D.nx σ H)
    (hg : g = gTup K 2 (gCons (gName i1) (gCons (gName i2) gNil)) := by rfl) : tFor (iEnumT K ta) g tb D σ H := by
  subst hg
  refine ht _ ⟨a, xs, rfl, hS, fun i m σ H => m = xs.length - i ∧ i ≤ xs.length ∧ Pv i σ H, ⟨xs.length, by simp, Nat.zero_le _, h0⟩, ?_⟩
  rintro i m σ H ⟨rfl, hi, p⟩
  have q := hl i σ H p
  by_cases hlt : i < xs.length
  · refine .inr ⟨⟨xs, xs[i], q, by simp [hlt]⟩, Pv (i + 1), fun σ' H' p' => ⟨xs.length - (i + 1), by omega, rfl, hlt, p'⟩, fun x H' y => ?_⟩
    obtain ⟨T, x', rfl, hT, rfl, hq⟩ := y
    exact ⟨T, _, rfl, SqT.of upd_same, rfl, _, _, rfl, _, _, rfl, rfl, hs i x' σ _ (hq xs q) (hx i σ H T _ p hT)⟩
  · have e : i = xs.length := by omega
    subst e
    exact .inl ⟨⟨xs, q, Nat.le_refl _⟩, hd σ H p⟩
/-- [e for x in l], l a list, where e may change the objects of B; J is what holds of them -/
theorem lcLB2 {K : PySem.W.Frag} {tl : TE} {g : TG} {tt : TT} {te : TE} {vs : List Nat} {σ : L2.St} {H : Hp} {Q : VK} {l : Addr} {xs : List V} (i : Nat) (B : List Addr) (J : Hp → Prop) (P : Nat → V → Hp → Prop) (ht : ∀ R : VK, R (.ref l) H → tl σ H R) (hS : SqL K (wo B H) l xs) (hn : xs.length ≤ 100000)
    (hP : ∀ j v H H', Ex H H' → P j v H → P j v H')
    (hw : ∀ x, wipe ((wipe σ vs).set i (some x)) vs = wipe σ vs) (hJ : J H)
    (he : ∀ (j : Nat) x D H1 (Q1 : VK) acc, xs[j]? = some x → H D = none → H1 D = some (.lst acc) → Ex (wo B H) (wo B (wo [D] H1)) → J (wo [D] H1) →
      (∀ v H2, H2 D = H1 D → Ex (wo B (wo [D] H1)) (wo B (wo [D] H2)) → J (wo [D] H2) → P j v (wo B (wo [D] H2)) → Q1 v H2) → te ((wipe σ vs).set i (some x)) H1 Q1)
    (k : ∀ D H' ys, H D = none → Ex (wo B H) (wo B (wo [D] H')) → J (wo [D] H') → H' D = some (.lst ys) → Made xs.length P ys (wo B (wo [D] H')) → Q (.ref D) H')
    (hg : g = gName i := by rfl) (htt : tt = tYes := by rfl) : tLc (iList K tl) g tt te vs σ H Q := by
  subst hg htt
  refine ht _ ⟨l, rfl, ⟨xs, wo_ex.sqL hS⟩, fun D hD => ?_⟩
  refine lc_list (xs := xs) (fun j H' => j ≤ xs.length ∧ Ex (wo B H) (wo B (wo [D] H')) ∧ J (wo [D] H') ∧ ∃ ys, H' D = some (.lst ys) ∧ Made j P ys (wo B (wo [D] H'))) ⟨Nat.zero_le _, ?_, ?_, [], upd_same, rfl, fun j hj => absurd hj (Nat.not_lt_zero j)⟩ (fun j H' _ p => ?_) (fun j x H' hx p => ?_) (fun H' p => ?_)
  · rw [wo_upd (List.mem_singleton.mpr rfl), wo_off hD]
    exact Same.refl _
  · rw [wo_upd (List.mem_singleton.mpr rfl), wo_off hD]
    exact hJ
  · exact Ex.sqL wo_ex (Ex.sqL wo_ex (Ex.sqL p.2.1 hS))
  · obtain ⟨hj, e, hj1, ys, hy, hm⟩ := p
    have hjl : j < xs.length := (List.getElem?_eq_some_iff.mp hx).1
    refine ⟨hw _, ?_⟩
    simp only [tYes, if_true]
    refine he j x D H' _ ys hx hD hy e hj1 (fun v H2 hD2 e2 hj2 hv => ⟨ys, hD2.trans hy, ?_, hjl, ?_, ?_, ys ++ [v], upd_same, ?_⟩)
    · rw [hm.1]
      exact Nat.lt_of_lt_of_le (show j < 100000 by omega) (by decide)
    · rw [wo_upd (List.mem_singleton.mpr rfl)]
      exact e.trans e2
    · rw [wo_upd (List.mem_singleton.mpr rfl)]
      exact hj2
    · rw [wo_upd (List.mem_singleton.mpr rfl)]
      exact hm.more (fun j u hu => hP _ _ _ _ e2 hu) hv
  · obtain ⟨hj, e, hj1, ys, hy, hm⟩ := p
    exact k D H' ys hD e hj1 hy hm
end My

namespace My
open PySem PySem.Spec PyProof.Rows L2
theorem funD_mk {K : PySem.W.Frag} {x qual : Str} {st : Stmt} {f T : Addr} {oc : Value} {od an : Option Addr} {osl : Array (Option Value)} {kV doc pm cdv ct : Value} {o : Obj} {dvs : List V}
    (l : K.lookup f = some ⟨oc, od, .func (PySem.W.fnOf x qual (defArgs st) (defBody st) (defScope st) (.ref T) kV doc pm an cdv ct), osl⟩)
    (c : PySem.W.codeIn K cdv qual = true) (k : PySem.W.keepIn K (.ref f) = true) (hd : dvs ≠ []) (lT : K.lookup T = some o) (vT : TupObj o dvs) :
    FunD K x qual (defArgs st) (defBody st) (defScope st) dvs [] f (PySem.W.fnOf x qual (defArgs st) (defBody st) (defScope st) (.ref T) kV doc pm an cdv ct) := by
  obtain ⟨_, its, n, h3, _, h5⟩ := vT
  exact ⟨⟨oc, od, .ref T, kV, doc, pm, an, cdv, ct, osl, rfl, l, c, .inr ⟨hd, T, o, its.toList, n, rfl, lT, by rw [h3] <;> simp, h5⟩, .inl rfl⟩, k⟩
/-- for x in range(lo, hi, c) -/
theorem forR3 {ta : TA} {g : TG} {tb : TS} {D : Ends} {σ : L2.St} {H : Hp} {lo hi c : Int} {n : Nat} (i : Nat) (Pv : Nat → L2.St → Hp → Prop) (ht : ∀ R : List V → Hp → Prop, R [.int lo, .int hi, .int c] H → ta σ H R) (hr : RgC lo hi c n) (h0 : Pv 0 σ H)
    (hs : ∀ (j : Nat) σ H, j < n → Pv j σ H → tb { D with nx := Pv (j + 1), ct := Pv (j + 1), bk := D.nx } (σ.set i (some (.int (lo + (j : Nat) * c)))) H) (hd : ∀ σ H, Pv n σ H → D.nx σ H)
    (hg : g = gName i := by rfl) : tFor (iRng3 ta) g tb D σ H := by
  subst hg
  exact ht _ ⟨lo, hi, c, n, rfl, hr, for_rangeC Pv h0 hs hd⟩
/-- the frames of a phase: range(phase, 32, every) -/
theorem rgc_phase : ∀ k < 6, ∀ p < 2 ^ k, RgC ((p : Nat) : Int) 32 ((2 ^ k : Nat) : Int) (32 / 2 ^ k) := by
  unfold RgC
  decide +kernel
/-- [e for x in t], t a tuple that a call or a display makes -/
theorem lcAtT {K : PySem.W.Frag} {tl : TE} {g : TG} {tt : TT} {te : TE} {vs : List Nat} {σ : L2.St} {H : Hp} {Q : VK} (S : Addr → Hp → Prop) (ht : ∀ R : VK, (∀ p H0, S p H0 → R (.ref p) H0) → tl σ H R)
    (k : ∀ p H0, S p H0 → tLc (iTup K fun _ H' R => R (.ref p) H') g tt te vs σ H0 Q) : tLc (iTup K tl) g tt te vs σ H Q :=
  ht _ fun p H0 s => k p H0 s
/-- [e for i, x in enumerate(t)], t a tuple -/
theorem lcET {K : PySem.W.Frag} {ta : TA} {g : TG} {tt : TT} {te : TE} {vs : List Nat} {σ : L2.St} {H : Hp} {Q : VK} {a : Addr} {xs : List V} (i1 i2 : Nat) (P : Nat → V → Hp → Prop) (ht : ∀ R : List V → Hp → Prop, R [.ref a] H → ta σ H R) (hS : SqT K H a xs) (hn : xs.length ≤ 100000)
    (hP : ∀ j v H H', Ex H H' → P j v H → P j v H')
    (hw : ∀ x y, wipe (((wipe σ vs).set i1 (some x)).set i2 (some y)) vs = wipe σ vs)
    (he : ∀ (j : Nat) x D H1 (Q1 : VK), xs[j]? = some x → H D = none → H1 D ≠ none → Ex H (wo [D] H1) → (∀ v H2, Ex H1 H2 → P j v (wo [D] H2) → Q1 v H2) → te (((wipe σ vs).set i1 (some (.int (j : Nat)))).set i2 (some x)) H1 Q1)
    (k : ∀ D H' ys, H D = none → Ex H (wo [D] H') → H' D = some (.lst ys) → Made xs.length P ys (wo [D] H') → Q (.ref D) H')
    (hg : g = gTup K 2 (gCons (gName i1) (gCons (gName i2) gNil)) := by rfl) (htt : tt = tYes := by rfl) : tLc (iEnumT K ta) g tt te vs σ H Q := by
  subst hg htt
  refine ht _ ⟨a, xs, rfl, hS, fun D hD => ?_⟩
  refine ⟨fun j m H' => m = xs.length - j ∧ j ≤ xs.length ∧ Ex H (wo [D] H') ∧ ∃ ys, H' D = some (.lst ys) ∧ Made j P ys (wo [D] H'), ⟨xs.length, by simp, Nat.zero_le _, ?_, [], upd_same, rfl, fun j hj => absurd hj (Nat.not_lt_zero j)⟩, ?_⟩
  · exact (Ex.new hD).woN fun b hb => by rw [List.mem_singleton.mp hb]; exact hD
  · rintro j m H' ⟨rfl, hj, e, ys, hy, hm⟩
    have hq : SqT K H' a xs := Ex.sqT (Same.trans e wo_ex) hS
    by_cases hlt : j < xs.length
    · refine .inr ⟨⟨xs, xs[j], hq, by simp [hlt]⟩, fun H' => Ex H (wo [D] H') ∧ ∃ ys, H' D = some (.lst ys) ∧ Made (j + 1) P ys (wo [D] H'), fun H2 p' => ⟨xs.length - (j + 1), by omega, rfl, hlt, p'.1, p'.2⟩, fun x H2 y => ?_⟩
      obtain ⟨T, x', rfl, hT, rfl, hx⟩ := y
      have eT : Ex H' (upd H' T (.tup [.int (j : Nat), x'])) := Ex.new hT
      refine ⟨T, _, rfl, SqT.of upd_same, rfl, _, _, rfl, _, _, rfl, rfl, hw _ _, ?_⟩
      simp only [tYes, if_true]
      refine he j x' D _ _ (hx xs hq) hD (by rw [eT _ _ hy]; exact fun z => by cases z) (Same.trans e eT.wo) (fun v H2 e2 hv => ⟨ys, e2 _ _ (eT _ _ hy), ?_, ?_, ys ++ [v], upd_same, ?_⟩)
      · rw [hm.1]
        exact Nat.lt_of_lt_of_le (show j < 100000 by omega) (by decide)
      · rw [wo_upd (List.mem_singleton.mpr rfl)]
        exact Same.trans e (Same.trans eT.wo e2.wo)
      · rw [wo_upd (List.mem_singleton.mpr rfl)]
        exact hm.more (fun j u hu => hP _ _ _ _ (Same.trans eT.wo e2.wo) hu) hv
    · have ej : j = xs.length := by omega
      subst ej
      exact .inl ⟨⟨xs, hq, Nat.le_refl _⟩, k D H' ys hD e hy hm⟩
end My

namespace PySem
namespace OwnF
open PySem.W PySem.Calls PyProof.Rows PySem.HandSPX PySem.OwnE
def iA (p1 p2 : Pos) : Arguments := { posonlyargs := [], args := [{ arg := "self", annotation := none, pos := p1 }, { arg := "frames", annotation := none, pos := p2 }], vararg := none, kwonlyargs := [], kw_defaults := [], kwarg := none, defaults := [] }
def iB (tx : Str) (p0 p1 p2 p3 p7 p8 q1 q2 q3 q4 q5 q6 : Pos) : List Stmt :=
  [.Expr (.Call (.Attribute (.Call (.Name "super" p0) [] [] p1) "__init__" p2) [.Constant (.str tx) 0 p3] [] p7) p8,
   .Assign [.Attribute (.Name "self" q1) "frames" q2] (.Call (.Name "list" q5) [.Name "frames" q3] [] q6) q4]
def iS : Scope := { kind := .function, names := [(PySem.Str.ofString "self", .local), (PySem.Str.ofString "frames", .local), (PySem.Str.ofString "__class__", .free), (PySem.Str.ofString "super", .globalImplicit), (PySem.Str.ofString "list", .globalImplicit)], isGenerator := false, isCoroutine := false, more := [] }
structure OwnTxt (K : Frag) (mg : Str → Option Value) (P : Program) (C : Addr) (nC qI : Str) : Prop where
  gC : mg nC = some (.ref C)
  cls : ∃ nm q N bs bm sn sub ab col dd k0 k1 k2 k3 k5, K.lookup C = some (excClassObj nm q C N bs bm true sn sub ab col dd k0 k1 k2 k3 k5 "ValueError.__new__") ∧ refsVE bm = true
  sa : findIn K (.ref C) "__setattr__" = some (some (.builtin "object.__setattr__"))
  ga : findIn K (.ref C) "__getattribute__" = some (some (.builtin "BaseException.__getattribute__"))
  gg : findIn K (.ref C) "__getattr__" = some none
  noN : findIn K (.ref C) "frames" = some none
  kC : keepIn K (.ref C) = true
  exC : subIn K (.ref C) (.type "BaseException") = some true
  veC : subIn K (.ref C) (.type "ValueError") = some true
  mrC : mroIn K C (.ref C) = some true
  tyC : typeIn K (.ref C) = some (.type "type")
  hdC : hasDictIn K C = true
  sup : ks_superIn K C C "__init__" = some (some (.builtin "ValueError.__init__"))
  noT : nsIn K cStatics "thirdparty.any" = some none
  noL : nsIn K mainGlobals "list" = some none
  noS : nsIn K mainGlobals "super" = some none
  top : (P.main.scope.names.lookup ("super" : Str)).isSome = false
  fn : ∃ (fI cc cda : Addr), findIn K (.ref C) "__init__" = some (some (.ref fI)) ∧ typeIn K (.ref fI) = some (.type "function") ∧
    (∃ (cl : Value) (cld : Option Addr) (csl : Array (Option Value)), K.lookup cc = some ⟨cl, cld, .cell (some (.ref C)), csl⟩) ∧
    (∃ (ccl : Value) (cdd : Option Addr) (ccs : Array (Option Value)) (vs : Array Value) (file : Str) (tf : Tok), K.lookup cda = some ⟨ccl, cdd, .fields vs, ccs⟩ ∧ vs[2]? = some (.str file tf) ∧ ((P.main.file : Str) == file) = true) ∧
    ∃ (oc : Value) (od : Option Addr) (doc pm : Value) (an : Option Addr) (ct : Value) (osl : Array (Option Value)) (tx : Str) (p1 p2 p0 p3 p4 p5 p9 pa q1 q2 q3 q4 q5 q6 : Pos),
    K.lookup fI = some ⟨oc, od, .func (ksFn "__init__" qI (iA p1 p2) (iB tx p0 p3 p4 p5 p9 pa q1 q2 q3 q4 q5 q6) iS .none .none doc pm an (.ref cda) ct cc), osl⟩ ∧ codeIn K (.ref cda) qI = true ∧ tx.length ≤ 1000 ∧ (p4.endLine == p9.line) = true
/-- at l: a list of these items -/
def LstAt (h : Heap) (l : Addr) (items : Array Value) (n : Nat) : Prop := h.get? l = some { cls := .type "list", dict := none, data := .seq items n, slots := #[] }
/-- what __init__ leaves of a fresh exception at x -/
structure InitEnd (h h' : Heap) (x C dx t1 nl : Addr) (items : Array Value) : Prop where
  keep : ∀ b o, b ≠ x → h.get? b = some o → h'.get? b = some o
  obj : h'.get? x = some { cls := .ref C, dict := some dx, data := .fields #[.ref t1, .none, .none, .none, .bool false, .none] }
  dbig : h.objs.size ≤ dx
  dne : dx ≠ x
  nbig : h.objs.size ≤ nl
  nne : nl ≠ x
  ndx : nl ≠ dx
  lst : ∃ n, LstAt h' nl items n
  ns : h'.Ns1 dx (fun y => if y = "frames" then some (.ref nl) else none)
structure OwnMade (h h' : Heap) (e C d nl : Addr) (items : Array Value) : Prop where
  keep : ∀ b o, h.get? b = some o → h'.get? b = some o
  new : h.objs.size ≤ e
  obj : ∃ oe vs, h'.get? e = some oe ∧ oe.cls = .ref C ∧ oe.dict = some d ∧ oe.data = .fields vs ∧ vs[1]? = some .none
  dbig : h.objs.size ≤ d
  dne : d ≠ e
  nbig : h.objs.size ≤ nl
  nne : nl ≠ e
  ndx : nl ≠ d
  lst : ∃ n, LstAt h' nl items n
  ns : h'.Ns1 d (fun y => if y = "frames" then some (.ref nl) else none)
section
variable {prog : Program} {w : World} {A : Around} {E : Value → Shared → Prop} {R : Result → Shared → Prop} {s : Shared} {K : Frag} {mg mb : Str → Option Value} {C : Addr} {nC qI : Str}
theorem own_init (T : OwnTxt K mg prog C nC qI) {fI cc cda : Addr} (hI : findIn K (.ref C) "__init__" = some (some (.ref fI)))
    (hcc : ∃ (cl : Value) (cld : Option Addr) (csl : Array (Option Value)), K.lookup cc = some ⟨cl, cld, .cell (some (.ref C)), csl⟩)
    (hcda : ∃ (ccl : Value) (cdd : Option Addr) (ccs : Array (Option Value)) (vs : Array Value) (file : Str) (tf : Tok), K.lookup cda = some ⟨ccl, cdd, .fields vs, ccs⟩ ∧ vs[2]? = some (.str file tf) ∧ ((prog.main.file : Str) == file) = true)
    (hfn : ∃ (oc : Value) (od : Option Addr) (doc pm : Value) (an : Option Addr) (ct : Value) (osl : Array (Option Value)) (tx : Str) (p1 p2 p0 p3 p4 p5 p9 pa q1 q2 q3 q4 q5 q6 : Pos),
      K.lookup fI = some ⟨oc, od, .func (ksFn "__init__" qI (iA p1 p2) (iB tx p0 p3 p4 p5 p9 pa q1 q2 q3 q4 q5 q6) iS .none .none doc pm an (.ref cda) ct cc), osl⟩ ∧ codeIn K (.ref cda) qI = true ∧ tx.length ≤ 1000 ∧ (p4.endLine == p9.line) = true)
    {x t0 l : Nat} {items : Array Value} {n0 : Nat} (X : K.In s.heap) (hg : s.heap.Ns mainGlobals mg) (hb : s.heap.Ns builtinsNs mb) (hbs : mb "super" = some (.type "super"))
    (hlim : s.heap.NoLimit) (hx : s.heap.get? x = some (excO C t0)) (hnx : K.lookup x = none) (hroom : A.depth < recursionLimit) (hl : LstAt s.heap l items n0) (hz : items.size ≤ sizeLine) (hbl : mb "list" = some (.type "list"))
    (hq : ∀ h' tk dx t1 nl, InitEnd s.heap h' x C dx t1 nl items → R (.ok (.ret .none)) { s with heap := h', toks := tk }) :
    codeAny (model prog w) A (.call (.ref fI) ⟨[.ref x, .ref l], []⟩) R s := by
  obtain ⟨oc, od, doc, pm, an, ct, osl, tx, p1, p2, p0, p3, p4, p5, p9, pa, q1, q2, q3, q4, q5, q6, ho, hcd, htx, hline⟩ := hfn
  obtain ⟨nm, q, N, bs, bm, sn, sub, ab, col, dd, k0, k1, k2, k3, k5, hC, hbm⟩ := T.cls
  obtain ⟨cl, cld, csl, hcell⟩ := hcc
  obtain ⟨ccl, cdd, ccs, vs, file, tf, hcode, hvs, hfile⟩ := hcda
  have hclD : clsIn K C = some { name := nm, bases := bs, mro := .ref C :: bm, ns := N, qualname := q, hasDict := true, slotNames := sn, subclasses := sub, abstract := ab, collection := col, hasDel := false } := by unfold clsIn; rw [hC] <;> rfl
  refine ks_codeAny_call_defAt (fd := ksFn "__init__" qI (iA p1 p2) (iB tx p0 p3 p4 p5 p9 pa q1 q2 q3 q4 q5 q6) iS .none .none doc pm an (.ref cda) ct cc) (binds := [("self", .ref x), ("frames", .ref l)]) hroom (X _ _ ho) rfl hlim (codeRec_of X hcd) rfl
    (BindsTo.of_eq (by first | rfl | with_unfolding_all rfl)) (show ∀ x ∈ iS.names, x.2 ≠ .cell by decide) (fun y hy => by
      rcases List.mem_cons.mp hy with rfl | hy
      · rfl
      · rcases List.mem_cons.mp hy with rfl | hy
        · rfl
        · exact absurd hy (List.not_mem_nil)) (fun h₁ hns hk₁ => ?_)
  have X₁ : K.In h₁ := X.keeps hk₁
  have hx₁ := hk₁ _ _ hx
  show wpAt _ _ _ (execs (iB tx p0 p3 p4 p5 p9 pa q1 q2 q3 q4 q5 q6) (ksEnv qI iS s.heap.objs.size fI (.ref cda) cc)) _ _ _
  refine ks_wpAt_execs_cons (ks_wpAt_Expr_any (mcAt ?_ rfl hline))
  obtain ⟨hh, g, d, t, os⟩ := s
  refine ks_wpAt_super_base (env := ksEnv qI iS hh.objs.size fI (.ref cda) cc) (ar := { arg := "self", annotation := none, pos := p1 }) rfl rfl (by decide) rfl (X₁ _ _ ho) rfl rfl rfl (X₁ _ _ hcode) rfl hvs hfile T.top ?_
  refine ks_loadName_global rfl rfl (loadGlobal_builtin (env := ksEnv qI iS hh.objs.size fI (.ref cda) cc) (mg := mg) (mb := mb) (hg.keeps hk₁) (mg_none_of X hg T.noS) (hb.keeps hk₁) hbs ⟨rfl, ?_⟩)
  refine wpAny_loadName_free rfl rfl rfl ⟨_, X₁ _ _ hcell, rfl⟩ ?_
  refine wpAny_loadName_local rfl rfl hns rfl ?_
  refine ks_wpAny_isType_cls (X₁ _ _ hC) rfl ⟨rfl, ?_⟩
  refine ks_wpAny_call_super (X₁ _ _ hC) rfl hx₁ rfl (fun c e => by cases e) (looks_mroIn X₁ T.mrC) (fun h₂ e2 k2 => ?_)
  have X₂ : K.In h₂ := X₁.keeps k2
  have hx₂ := k2 _ _ hx₁
  have hxC : x ≠ C := by
    rintro rfl
    have z := X₁ _ _ hC
    rw [hx₁] at z
    cases z
  have hsup := T.sup
  unfold ks_superIn at hsup
  rw [hclD] at hsup
  have hI2 : Looks (model prog w) h₂ (isInstance (.ref x) (.type "ValueError")) true :=
    (InstAt.type (M := model prog w) (od := none) ⟨hx₂, rfl, rfl, trivial⟩).andThen (looks_subIn X₂ T.veC)
  refine kxs_getMethod kxs_ValueError e2 (looks_opaque X₂ T.noT) (l₀ := .ref C :: bm) (fun A Q E s k q => wpAny_bind ((looks_clsIn X₂ hclD) A _ E s k (wpAny_pure q))) rfl X₂ hsup hI2 hxC (by decide) ?_
  have k3 : ∀ b o, h₂.get? b = some o → (h₂.push (kxs_mw "ValueError.__init__" x)).get? b = some o := fun b o e => Heap.get?_push_of_some _ e
  have hu : (h₂.push (kxs_mw "ValueError.__init__" x)).get? h₂.objs.size = some (kxs_mw "ValueError.__init__" x) := Heap.get?_push_at rfl rfl
  refine kxs_callWith (i := "ValueError.__init__") (x := x) rfl (evalArgs_plain (spliced_cons ?_))
  have hns3 := (hns.keeps k2).keeps k3
  have hlen0 : (Str.empty ++ tx).length ≤ sizeLine := by
    have e0 : (Str.empty : Str).length = 0 := rfl
    rw [sizeLine_eq, strLen_append, e0]
    omega
  have hx3 := k3 _ _ hx₂
  have hxC3 := k3 _ _ (k2 _ _ (X₁ _ _ hC))
  refine wpAny_Constant_str (k := 0) (pos := p5) ?_
  refine spliced_nil ⟨hu, ?_⟩
  refine call_mw (k3 _ _ (k2 _ _ (X₁ _ _ hC))) (k3 _ _ hx₂) hu (one_size _) (fun h₄ t1 k4 hx₄ => ?_)
  have hxL : hh.objs.size ≠ x := Nat.ne_of_gt (Heap.lt_size hx)
  have hns4 : h₄.Ns hh.objs.size (fun y => ([(PySem.Str.ofString "self", Value.ref x), (PySem.Str.ofString "frames", Value.ref l)] : List (Str × Value)).reverse.lookup y) := hns3.at fun o q => k4 _ _ hxL q
  have X₄ : K.In h₄ := fun b o e => k4 b o (fun z => by rw [z, hnx] at e; cases e) ((X₂.keeps k3) _ _ e)
  show wpAt _ _ _ (execs _ _) _ _ _
  refine wpAt_of_wpAny (wpAny_execs_cons (plainObj_wpAny_Assign_Attribute ?_))
  have hl4 : LstAt h₄ l items n0 := k4 _ _ (fun z => by
      have hl' : hh.get? l = _ := hl
      rw [z] at hl'
      have hx' : hh.get? x = _ := hx
      rw [hx'] at hl'
      cases hl') (k3 _ _ (k2 _ _ (hk₁ _ _ hl)))
  have apart : ∀ (L : Addr) (m : Str → Option Value), hh.Ns L m → L ≠ x := fun L m hL z => by
    obtain ⟨o, es, ep, ho', hd', _⟩ := hL
    have hx' : hh.get? x = _ := hx
    rw [z, hx'] at ho'
    cases ho'
    cases hd'
  have hg4 : h₄.Ns mainGlobals mg := ((hg.keeps hk₁).keeps fun b o q => k3 b o (k2 b o q)).at fun o q => k4 _ _ (apart _ _ hg) q
  have hb4 : h₄.Ns builtinsNs mb := ((hb.keeps hk₁).keeps fun b o q => k3 b o (k2 b o q)).at fun o q => k4 _ _ (apart _ _ hb) q
  refine Call_ (wpAny_Name (ks_loadName_global rfl rfl (loadGlobal_builtin (mg := mg) (mb := mb) hg4 (mg_none_of X hg T.noL) hb4 hbl ?_)) (by decide))
  refine PyProof.Rows.callWith_type1 (spliced_cons (ldN rfl hns4 (v := .ref l) rfl (spliced_nil ?_) rfl rfl (by decide)))
  refine call_list_seq l (.inl rfl) hl4 rfl rfl (fun h5 c' k5 e5 => ?_) hz
  have hns5 := hns4.keeps k5
  have X5 : K.In h5 := X₄.keeps k5
  refine ldN rfl hns5 (v := .ref x) rfl ?_ rfl rfl (by decide)
  have hx5 := k5 _ _ hx₄
  refine set_plain X5 (ox := excO C t1) (od := none) ⟨hx5, rfl, rfl, trivial⟩ T.sa ?_
  refine exc_osa X5 hx5 hclD (show refsVE (.ref C :: bm) = true from hbm) rfl T.noN (fun h6 tk6 dx k6 dn dne hx6 hn6 => ?_)
  show wpAny _ _ (execs _ _) _ _ _
  have z : hh.objs.size < h₄.objs.size := hns4.lt
  have z5 : h₄.objs.size < h5.objs.size := Heap.lt_size e5
  have nx : h₄.objs.size ≠ x := Nat.ne_of_gt (Heap.lt_size hx₄)
  refine wpAny_execs_nil (hq h6 tk6 dx t1 h₄.objs.size ⟨fun b o hb e => k6 b o hb (k5 b o (k4 b o hb (k3 _ _ (k2 _ _ (hk₁ b o e))))), hx6, ?_, dne, Nat.le_of_lt z, nx, ?_, ⟨c', k6 _ _ nx e5⟩, hn6⟩)
  · exact Nat.le_of_lt (Nat.lt_of_lt_of_le (Nat.lt_trans z z5) dn)
  · exact Nat.ne_of_lt (Nat.lt_of_lt_of_le z5 dn)
theorem own_made (T : OwnTxt K mg prog C nC qI) {l : Nat} {items : Array Value} {n0 : Nat} (X : K.In s.heap) (hg : s.heap.Ns mainGlobals mg) (hb : s.heap.Ns builtinsNs mb) (hbs : mb "super" = some (.type "super")) (hlim : s.heap.NoLimit)
    (hroom : A.depth + 1 < recursionLimit) (hl : LstAt s.heap l items n0) (hz : items.size ≤ sizeLine) (hbl : mb "list" = some (.type "list")) (hq : ∀ h' tk e d nl, OwnMade s.heap h' e C d nl items → R (.ok (.ret (.ref e))) { s with heap := h', toks := tk }) :
    codeAny (model prog w) A (.call (.ref C) ⟨[.ref l], []⟩) R s := by
  obtain ⟨fI, cc, cda, hI, htI, hcc, hcda, hfn⟩ := T.fn
  obtain ⟨nm, q, N, bs, bm, sn, sub, ab, col, dd, k0, k1, k2, k3, k5, hC, hbm⟩ := T.cls
  obtain ⟨hp, g, dr, tk, os⟩ := s
  have up : ∀ b o, hp.get? b = some o → ((hp.push (kdv_tup [.ref l])).push (excO C hp.objs.size)).get? b = some o := fun b o e => Heap.get?_push_of_some _ (Heap.get?_push_of_some _ e)
  have hx : ((hp.push (kdv_tup [.ref l])).push (excO C hp.objs.size)).get? (hp.objs.size + 1) = some (excO C hp.objs.size) := by heap_get
  have fresh : K.lookup (hp.objs.size + 1) = none := by
    cases e : K.lookup (hp.objs.size + 1) with
    | none => rfl
    | some o => exact absurd (Nat.lt_of_succ_lt (Heap.lt_size (X _ _ e))) (Nat.lt_irrefl _)
  refine call_own F.excBase_ValueError (fun Y => refsVE_contains Y bm hbm) (X _ _ hC) (looks_findIn X hI) (fun self => bind_fn X self htI) (one_size _) ?_
  refine own_init (s := ⟨(hp.push (kdv_tup [.ref l])).push (excO C hp.objs.size), g, dr, tk, os⟩) T hI hcc hcda hfn (X.keeps up) (hg.keeps up) (hb.keeps up) hbs (hlim.keeps up) hx fresh hroom (up _ _ hl) hz hbl fun h' tk' dx t1 nl M => ?_
  have big : hp.objs.size + 1 + 1 ≤ dx := by
    have z := M.dbig
    rw [Heap.size_push, Heap.size_push] at z
    exact z
  have big2 : hp.objs.size + 1 + 1 ≤ nl := by
    have z := M.nbig
    rw [Heap.size_push, Heap.size_push] at z
    exact z
  exact ⟨rfl, hq h' tk' (hp.objs.size + 1) dx nl ⟨fun b o e => M.keep b o (Nat.ne_of_lt (Nat.lt_succ_of_lt (Heap.lt_size e))) (up b o e), Nat.le_succ _, ⟨_, _, M.obj, rfl, rfl, rfl, rfl⟩, Nat.le_trans (Nat.le_trans (Nat.le_succ _) (Nat.le_succ _)) big, M.dne, Nat.le_trans (Nat.le_trans (Nat.le_succ _) (Nat.le_succ _)) big2, M.nne, M.ndx, M.lst, M.ns⟩⟩
end
end OwnF
end PySem
namespace L2
open PySem PySem.Spec PyProof.Rows PySem.OwnF
theorem relO_fr {v : V} {v' : Value} (r : RelV v v') (f : Str) : RelO (List.lookup f [(("frames" : Str), v)]) (if f = "frames" then some v' else none) := by
  by_cases hw : f = "frames"
  · subst hw
    rw [if_pos rfl]
    have q : List.lookup ("frames" : Str) [(("frames" : Str), v)] = some v := by simp [List.lookup]
    rw [q]
    exact r
  · rw [if_neg hw]
    have q : List.lookup f [(("frames" : Str), v)] = none := by
      have qw : (f == ("frames" : Str)) = false := by simpa using hw
      simp [List.lookup, qw]
    rw [q]
    trivial
section
variable {X : Cx} {C : Addr} {nC qI : Str}
/-- Own(e): the error's dict d is new and holds at = the int -/
def tMkFr (K : PySem.W.Frag) (C : Addr) (ta : TA) : St → Hp → XK → Prop := fun σ H Q => ta σ H fun vs H1 => ∃ (l : Addr) (xs : List V), vs = [.ref l] ∧ H1 l = some (.lst xs) ∧ ∀ d nl, H1 d = none → H1 nl = none → nl ≠ d → Q (.ref C) (some d) (upd (upd H1 nl (.lst xs)) d (.xd [(("frames" : Str), .ref nl)]))
theorem pmk_fr {a : Expr} {ta : TA} {p pos : Pos} {k : Nat} (T : OwnTxt X.K X.mg X.prog C nC qI) (hr : Room k X.A) (ha : PA X [a] ta) (hg : Gl X nC := by rfl) (hd : (nC == ("__debug__" : Str)) = false := by decide)
    (he : starEach (a :: []) X.env = (false, eval a X.env) :: starEach [] X.env := by rfl) (hpl : (backTo pos (starEach [] X.env)).any (·.1) = false := by rfl) :
    PMk X (.Call (.Name nC p) [a] [] pos) (tMkFr X.K C ta) := by
  intro pins s σ H Q I h
  refine wpAny_Call_Name_kw (ld_glob I hg T.gC ?_ hd)
  refine PySem.W.callWith_K (h₀ := X.base) I.ok.mod.kin T.kC (thn (ha.run pos pins s σ H _ I h) fun us s1 hh => ?_) he hpl
  obtain ⟨vs, H1, I1, r1, l, xs, ev, hl, q1⟩ := hh
  subst ev
  refine ⟨I1.kIn, ?_⟩
  cases r1 with
  | cons rv rn =>
    rename_i v' us'
    cases rn
    obtain rfl : v' = Value.ref l := rv
    obtain ⟨hz, its, c', rx, hlo⟩ : ObjOk X.prog X.w H1 s1.heap l (.lst xs) := I1.hok l _ hl
    show wpAny _ _ (call (.ref C) [.ref l]) _ _ _
    have hlim := I1.nolimit
    obtain ⟨mb, hb, hbb⟩ := I1.ok.mod.blt
    obtain ⟨hp, g, dr, tk, os⟩ := s1
    have hlen := rx.length
    refine wpAny_call (own_made T I1.kIn (I1.mod.glob.keeps I1.bk) (hb.keeps I1.bk) ((hbb "super" (by decide)).trans (by first | boot_by_name | rfl | kernel_rfl)) hlim (by have := hr.dp; omega) (show LstAt hp l its.toArray c' from hlo) (by simp only [List.size_toArray]; omega) ((hbb "list" (by decide)).trans (by first | boot_by_name | rfl | kernel_rfl)) fun h' tk' e d nl M => ?_)
    show MkP X pins σ Q (.ref e) ⟨h', g, dr, tk', os⟩
    obtain ⟨oe, fv, hoe, hc, hdd, hdat, h1⟩ := M.obj
    have hns := M.ns
    obtain ⟨n2, hnl⟩ := M.lst
    obtain ⟨G', g1, g2⟩ := restrict h' fun b => decide (b ≠ e)
    have gk : ∀ b, b ≠ e → G'.get? b = h'.get? b := fun b hb => g1 b (decide_eq_true hb)
    have ge : G'.get? e = none := g2 e (by simp)
    obtain ⟨G1, f1, f2⟩ := restrict G' fun b => decide (b ≠ d)
    have fk : ∀ b, b ≠ d → G1.get? b = G'.get? b := fun b hb => f1 b (decide_eq_true hb)
    have fe : G1.get? d = none := f2 d (by simp)
    have old : ∀ b o, hp.get? b = some o → G'.get? b = some o := fun b o q => (gk b (Nat.ne_of_lt (Nat.lt_of_lt_of_le (Heap.lt_size q) M.new))).trans (M.keep b o q)
    have old1 : ∀ b o, hp.get? b = some o → G1.get? b = some o := fun b o q => (fk b (Nat.ne_of_lt (Nat.lt_of_lt_of_le (Heap.lt_size q) M.dbig))).trans (old b o q)
    have up1 : ∀ b o, G1.get? b = some o → G'.get? b = some o := fun b o q => by
      by_cases hb : b = d
      · rw [hb, fe] at q; cases q
      · exact (fk b hb).symm.trans q
    have lst1 : G1.get? nl = some { cls := .type "list", dict := none, data := .seq its.toArray n2, slots := #[] } := (fk nl M.ndx).trans ((gk nl M.nne).trans hnl)
    have ob1 : ObjOk X.prog X.w (upd H1 nl (.lst xs)) G1 nl (.lst xs) := ⟨hz, its, n2, rx, lst1⟩
    have J1 : Inv X pins σ (upd H1 nl (.lst xs)) ⟨G1, g, dr, tk, os⟩ := I1.laid (t' := tk) old1 M.nbig ob1
    have rv : RelV (.ref nl) (.ref nl) := rfl
    have dn : upd H1 nl (.lst xs) d = none := by
      rw [upd_ne (Ne.symm M.ndx)]
      exact I1.hok.fresh M.dbig
    have ob : ObjOk X.prog X.w (upd (upd H1 nl (.lst xs)) d (.xd [(("frames" : Str), .ref nl)])) G' d (.xd [(("frames" : Str), .ref nl)]) :=
      ⟨_, hns.at (fun o q => (gk d M.dne).trans q), fun f => relO_fr rv f⟩
    have J : Inv X pins σ (upd (upd H1 nl (.lst xs)) d (.xd [(("frames" : Str), .ref nl)])) ⟨G', g, dr, tk', os⟩ := J1.laidN (t' := tk') up1 fe dn ob
    refine ⟨e, oe, fv, ⟨G', g, dr, tk', os⟩, _, .ref C, some d, rfl, J, fun b o q => ?_, ge, hoe, ⟨hc, hdd⟩, hdat, h1, ?_, rfl, I1.bare, raises_own T.exC T.tyC, q1 d nl (I1.hok.fresh M.dbig) (I1.hok.fresh M.nbig) M.ndx⟩
    · by_cases hb : b = e
      · have q' : G'.get? b = some o := q
        rw [hb, ge] at q'; cases q'
      · exact (gk b hb).symm.trans q
    · rw [upd_ne (Ne.symm M.dne), upd_ne (Ne.symm M.nne)]
      exact I1.hok.fresh M.new
/-- raise Own(e) -/
def tRaiseFr (K : PySem.W.Frag) (C : Addr) (W : WX) (ta : TA) : TS := fun _ σ H => tMkFr K C ta σ H fun cls d H' => W cls d σ H'
theorem ps_raiseFr {a : Expr} {ta : TA} {W : WX} {p pos pos2 : Pos} {k : Nat} (hc : X.calm = true) (T : OwnTxt X.K X.mg X.prog C nC qI) (hr : Room k X.A) (tk : Takes X W) (ha : PA X [a] ta) (hg : Gl X nC := by rfl) (hd : (nC == ("__debug__" : Str)) = false := by decide)
    (he : starEach (a :: []) X.env = (false, eval a X.env) :: starEach [] X.env := by rfl) (hpl : (backTo pos (starEach [] X.env)).any (·.1) = false := by rfl) :
    PS X (.Raise (some (.Call (.Name nC p) [a] [] pos)) none pos2) (tRaiseFr X.K C W ta) := ps_raise hc tk (pmk_fr T hr ha hg hd he hpl)
/-- e.at, e the exception that the suite holds -/
def tByFr (C : Addr) (a : Addr) (cls : Value) (d : Option Addr) (te : TE) : TE := fun σ H Q => te σ H fun x H1 => x = .ref a ∧ cls = .ref C ∧ ∃ (dd : Addr) (v : V), d = some dd ∧ H1 dd = some (.xd [(("frames" : Str), v)]) ∧ Q v H1
theorem pe_byFr {a : Addr} {oe : Obj} {cls : Value} {d : Option Addr} {pn : List (Addr × Obj)} {e : Expr} {te : TE} {pos : Pos} (T : OwnTxt X.K X.mg X.prog C nC qI) (hz : Zc cls d oe) (hf : ∃ vs, oe.data = .fields vs) (he : PE (X.suite a ((a, oe) :: pn)) e te)
    (hb : attributeBase e "frames" X.env (eval e X.env) = eval e X.env := by rfl) :
    PE (X.suite a ((a, oe) :: pn)) (.Attribute e "frames" pos) (tByFr C a cls d te) := by
  refine ⟨fun pins s σ H Q I h => ?_⟩
  refine attr_of hb (thn (he.run pins s σ H _ I h) fun u s1 hh => ?_)
  obtain ⟨x, H1, I1, rx, ex, ec, dd, v, ed, ea, q⟩ := hh
  subst ex
  obtain rfl : u = Value.ref a := rx
  subst ec
  subst ed
  obtain ⟨ha, _⟩ := I1.pin (a, oe) (List.mem_append_left _ List.mem_cons_self)
  obtain ⟨vs, hd⟩ := hf
  obtain ⟨mA, hns, hr⟩ : ObjOk X.prog X.w H1 s1.heap dd (.xd [(("frames" : Str), v)]) := I1.hok dd _ ea
  obtain ⟨od, ho, hl⟩ := lookIn_ns hns
  have l : List.lookup ("frames" : Str) [(("frames" : Str), v)] = some v := by simp [List.lookup]
  obtain ⟨u, hu, ru⟩ := RelO.some_of (v := v) (o := mA "frames") (by rw [← l]; exact hr "frames")
  have J : PySem.W.InstAt s1.heap a oe C (some od) := ⟨ha, hz.1, by unfold PySem.W.notCls; rw [hd] <;> rfl, by rw [hz.2]; exact ho⟩
  exact HandSPX.exc_get I1.kIn J T.ga T.gg T.exC (PySem.W.findObj_own T.hdC T.noN rfl (by rw [hl, hu])) (handed_of ru) ⟨v, H1, I1.tok _, ru, q⟩
end
end L2
namespace L2
open PySem PySem.Spec PyProof.Rows
abbrev rMax2 : List V → Hp → VK → Prop := fun xs H Q => ∃ i j, xs = [.int i, .int j] ∧ Q (.int (if j > i then j else i)) H
abbrev rMin2 : List V → Hp → VK → Prop := fun xs H Q => ∃ i j, xs = [.int i, .int j] ∧ Q (.int (if j < i then j else i)) H
/-- list(range(a, b, c)) -/
def tListR3 (ta : TA) : TE := fun σ H Q => ta σ H fun vs H1 => ∃ (i j c : Int) (n : Nat), vs = [.int i, .int j, .int c] ∧ RgC i j c n ∧ n ≤ 2 ^ 24 ∧ ∀ l, H1 l = none → Q (.ref l) (upd H1 l (.lst ((List.range n).map fun k => V.int (i + (k : Nat) * c))))
theorem vals_rgC {a c : Int} {n : Nat} {acc : Array Value} (h : ItemsOf (fun i v => ∃ t, v = .int (a + i * c) t) acc n) : Vals ((List.range n).map fun k => V.int (a + (k : Nat) * c)) acc.toList := by
  have e : acc.toList.length = n := by rw [Array.length_toList]; exact h.1
  rw [← e]
  refine vals_of_get acc.toList _ fun j u hj => ?_
  obtain ⟨t, rfl⟩ := h.2 j u (by rw [← hj, Array.getElem?_toList])
  exact ⟨t, rfl⟩
theorem pe_listR3 {X : Cx} {a b c : Expr} {ta : TA} {p p2 pos pos2 : Pos} (hc : X.calm = true) (hg : Gl X "list") (hm : X.mg "list" = none) (hg2 : Gl X "range") (hm2 : X.mg "range" = none) (ha : PA X [a, b, c] ta)
    (na : starEach [Expr.Call (.Name "range" p2) [a, b, c] [] pos2] X.env = (false, eval (Expr.Call (.Name "range" p2) [a, b, c] [] pos2) X.env) :: starEach [] X.env := by rfl)
    (hs : starEach [a, b, c] X.env = (false, eval a X.env) :: starEach [b, c] X.env := by rfl) (hpl : (backTo pos2 (starEach [b, c] X.env)).any (·.1) = false := by rfl) :
    PE X (.Call (.Name "list" p) [.Call (.Name "range" p2) [a, b, c] [] pos2] [] pos) (tListR3 ta) := by
  refine ⟨fun pins s σ H Q I h => ?_⟩
  refine Call_ (ld_blt I hg hm boot_list (PyProof.Rows.callWith_type1 (args_cons (Call_ (ld_blt I hg2 hm2 boot_range (PyProof.Rows.callWith_type1 (thn (ha.run pos2 pins s σ H _ I h) fun us s1 ⟨vs, H1, I1, r1, q1⟩ => ?_) hs hpl))) na) na))
  obtain ⟨i, j, k, n, e, ⟨c0, c1, c2, c3⟩, hn, q⟩ := q1
  subst e
  cases r1 with
  | cons r rr =>
    cases rr with
    | cons r' rr =>
      cases rr with
      | cons r'' rr =>
        cases rr
        obtain ⟨t, rfl⟩ := r
        obtain ⟨t', rfl⟩ := r'
        obtain ⟨t'', rfl⟩ := r''
        refine call_range_3 c0 ?_ (.inl (PyProof.noPylong_small c1))
        refine args_nil ?_
        have I2 : Inv X pins σ H1 { s1 with heap := s1.heap.push { cls := .type "range", data := .fields #[.int i t, .int j t', .int k t''] } } := I1.kept (t' := s1.toks) fun b o e => Heap.get?_push_of_some _ e
        refine call_list_range (n := n) (I1.ok.hd hc) (IsRange.new _ _ _ _ _ _ _) c2 c3 hn fun h' tk acc c' hk e' hi => ?_
        refine ⟨.ref _, upd H1 _ (.lst ((List.range n).map fun m => V.int (i + (m : Nat) * k))), I2.laid hk (Nat.le_refl _) (show ObjOk X.prog X.w _ _ _ (.lst ((List.range n).map fun m => V.int (i + (m : Nat) * k))) from ⟨?_, acc.toList, c', vals_rgC hi, ?_⟩), rfl, q _ (I2.hok.fresh (Nat.le_refl _))⟩
        · rw [List.length_map, List.length_range, sizeLine_eq]; omega
        · rw [Array.toArray_toList]; exact e'
end L2
namespace My
open PySem PySem.Spec PyProof.Rows L2
theorem filt_one {α : Type} {f : α → Bool} {xs : List α} {j : Nat} {x : α} (hx : xs[j]? = some x) : (xs.take (j + 1)).filter f = (xs.take j).filter f ++ (if f x = true then [x] else []) := by
  have e : xs.take (j + 1) = xs.take j ++ [x] := by rw [List.take_succ, hx]; rfl
  rw [e, List.filter_append]
  by_cases c : f x = true
  · rw [if_pos c, List.filter_cons_of_pos c]
    rfl
  · rw [if_neg c, List.filter_cons_of_neg c]
    rfl
/-- [x for x in l if f(x)] -/
theorem lcLF {K : PySem.W.Frag} {tl : TE} {g : TG} {tt : TT} {te : TE} {vs : List Nat} {σ : L2.St} {H0 H : Hp} {Q : VK} {a : Addr} {xs : List V} (i : Nat) (f : V → Bool) (ht : ∀ R : VK, R (.ref a) H → tl σ H0 R) (hS : SqL K H a xs) (hn : xs.length ≤ 1000)
    (hw : ∀ x, wipe ((wipe σ vs).set i (some x)) vs = wipe σ vs)
    (htt : ∀ x H1 (R : Bool → Hp → Prop), x ∈ xs → Ex H H1 → (∀ H2, Ex H1 H2 → R (f x) H2) → tt ((wipe σ vs).set i (some x)) H1 R)
    (hte : ∀ x H1 (R : VK), R x H1 → te ((wipe σ vs).set i (some x)) H1 R)
    (k : ∀ D H', H D = none → Ex H H' → H' D = some (.lst (xs.filter f)) → Q (.ref D) H')
    (hg : g = gName i := by rfl) : tLc (iList K tl) g tt te vs σ H0 Q := by
  subst hg
  refine ht _ ⟨a, rfl, ⟨xs, hS⟩, fun D hD => ?_⟩
  refine lc_list (xs := xs) (fun j H' => j ≤ xs.length ∧ Ex H H' ∧ H' D = some (.lst ((xs.take j).filter f))) ⟨Nat.zero_le _, Ex.new hD, ?_⟩ (fun j H' _ q => Ex.sqL q.2.1 hS) (fun j x H' hx q => ?_) (fun H' q => ?_)
  · rw [upd_same, List.take_zero]
    rfl
  · obtain ⟨hj, e, h2⟩ := q
    have hjl : j < xs.length := (List.getElem?_eq_some_iff.mp hx).1
    refine ⟨hw _, ?_⟩
    refine htt x H' _ (List.mem_of_getElem? hx) e fun H2 e2 => ?_
    have nx := filt_one (f := f) hx
    by_cases c : f x = true
    · rw [if_pos c] at nx ⊢
      refine hte x H2 _ ⟨_, e2 _ _ h2, ?_, hjl, Ex.mut (Same.trans e e2) hD, ?_⟩
      · have := List.length_filter_le f (xs.take j)
        rw [List.length_take] at this
        exact Nat.lt_of_le_of_lt (show _ ≤ 1000 by omega) (by decide)
      · rw [upd_same, nx]
    · rw [if_neg c] at nx ⊢
      refine ⟨hjl, Same.trans e e2, ?_⟩
      rw [nx, List.append_nil]
      exact e2 _ _ h2
  · obtain ⟨_, e, h2⟩ := q
    rw [List.take_length] at h2
    exact k D H' hD e h2
/-- [x for x in range(n) if f(x)] -/
theorem lcRF {ta : TA} {g : TG} {tt : TT} {te : TE} {vs : List Nat} {σ : L2.St} {H : Hp} {Q : VK} {n : Nat} (i : Nat) (f : Nat → Bool) (ht : ∀ R : List V → Hp → Prop, R [.int (n : Int)] H → ta σ H R) (hn : n ≤ 1000)
    (hw : ∀ x, wipe ((wipe σ vs).set i (some x)) vs = wipe σ vs)
    (htt : ∀ (j : Nat) H1 (R : Bool → Hp → Prop), j < n → Ex H H1 → (∀ H2, Ex H1 H2 → R (f j) H2) → tt ((wipe σ vs).set i (some (.int (j : Nat)))) H1 R)
    (hte : ∀ x H1 (R : VK), R x H1 → te ((wipe σ vs).set i (some x)) H1 R)
    (k : ∀ D H', H D = none → Ex H H' → H' D = some (.lst (((List.range n).filter f).map fun j => V.int (j : Nat))) → Q (.ref D) H')
    (hg : g = gName i := by rfl) : tLc (iRng1 ta) g tt te vs σ H Q := by
  subst hg
  refine ht _ ⟨n, rfl, by omega, by omega, fun D hD => ?_⟩
  refine lc_range (lo := 0) (n := (n : Int).toNat) (fun j H' => j ≤ n ∧ Ex H H' ∧ H' D = some (.lst ((((List.range n).take j).filter f).map fun j => V.int (j : Nat)))) ⟨Nat.zero_le _, Ex.new hD, ?_⟩ (fun j H' hj q => ?_) (fun H' q => ?_)
  · rw [upd_same, List.take_zero]
    rfl
  · obtain ⟨_, e, h2⟩ := q
    have hjl : j < n := by omega
    have e0 : (0 : Int) + (j : Nat) = (j : Nat) := Int.zero_add _
    rw [e0]
    refine ⟨hw _, ?_⟩
    refine htt j H' _ hjl e fun H2 e2 => ?_
    have nx := filt_one (f := f) (List.getElem?_range hjl)
    by_cases c : f j = true
    · rw [if_pos c] at nx ⊢
      refine hte _ H2 _ ⟨_, e2 _ _ h2, ?_, hjl, Ex.mut (Same.trans e e2) hD, ?_⟩
      · have := List.length_filter_le f ((List.range n).take j)
        rw [List.length_take, List.length_range] at this
        rw [List.length_map]
        exact Nat.lt_of_le_of_lt (show _ ≤ 1000 by omega) (by decide)
      · rw [upd_same, nx, List.map_append]
        rfl
    · rw [if_neg c] at nx ⊢
      refine ⟨hjl, Same.trans e e2, ?_⟩
      rw [nx, List.append_nil]
      exact e2 _ _ h2
  · obtain ⟨_, e, h2⟩ := q
    rw [List.take_of_length_le (by simp)] at h2
    exact k D H' hD e h2
end My
namespace L2
open PySem PySem.Spec PyProof.Rows
section
variable {prog : Program} {w : World} {A : Around} {E : Value → Shared → Prop} {s : Shared}
theorem iter_tupT {l : Addr} {items : Array Value} {Q : Value → Shared → Prop} (hl : s.heap.IsTuple l items)
    (h : ∀ s₂, s₂ = { s with heap := s.heap.push { cls := .type "tuple_iterator", data := .fields #[.ref l, .int 0 0] } } → (s₂.heap.IsTupleIter s.heap.objs.size l 0 ∧ s₂.heap.IsTuple l items) → (∀ b ∈ [s.heap.objs.size, l], b < s₂.heap.objs.size) → l ≠ s.heap.objs.size → Q (.ref s.heap.objs.size) s₂) :
    wpAny (model prog w) A (pyIter (.ref l)) Q E s := by
  have hlt : l < s.heap.objs.size := by obtain ⟨o, e, _⟩ := id hl; exact Heap.lt_size e
  refine wpAny_pyIter_tuple hl (h _ rfl ⟨⟨_, Heap.get?_push_size _ rfl, rfl, rfl⟩, hl.push _⟩ (fun b hb => ?_) (Nat.ne_of_lt hlt))
  rw [show ({ s with heap := s.heap.push { cls := .type "tuple_iterator", data := .fields #[.ref l, .int 0 0] } } : Shared).heap.objs.size = s.heap.objs.size + 1 from Heap.size_push ..]
  rcases List.mem_cons.mp hb with rfl | hb
  · exact Nat.lt_succ_self _
  · rw [List.mem_singleton.mp hb]
    exact Nat.lt_succ_of_lt hlt
theorem maxT_raw {l : Addr} {its : List Value} {ns : List Int} {Q : Value → Shared → Prop} (hh : A.handled = none) (hl : s.heap.IsTuple l its.toArray) (hi : IntsAre its ns) (hne : 0 < ns.length)
    (h : ∀ h' tk M t', (∀ b o, s.heap.get? b = some o → h'.get? b = some o) → M ∈ ns → (∀ a, a ∈ ns → a ≤ M) → Q (.int M t') { s with heap := h', toks := tk }) : wpAny (model prog w) A (call (.builtin "max") [.ref l]) Q E s := by
  obtain ⟨xs, e⟩ := hi.allInts.items
  have hn : numsOf (intItems xs).toList = ns := by rw [← e]; exact hi.numsOf
  rw [nums_intItems] at hn
  subst hn
  rw [e] at hl
  have hsz : 0 < xs.size := by simpa using hne
  refine call_max_walk (iter_tupT hl fun s₂ e st hfp hlI => ?_)
  subst e
  refine ⟨_, _, _, _, _, _, _, rfl, Walks.tuple (A := A.in1) hh _ l hlI (intItems xs), st, hfp, by simpa [intItems] using hsz, CmpOf.ints_gt (numAt xs) (fun _ _ => intItems_at), fun v h' tk hv hk => ?_⟩
  have hv : (intItems xs)[argBest (fun i j => decide (numAt xs i > numAt xs j)) (xs.size - 1)]? = some v := by simpa [intItems] using hv
  obtain ⟨t, rfl⟩ := intItems_at hv
  obtain ⟨h1, h2⟩ := argBest_gt (numAt xs) (xs.size - 1)
  refine h h' tk _ t (fun b o q => hk b o (fun z => ?_) (Heap.get?_push_of_some _ q)) ?_ fun a ha => ?_
  · rw [List.mem_singleton.mp z] at q
    exact Nat.lt_irrefl _ (Heap.lt_size q)
  · rw [numAt_eq]; exact PySem.getD_mem (by rw [List.length_map, Array.length_toList]; omega)
  · obtain ⟨j, hj, rfl⟩ := mem_getD ha
    rw [List.length_map, Array.length_toList] at hj
    rw [← numAt_eq]; exact h2 j (by omega)
theorem minT_raw {l : Addr} {its : List Value} {ns : List Int} {Q : Value → Shared → Prop} (hh : A.handled = none) (hl : s.heap.IsTuple l its.toArray) (hi : IntsAre its ns) (hne : 0 < ns.length)
    (h : ∀ h' tk M t', (∀ b o, s.heap.get? b = some o → h'.get? b = some o) → M ∈ ns → (∀ a, a ∈ ns → M ≤ a) → Q (.int M t') { s with heap := h', toks := tk }) : wpAny (model prog w) A (call (.builtin "min") [.ref l]) Q E s := by
  obtain ⟨xs, e⟩ := hi.allInts.items
  have hn : numsOf (intItems xs).toList = ns := by rw [← e]; exact hi.numsOf
  rw [nums_intItems] at hn
  subst hn
  rw [e] at hl
  have hsz : 0 < xs.size := by simpa using hne
  refine call_min_walk (iter_tupT hl fun s₂ e st hfp hlI => ?_)
  subst e
  refine ⟨_, _, _, _, _, _, _, rfl, Walks.tuple (A := A.in1) hh _ l hlI (intItems xs), st, hfp, by simpa [intItems] using hsz, CmpOf.ints_lt (numAt xs) (fun _ _ => intItems_at), fun v h' tk hv hk => ?_⟩
  have hv : (intItems xs)[argBest (fun i j => decide (numAt xs i < numAt xs j)) (xs.size - 1)]? = some v := by simpa [intItems] using hv
  obtain ⟨t, rfl⟩ := intItems_at hv
  obtain ⟨h1, h2⟩ := argBest_lt (numAt xs) (xs.size - 1)
  refine h h' tk _ t (fun b o q => hk b o (fun z => ?_) (Heap.get?_push_of_some _ q)) ?_ fun a ha => ?_
  · rw [List.mem_singleton.mp z] at q
    exact Nat.lt_irrefl _ (Heap.lt_size q)
  · rw [numAt_eq]; exact PySem.getD_mem (by rw [List.length_map, Array.length_toList]; omega)
  · obtain ⟨j, hj, rfl⟩ := mem_getD ha
    rw [List.length_map, Array.length_toList] at hj
    rw [← numAt_eq]; exact h2 j (by omega)
end
section
variable {X : Cx}
def rMaxT (K : PySem.W.Frag) : List V → Hp → VK → Prop := fun vs H Q => ∃ (a : Addr) (ns : List Int), vs = [V.ref a] ∧ SqT K H a (ns.map V.int) ∧ 0 < ns.length ∧ ∀ m, m ∈ ns → (∀ y, y ∈ ns → y ≤ m) → Q (.int m) H
def rMinT (K : PySem.W.Frag) : List V → Hp → VK → Prop := fun vs H Q => ∃ (a : Addr) (ns : List Int), vs = [V.ref a] ∧ SqT K H a (ns.map V.int) ∧ 0 < ns.length ∧ ∀ m, m ∈ ns → (∀ y, y ∈ ns → m ≤ y) → Q (.int m) H
theorem cr_maxT (hc : X.calm = true) : CallR X (.builtin "max") (rMaxT X.K) := by
  intro pins s σ H vs us Q I r h
  obtain ⟨a, ns, rfl, hs, hne, q⟩ := h
  obtain ⟨its, rv, hl, _⟩ := I.tuple hs
  rw [Vals.ref1 r]
  exact maxT_raw (I.ok.hd hc) hl rv.ints hne fun h' tk m t' hk h1 h2 => ⟨.int _, H, I.kept hk, ⟨_, rfl⟩, q m h1 h2⟩
theorem cr_minT (hc : X.calm = true) : CallR X (.builtin "min") (rMinT X.K) := by
  intro pins s σ H vs us Q I r h
  obtain ⟨a, ns, rfl, hs, hne, q⟩ := h
  obtain ⟨its, rv, hl, _⟩ := I.tuple hs
  rw [Vals.ref1 r]
  exact minT_raw (I.ok.hd hc) hl rv.ints hne fun h' tk m t' hk h1 h2 => ⟨.int _, H, I.kept hk, ⟨_, rfl⟩, q m h1 h2⟩
end
end L2

namespace My
open PySem PySem.Spec PyProof.Rows L2
def topS (i : Nat) : Stmt := PySem.Challenge.pw_plugtree_k20_who_is_let_in.main.body.getD i (.Pass ⟨0, 0, 0, 0⟩)
abbrev s_is_number : Stmt := topS 5
abbrev s_need_number : Stmt := topS 6
abbrev s_cost : Stmt := topS 11
abbrev s_fullest_frame : Stmt := topS 12
abbrev s_phase_for : Stmt := topS 13
abbrev s_with_end : Stmt := topS 14
abbrev s_let_in : Stmt := topS 15
abbrev s__law_bag : Stmt := topS 17
abbrev s__law_pull : Stmt := topS 18
abbrev s__law_whole : Stmt := topS 19
abbrev s__law_same : Stmt := topS 20
abbrev s__law_one : Stmt := topS 21
abbrev s__law_end : Stmt := topS 22
abbrev s__law_ends : Stmt := topS 23
abbrev s__law_frames : Stmt := topS 24
abbrev s__law_phase : Stmt := topS 25
abbrev s__law_full : Stmt := topS 26
abbrev s__law_said : Stmt := topS 27
abbrev s__law_let : Stmt := topS 28
abbrev s_law : Stmt := topS 29
structure Ad where
  w : World
  p : Program
  f_is_number : Addr
  d_is_number : FuncData
  f_need_number : Addr
  d_need_number : FuncData
  f_cost : Addr
  d_cost : FuncData
  f_fullest_frame : Addr
  d_fullest_frame : FuncData
  f_phase_for : Addr
  d_phase_for : FuncData
  f_with_end : Addr
  d_with_end : FuncData
  f_let_in : Addr
  d_let_in : FuncData
  f__law_bag : Addr
  d__law_bag : FuncData
  f__law_pull : Addr
  d__law_pull : FuncData
  f__law_whole : Addr
  d__law_whole : FuncData
  f__law_same : Addr
  d__law_same : FuncData
  f__law_one : Addr
  d__law_one : FuncData
  f__law_end : Addr
  d__law_end : FuncData
  f__law_ends : Addr
  d__law_ends : FuncData
  f__law_frames : Addr
  d__law_frames : FuncData
  f__law_phase : Addr
  d__law_phase : FuncData
  f__law_full : Addr
  d__law_full : FuncData
  f__law_said : Addr
  d__law_said : FuncData
  f__law_let : Addr
  d__law_let : FuncData
  f_law : Addr
  d_law : FuncData
  c_BusError : Addr
  c_BadNumber : Addr
  c_NoRoom : Addr
  k_TIMED_ROOM : Tok
  k_TURN_ROOM : Tok
  k_ROUND : Tok
structure Txt (K : PySem.W.Frag) (mg : Str → Option Value) (a : Ad) : Prop where
  g_is_number : mg "is_number" = some (.ref a.f_is_number)
  F_is_number : Fun K "is_number" "is_number" s_is_number a.f_is_number a.d_is_number
  b_is_number : Binds K a.d_is_number ["value", "low", "high"] []
  g_need_number : mg "need_number" = some (.ref a.f_need_number)
  F_need_number : Fun K "need_number" "need_number" s_need_number a.f_need_number a.d_need_number
  b_need_number : Binds K a.d_need_number ["number", "low", "high"] []
  g_cost : mg "cost" = some (.ref a.f_cost)
  F_cost : Fun K "cost" "cost" s_cost a.f_cost a.d_cost
  b_cost : Binds K a.d_cost ["size"] []
  g_fullest_frame : mg "fullest_frame" = some (.ref a.f_fullest_frame)
  F_fullest_frame : Fun K "fullest_frame" "fullest_frame" s_fullest_frame a.f_fullest_frame a.d_fullest_frame
  b_fullest_frame : Binds K a.d_fullest_frame ["table", "every", "phase"] []
  g_phase_for : mg "phase_for" = some (.ref a.f_phase_for)
  F_phase_for : Fun K "phase_for" "phase_for" s_phase_for a.f_phase_for a.d_phase_for
  b_phase_for : Binds K a.d_phase_for ["table", "size", "every"] []
  g_with_end : mg "with_end" = some (.ref a.f_with_end)
  F_with_end : FunD K "with_end" "with_end" (defArgs s_with_end) (defBody s_with_end) (defScope s_with_end) [.int 1] [] a.f_with_end a.d_with_end
  b_with_end : ∃ ds, Vals [.int 1] ds ∧ Binds K a.d_with_end ["table", "size", "every", "phase", "sign"] ds
  kb_with_end : KBn K a.d_with_end ["table", "size", "every", "phase", "sign"] 4 ["sign"] (fun us ws => us ++ ws) (fun vs zs => vs ++ zs)
  g_let_in : mg "let_in" = some (.ref a.f_let_in)
  F_let_in : Fun K "let_in" "let_in" s_let_in a.f_let_in a.d_let_in
  b_let_in : Binds K a.d_let_in ["table", "ends"] []
  g__law_bag : mg "_law_bag" = some (.ref a.f__law_bag)
  F__law_bag : Fun K "_law_bag" "_law_bag" s__law_bag a.f__law_bag a.d__law_bag
  b__law_bag : Binds K a.d__law_bag ["_law_script"] []
  g__law_pull : mg "_law_pull" = some (.ref a.f__law_pull)
  F__law_pull : Fun K "_law_pull" "_law_pull" s__law_pull a.f__law_pull a.d__law_pull
  b__law_pull : Binds K a.d__law_pull ["_law_bag_here", "_law_upto"] []
  g__law_whole : mg "_law_whole" = some (.ref a.f__law_whole)
  F__law_whole : Fun K "_law_whole" "_law_whole" s__law_whole a.f__law_whole a.d__law_whole
  b__law_whole : Binds K a.d__law_whole ["_law_found"] []
  g__law_same : mg "_law_same" = some (.ref a.f__law_same)
  F__law_same : Fun K "_law_same" "_law_same" s__law_same a.f__law_same a.d__law_same
  b__law_same : Binds K a.d__law_same ["_law_found", "_law_due"] []
  g__law_one : mg "_law_one" = some (.ref a.f__law_one)
  F__law_one : Fun K "_law_one" "_law_one" s__law_one a.f__law_one a.d__law_one
  b__law_one : Binds K a.d__law_one ["_law_bag_here", "_law_row"] []
  g__law_end : mg "_law_end" = some (.ref a.f__law_end)
  F__law_end : Fun K "_law_end" "_law_end" s__law_end a.f__law_end a.d__law_end
  b__law_end : Binds K a.d__law_end ["_law_bag_here", "_law_spot"] []
  g__law_ends : mg "_law_ends" = some (.ref a.f__law_ends)
  F__law_ends : Fun K "_law_ends" "_law_ends" s__law_ends a.f__law_ends a.d__law_ends
  b__law_ends : Binds K a.d__law_ends ["_law_bag_here", "_law_most"] []
  g__law_frames : mg "_law_frames" = some (.ref a.f__law_frames)
  F__law_frames : Fun K "_law_frames" "_law_frames" s__law_frames a.f__law_frames a.d__law_frames
  b__law_frames : Binds K a.d__law_frames ["_law_every", "_law_phase_here"] []
  g__law_phase : mg "_law_phase" = some (.ref a.f__law_phase)
  F__law_phase : Fun K "_law_phase" "_law_phase" s__law_phase a.f__law_phase a.d__law_phase
  b__law_phase : Binds K a.d__law_phase ["_law_table", "_law_piece_size", "_law_every"] []
  g__law_full : mg "_law_full" = some (.ref a.f__law_full)
  F__law_full : Fun K "_law_full" "_law_full" s__law_full a.f__law_full a.d__law_full
  b__law_full : Binds K a.d__law_full ["_law_bag_here"] []
  g__law_said : mg "_law_said" = some (.ref a.f__law_said)
  F__law_said : Fun K "_law_said" "_law_said" s__law_said a.f__law_said a.d__law_said
  b__law_said : Binds K a.d__law_said ["_law_table", "_law_piece_size", "_law_every"] []
  g__law_let : mg "_law_let" = some (.ref a.f__law_let)
  F__law_let : Fun K "_law_let" "_law_let" s__law_let a.f__law_let a.d__law_let
  b__law_let : Binds K a.d__law_let ["_law_table", "_law_ends_here"] []
  g_law : mg "law" = some (.ref a.f_law)
  F_law : Fun K "law" "law" s_law a.f_law a.d_law
  b_law : Binds K a.d_law ["_law_script"] []
  gC_BusError : mg "BusError" = some (.ref a.c_BusError)
  gC_BadNumber : mg "BadNumber" = some (.ref a.c_BadNumber)
  gC_NoRoom : mg "NoRoom" = some (.ref a.c_NoRoom)
  xC_BadNumber : PySem.W.excIn K a.c_BadNumber [.type "ValueError", .type "Exception", .type "BaseException", .type "object"] "ValueError.__new__" = true
  kC_BadNumber : PySem.W.keepIn K (.ref a.c_BadNumber) = true
  bC_BadNumber : PySem.W.subIn K (.ref a.c_BadNumber) (.type "BaseException") = some true
  tC_BadNumber : PySem.W.typeIn K (.ref a.c_BadNumber) = some (.type "type")
  o_NoRoom : OwnF.OwnTxt K mg a.p a.c_NoRoom "NoRoom" "NoRoom.__init__"
  m_NoRoom_NoRoom : PySem.W.exmOne K (.ref a.c_NoRoom) (.ref a.c_NoRoom) = some true
  m_NoRoom_BusError : PySem.W.exmOne K (.ref a.c_NoRoom) (.ref a.c_BusError) = some true
  e_NoRoom : ExcC K a.c_NoRoom
  kit_NoRoom_NoRoom : PySem.W.kitOne K (.ref a.c_NoRoom) (.ref a.c_NoRoom) = some true
  g_TIMED_ROOM : mg "TIMED_ROOM" = some (.int 1350 a.k_TIMED_ROOM)
  g_TURN_ROOM : mg "TURN_ROOM" = some (.int 13 a.k_TURN_ROOM)
  g_ROUND : mg "ROUND" = some (.int 32 a.k_ROUND)
  n_all : mg "all" = none
  n_bool : mg "bool" = none
  n_enumerate : mg "enumerate" = none
  n_int : mg "int" = none
  n_isinstance : mg "isinstance" = none
  n_len : mg "len" = none
  n_list : mg "list" = none
  n_max : mg "max" = none
  n_min : mg "min" = none
  n_range : mg "range" = none
  n_set : mg "set" = none
  n_sorted : mg "sorted" = none
  n_str : mg "str" = none
  n_tuple : mg "tuple" = none
/-! ### the promises -/
def sp_is_number (K : PySem.W.Frag) (_ : Ad) : Sp := fun vs H Q _ => ∃ (v : V) (d : PyData) (lo hi : Int), vs = [v, .int lo, .int hi] ∧ Dp K H v d ∧ (∀ b, d ≠ .bool b) ∧ Q (.bl (isNum d lo hi)) H
def sp_need_number (_ : PySem.W.Frag) (a : Ad) : Sp := fun vs H Q E => ∃ n lo hi : Int, vs = [.int n, .int lo, .int hi] ∧ (lo ≤ n ∧ n ≤ hi → Q .non H) ∧ (¬ (lo ≤ n ∧ n ≤ hi) → E (.ref a.c_BadNumber) none H)
def sp__law_bag (K : PySem.W.Frag) (_ : Ad) : Sp := fun vs H Q _ => ∃ (p : Addr) (cs : List Int), vs = [.ref p] ∧ SqL K H p (cs.map V.int) ∧ cs.length ≤ 63 ∧ ∀ q c H', H q = none → Ex H H' → Bag K c cs H' q → Q (.ref q) H'
def sp__law_pull (K : PySem.W.Frag) (_ : Ad) : Sp := fun vs H Q _ => ∃ (p c : Addr) (cs : List Int) (u : Int), vs = [.ref p, .int u] ∧ Bag K c cs H p ∧ 0 < u ∧ u < 2 ^ 1000 ∧
  ∀ r H', 0 ≤ r → r < u → Bag K c cs H' p → (∀ b, b ≠ p → H' b = H b) → Q (.int r) H'
def sp__law_whole (K : PySem.W.Frag) (_ : Ad) : Sp := fun vs H Q _ => ∃ (v : V) (d : PyData), vs = [v] ∧ Dp K H v d ∧ Q (.bl (isInt d)) H
def sp_same (n : Nat) (K : PySem.W.Frag) : Sp := fun vs H Q _ => ∃ (v w : V) (d : PyData), vs = [v, w] ∧ Dp K H v d ∧ Dp K H w d ∧ okD n d ∧ ∀ H', Ex H H' → Q (.bl true) H'
def sp__law_same (K : PySem.W.Frag) (_ : Ad) : Sp := sp_same 4 K
def spLaw (K : PySem.W.Frag) : Sp := fun vs H Q _ => ∃ (p : Addr) (cs : List Int), vs = [.ref p] ∧ SqL K H p (cs.map V.int) ∧ cs.length ≤ 63 ∧ ∀ H', Q (.bl true) H'
def sp_law (K : PySem.W.Frag) (_ : Ad) : Sp := spLaw K
def sp__law_one (K : PySem.W.Frag) (_ : Ad) : Sp := fun vs H Q _ => ∃ (p c : Addr) (cs : List Int) (q : Addr) (xs : List V), vs = [.ref p, .ref q] ∧ Bag K c cs H p ∧ SqL K (wo [p] H) q xs ∧ 0 < xs.length ∧ xs.length ≤ 1000 ∧
  ∀ x H', x ∈ xs → Bag K c cs H' p → (∀ b, b ≠ p → H' b = H b) → Q x H'
/-! ### plans -/
structure En where
  n : Int
  way : Str
  kind : Str
  size : Int
  every : Int
def En.d (e : En) : PyData := .tuple [.int e.n, .str e.way, .str e.kind, .int e.size, .int e.every]
structure Pl where
  a : Int
  b : Int
  c : Int
  ends : List En
def endsD (es : List En) : PyData := .tuple (es.map En.d)
def Pl.d (p : Pl) : PyData := .tuple [.int p.a, .int p.b, .int p.c, endsD p.ends]
def kindOk (k : Str) (s v : Int) : Bool := if k = "bulk" then decide (s ∈ [8, 16, 32, 64]) && decide (v = 0) else decide (k = "timed") && (decide (1 ≤ s ∧ s ≤ 64) && decide (v ∈ [1, 2, 4, 8, 16, 32]))
def En.ok (e : En) : Bool := decide (1 ≤ e.n ∧ e.n ≤ 7) && (decide (e.way ∈ [("in" : Str), "out"]) && kindOk e.kind e.size e.every)
def badE (es : List En) (k : Nat) : Bool := decide (7 < k) || (match es[k]? with
  | some e => !e.ok || (match es[k - 1]? with
    | some f => decide (0 < k) && geP f.n f.way e.n e.way
    | none => false)
  | none => false)
def IsFb (es : List En) (r : Int) : Prop := (∃ k : Nat, k < es.length ∧ badE es k = true ∧ (∀ i < k, badE es i = false) ∧ r = k) ∨ (r = -1 ∧ ∀ i < es.length, badE es i = false)
def IsFf (p : Pl) (r : Int) : Prop :=
  if ¬ (0 ≤ p.a ∧ p.a ≤ 65535) then r = 0 else if ¬ (0 ≤ p.b ∧ p.b ≤ 65535) then r = 1 else if ¬ (0 ≤ p.c ∧ p.c ≤ 4) then r = 2 else ∃ k, IsFb p.ends k ∧ r = if k < 0 then -1 else 3 + k
theorem IsFb.uniq {es : List En} {r s : Int} (h : IsFb es r) (g : IsFb es s) : r = s := by
  rcases h with ⟨k, k1, k2, k3, rfl⟩ | ⟨rfl, h⟩ <;> rcases g with ⟨j, j1, j2, j3, rfl⟩ | ⟨rfl, g⟩
  · rcases Nat.lt_trichotomy k j with z | z | z
    · have := j3 k z; rw [k2] at this; cases this
    · rw [z]
    · have := k3 j z; rw [j2] at this; cases this
  · have := g k k1; rw [k2] at this; cases this
  · have := h j j1; rw [j2] at this; cases this
  · rfl
theorem IsFb.le {es : List En} {r : Int} (h : IsFb es r) : -1 ≤ r ∧ r ≤ 8 := by
  rcases h with ⟨k, k1, k2, k3, rfl⟩ | ⟨rfl, h⟩
  · refine ⟨by omega, ?_⟩
    rcases Nat.lt_or_ge k 9 with z | z
    · omega
    · have := k3 8 (by omega)
      unfold badE at this
      simp at this
  · omega
theorem IsFf.uniq {p : Pl} {r s : Int} (h : IsFf p r) (g : IsFf p s) : r = s := by
  unfold IsFf at h g
  split at h
  · rename_i c; rw [if_pos c] at g; rw [h, g]
  · rename_i c; rw [if_neg c] at g
    split at h
    · rename_i c; rw [if_pos c] at g; rw [h, g]
    · rename_i c; rw [if_neg c] at g
      split at h
      · rename_i c; rw [if_pos c] at g; rw [h, g]
      · rename_i c; rw [if_neg c] at g
        obtain ⟨k, k1, rfl⟩ := h
        obtain ⟨j, j1, rfl⟩ := g
        rw [k1.uniq j1]
theorem IsFf.le {p : Pl} {r : Int} (h : IsFf p r) : -1 ≤ r ∧ r ≤ 11 := by
  unfold IsFf at h
  split at h
  · omega
  · split at h
    · omega
    · split at h
      · omega
      · obtain ⟨k, k1, rfl⟩ := h
        have := k1.le
        split <;> omega
def wd5 : List Str := ["in", "out", "bulk", "timed", ""]
def En.wd (e : En) : Prop := e.way ∈ wd5 ∧ e.kind ∈ wd5
def Pl.wd (p : Pl) : Prop := ∀ e ∈ p.ends, e.wd
/-! ### the law's plans -/
def wayOf (s : Int) : Str := if s % 2 = 0 then "in" else "out"
def GoodAt (sp : List Int) (j : Nat) (e : En) : Prop := e.ok = true ∧ ∃ s, sp[j]? = some s ∧ 0 ≤ s ∧ s < 14 ∧ e.n = s / 2 + 1 ∧ e.way = wayOf s
def GoodEnds (es : List En) : Prop := ∃ sp : List Int, sp.Pairwise (· < ·) ∧ sp.length = es.length ∧ ∀ j e, es[j]? = some e → GoodAt sp j e
def sp__law_end (K : PySem.W.Frag) (_ : Ad) : Sp := fun vs H Q _ => ∃ (B c : Addr) (cs : List Int) (s : Int), vs = [.ref B, .int s] ∧ Bag K c cs H B ∧ 0 ≤ s ∧ s < 14 ∧
  ∀ v e H', En.ok e = true → e.n = s / 2 + 1 → e.way = wayOf s → Bag K c cs H' B → Ex (wo [B] H) (wo [B] H') → Dp K (wo [B] H') v (En.d e) → Q v H'
def sp__law_ends (K : PySem.W.Frag) (_ : Ad) : Sp := fun vs H Q _ => ∃ (B c : Addr) (cs : List Int) (n : Int), vs = [.ref B, .int n] ∧ 0 ≤ n ∧ n ≤ 10 ∧ Bag K c cs H B ∧
  ∀ v (es : List En) H', es.length ≤ n.toNat → GoodEnds es → Bag K c cs H' B → Ex (wo [B] H) (wo [B] H') → Dp K (wo [B] H') v (endsD es) → Q v H'
/-- a table, c more at each frame of a phase that is below m -/
def addL (ns : List Int) (c : Int) (e ph m : Nat) : List Int := (List.range 32).map fun i => ns.getD i 0 + if i % e = ph ∧ i < m then c else 0
def Pow2 (e : Nat) : Prop := ∃ k < 6, e = 2 ^ k
def sp_cost (_ : PySem.W.Frag) (a : Ad) : Sp := fun vs H Q E => ∃ n : Int, vs = [.int n] ∧ (0 ≤ n ∧ n ≤ 64 → Q (.int (n + 13)) H) ∧ (¬ (0 ≤ n ∧ n ≤ 64) → E (.ref a.c_BadNumber) none H)
def sp_bare_table (K : PySem.W.Frag) (_ : Ad) : Sp := fun vs H Q _ => vs = [] ∧ ∀ t H', H t = none → Ex H H' → SqT K H' t ((List.replicate 32 (0 : Int)).map V.int) → Q (.ref t) H'
def sp_with_end (K : PySem.W.Frag) (_ : Ad) : Sp := fun vs H Q _ => ∃ (p : Addr) (ns : List Int) (s : Int) (e ph : Nat) (sg : Int), vs = [.ref p, .int s, .int (e : Int), .int (ph : Int), .int sg] ∧ SqT K H p (ns.map V.int) ∧ ns.length = 32 ∧ 0 ≤ s ∧ s ≤ 64 ∧ Pow2 e ∧ ph < e ∧ (sg = 1 ∨ sg = -1) ∧
  ∀ t H', H t = none → Ex H H' → SqT K H' t ((addL ns (sg * (s + 13)) e ph 32).map V.int) → Q (.ref t) H'
/-! ### phases -/
def vl (ns : List Int) (g : Nat) : Int := ns.getD g 0
def frs (e ph : Nat) : List Nat := (List.range 32).filter fun i => decide (i % e = ph)
def mxs (ns : List Int) (e ph : Nat) : Int := ((frs e ph).map (vl ns)).max?.getD 0
def full (ns : List Int) (e ph : Nat) : Nat := ((frs e ph).filter fun g => decide (vl ns g = mxs ns e ph)).headD 0
def leastM (ns : List Int) (e : Nat) : Int := ((List.range e).map (mxs ns e)).min?.getD 0
def phs (ns : List Int) (e : Nat) : Nat := ((List.range e).filter fun p => decide (mxs ns e p = leastM ns e)).headD 0
def fulls (ns : List Int) (e : Nat) : List Int := (List.range e).map fun p => ((full ns e p : Nat) : Int)
def sp_fullest_frame (K : PySem.W.Frag) (_ : Ad) : Sp := fun vs H Q _ => ∃ (p : Addr) (ns : List Int) (e ph : Nat), vs = [.ref p, .int (e : Int), .int (ph : Int)] ∧ SqT K H p (ns.map V.int) ∧ ns.length = 32 ∧ Pow2 e ∧ ph < e ∧ ∀ H', Ex H H' → Q (.int (full ns e ph : Nat)) H'
def sp_phase_for (K : PySem.W.Frag) (a : Ad) : Sp := fun vs H Q E => ∃ (p : Addr) (ns : List Int) (s : Int) (e : Nat), vs = [.ref p, .int s, .int (e : Int)] ∧ SqT K H p (ns.map V.int) ∧ ns.length = 32 ∧ 0 ≤ s ∧ s ≤ 64 ∧ Pow2 e ∧
  (leastM ns e + (s + 13) ≤ 1350 → ∀ H', Ex H H' → Q (.int (phs ns e : Nat)) H') ∧
  (1350 < leastM ns e + (s + 13) → ∀ d nl H', Ex H H' → H' d = none → H' nl = none → nl ≠ d → E (.ref a.c_NoRoom) (some d) (upd (upd H' nl (.lst ((fulls ns e).map V.int))) d (.xd [(("frames" : Str), .ref nl)])))
def PsD (e : En) (p : Nat) : PyData := .tuple [.tuple [.int e.n, .str e.way], .int (p : Int)]
/-- one endpoint more is let in, or refused -/
def stepL (x : (List Int × List PyData) ⊕ List Int) (e : En) : (List Int × List PyData) ⊕ List Int := match x with
  | .inr F => .inr F
  | .inl (ns, ps) => if e.kind = "timed" then (if leastM ns e.every.toNat + (e.size + 13) ≤ 1350 then .inl (addL ns (e.size + 13) e.every.toNat (phs ns e.every.toNat) 32, ps ++ [PsD e (phs ns e.every.toNat)]) else .inr (fulls ns e.every.toNat)) else .inl (ns, ps)
def letF (ns : List Int) (es : List En) : (List Int × List PyData) ⊕ List Int := es.foldl stepL (.inl (ns, []))
def outD (x : (List Int × List PyData) ⊕ List Int) : PyData := match x with
  | .inl (ns, ps) => .tuple [.tuple (ns.map PyData.int), .list ps]
  | .inr F => .list (F.map PyData.int)
def saidD (ns : List Int) (s : Int) (e : Nat) : PyData := if leastM ns e + (s + 13) ≤ 1350 then .int (phs ns e : Nat) else .list ((fulls ns e).map PyData.int)
def sp_let_in (K : PySem.W.Frag) (a : Ad) : Sp := fun vs H Q E => ∃ (p : Addr) (v : V) (ns : List Int) (es : List En), vs = [.ref p, v] ∧ SqT K H p (ns.map V.int) ∧ ns.length = 32 ∧ Dp K H v (endsD es) ∧ (∀ e ∈ es, e.ok = true) ∧ es.length ≤ 100 ∧
  (∀ ns' ps, letF ns es = .inl (ns', ps) → ∀ w H', Ex H H' → Dp K H' w (outD (.inl (ns', ps))) → Q w H') ∧
  (∀ F, letF ns es = .inr F → ∀ d nl H', Ex H H' → H' d = none → H' nl = none → nl ≠ d → E (.ref a.c_NoRoom) (some d) (upd (upd H' nl (.lst (F.map V.int))) d (.xd [(("frames" : Str), .ref nl)])))
def sp__law_frames (_ : PySem.W.Frag) (_ : Ad) : Sp := fun vs H Q _ => ∃ e ph : Nat, vs = [.int (e : Int), .int (ph : Int)] ∧ 0 < e ∧ ∀ l H', H l = none → Ex H H' → H' l = some (.lst ((frs e ph).map fun g => V.int (g : Nat))) → Q (.ref l) H'
def sp__law_phase (K : PySem.W.Frag) (_ : Ad) : Sp := fun vs H Q _ => ∃ (p : Addr) (ns : List Int) (s : Int) (e : Nat), vs = [.ref p, .int s, .int (e : Int)] ∧ SqT K H p (ns.map V.int) ∧ ns.length = 32 ∧ Pow2 e ∧ ∀ v H', Ex H H' → Dp K H' v (saidD ns s e) → Q v H'
def sp__law_said (K : PySem.W.Frag) (_ : Ad) : Sp := fun vs H Q _ => ∃ (p : Addr) (ns : List Int) (s : Int) (e : Nat), vs = [.ref p, .int s, .int (e : Int)] ∧ SqT K H p (ns.map V.int) ∧ ns.length = 32 ∧ 0 ≤ s ∧ s ≤ 64 ∧ Pow2 e ∧ ∀ v H', Ex H H' → Dp K H' v (saidD ns s e) → Q v H'
def sp__law_full (K : PySem.W.Frag) (_ : Ad) : Sp := fun vs H Q _ => ∃ (B c : Addr) (cs : List Int), vs = [.ref B] ∧ Bag K c cs H B ∧ ∀ t (ns : List Int) H', ns.length = 32 → Bag K c cs H' B → SqT K (wo [B] H') t (ns.map V.int) → Q (.ref t) H'
def sp__law_let (K : PySem.W.Frag) (_ : Ad) : Sp := fun vs H Q _ => ∃ (p : Addr) (v : V) (ns : List Int) (es : List En), vs = [.ref p, v] ∧ SqT K H p (ns.map V.int) ∧ ns.length = 32 ∧ Dp K H v (endsD es) ∧ (∀ e ∈ es, e.ok = true) ∧ es.length ≤ 100 ∧ ∀ w H', Ex H H' → Dp K H' w (outD (letF ns es)) → Q w H'
/-! ### is_number -/
abbrev N_is_number : List Str := ["value", "low", "high"]
abbrev P_is_number : List Str := ["value", "low", "high"]
theorem sc_is_number : FnScope N_is_number P_is_number (defScope s_is_number) := ⟨rfl, rfl, rfl, by decide +kernel, rfl, by decide +kernel, by decide +kernel⟩
def t_is_number (K : PySem.W.Frag) (a : Ad) : TS :=
    (tRet (tAndV (tCB (rIsi K) (tCons (tVar 0) (tCons (tC (.ty "int")) tNil))) (tChain rLeI rLeI (tVar 1) (tVar 0) (tVar 2))))
/-! ### need_number -/
abbrev N_need_number : List Str := ["number", "low", "high"]
abbrev P_need_number : List Str := ["number", "low", "high"]
theorem sc_need_number : FnScope N_need_number P_need_number (defScope s_need_number) := ⟨rfl, rfl, rfl, by decide +kernel, rfl, by decide +kernel, by decide +kernel⟩
def t_need_number (K : PySem.W.Frag) (a : Ad) (E : XK) : TS :=
    (tIfS (tNot (tB (tCall (sp_is_number K a) [] E0 (tCons (tVar 0) (tCons (tVar 1) (tCons (tVar 2) tNil)))))) (tRaiseC a.c_BadNumber E) tNext)
/-! ### cost -/
abbrev N_cost : List Str := ["size"]
abbrev P_cost : List Str := ["size"]
theorem sc_cost : FnScope N_cost P_cost (defScope s_cost) := ⟨rfl, rfl, rfl, by decide +kernel, rfl, by decide +kernel, by decide +kernel⟩
def t_cost (K : PySem.W.Frag) (a : Ad) (E : XK) : TS :=
    (tSeq (tDrop (tCall (sp_need_number K a) [] E (tCons (tVar 0) (tCons (tC (.int 0)) (tCons (tC (.int 64)) tNil)))))
    (tRet (tOp rAddI (tVar 0) (tC (.int 13)))))
/-! ### fullest_frame -/
abbrev N_fullest_frame : List Str := ["table", "every", "phase", "frames", "most", "frame"]
abbrev P_fullest_frame : List Str := ["table", "every", "phase"]
theorem sc_fullest_frame : FnScope N_fullest_frame P_fullest_frame (defScope s_fullest_frame) := ⟨rfl, rfl, rfl, by decide +kernel, rfl, by decide +kernel, by decide +kernel⟩
def t_fullest_frame (K : PySem.W.Frag) (a : Ad) : TS :=
    (tSeq (tAsg (tListR3 (tCons (tVar 2) (tCons (tC (.int 32)) (tCons (tVar 1) tNil)))) (gName 3))
    (tSeq (tAsg (tCB (rMax K) (tCons (tLc (iList K (tVar 3)) (gName 5) tYes (tOp (rIxT K) (tVar 0) (tVar 5)) [5]) tNil)) (gName 4))
    (tRet (tOp (rIxL K) (tLc (iList K (tVar 3)) (gName 5) (tTest (tOp rEq (tOp (rIxT K) (tVar 0) (tVar 5)) (tVar 4))) (tVar 5) [5]) (tC (.int 0))))))
/-! ### phase_for -/
abbrev N_phase_for : List Str := ["table", "size", "every", "frames", "phase", "least", "frame"]
abbrev P_phase_for : List Str := ["table", "size", "every"]
theorem sc_phase_for : FnScope N_phase_for P_phase_for (defScope s_phase_for) := ⟨rfl, rfl, rfl, by decide +kernel, rfl, by decide +kernel, by decide +kernel⟩
def t_phase_for (K : PySem.W.Frag) (a : Ad) (E : XK) : TS :=
    (tSeq (tAsg (tLc (iRng1 (tCons (tVar 2) tNil)) (gName 4) tYes (tCall (sp_fullest_frame K a) [] E0 (tCons (tVar 0) (tCons (tVar 2) (tCons (tVar 4) tNil)))) [4]) (gName 3))
    (tSeq (tAsg (tCB (rMin K) (tCons (tLc (iList K (tVar 3)) (gName 6) tYes (tOp (rIxT K) (tVar 0) (tVar 6)) [6]) tNil)) (gName 5))
    (tSeq (tIfS (tTest (tOp rGtI (tOp rAddI (tVar 5) (tCall (sp_cost K a) [] E (tCons (tVar 1) tNil))) (tC (.int 1350)))) (tRaiseFr K a.c_NoRoom (fun cls d _ H => E cls d H) (tCons (tVar 3) tNil)) tNext)
    (tRet (tOp (rIxL K) (tLc (iRng1 (tCons (tVar 2) tNil)) (gName 4) (tTest (tOp rEq (tOp (rIxT K) (tVar 0) (tOp (rIxL K) (tVar 3) (tVar 4))) (tVar 5))) (tVar 4) [4]) (tC (.int 0)))))))
/-! ### with_end -/
abbrev N_with_end : List Str := ["table", "size", "every", "phase", "sign", "row", "frame"]
abbrev P_with_end : List Str := ["table", "size", "every", "phase", "sign"]
theorem sc_with_end : FnScope N_with_end P_with_end (defScope s_with_end) := ⟨rfl, rfl, rfl, by decide +kernel, rfl, by decide +kernel, by decide +kernel⟩
def t_with_end (K : PySem.W.Frag) (a : Ad) (E : XK) : TS :=
    (tSeq (tAsg (tCB (rListOf K) (tCons (tVar 0) tNil)) (gName 5))
    (tSeq (tFor (iRng3 (tCons (tVar 3) (tCons (tC (.int 32)) (tCons (tVar 2) tNil)))) (gName 6) (tAsg (tOp rAddI (tOp (rIxL K) (tVar 5) (tVar 6)) (tOp rMulI (tVar 4) (tCall (sp_cost K a) [] E (tCons (tVar 1) tNil)))) (gSub (tVar 5) (tVar 6) rSetL)))
    (tRet (tCB (rTupleOf K) (tCons (tVar 5) tNil)))))
/-! ### let_in -/
abbrev N_let_in : List Str := ["table", "ends", "phases", "number", "way", "kind", "size", "every", "phase"]
abbrev P_let_in : List Str := ["table", "ends"]
theorem sc_let_in : FnScope N_let_in P_let_in (defScope s_let_in) := ⟨rfl, rfl, rfl, by decide +kernel, rfl, by decide +kernel, by decide +kernel⟩
def t_let_in (K : PySem.W.Frag) (a : Ad) (E : XK) : TS :=
    (tSeq (tAsg (tLst tNil) (gName 2))
    (tSeq (tFor (iTup K (tVar 1)) (gTup K 5 (gCons (gName 3) (gCons (gName 4) (gCons (gName 5) (gCons (gName 6) (gCons (gName 7) gNil)))))) (tIfS (tTest (tOp rEq (tVar 5) (tC (.str ("timed" : Str))))) (tSeq (tAsg (tCall (sp_phase_for K a) [] E (tCons (tVar 0) (tCons (tVar 6) (tCons (tVar 7) tNil)))) (gName 8))
    (tSeq (tAsg (tCall (sp_with_end K a) [.int 1] E (tCons (tVar 0) (tCons (tVar 6) (tCons (tVar 7) (tCons (tVar 8) tNil))))) (gName 0))
    (tDrop (tBM K "list" rAppend (tVar 2) (tCons (tTup (tCons (tTup (tCons (tVar 3) (tCons (tVar 4) tNil))) (tCons (tVar 8) tNil))) tNil))))) tNext))
    (tRet (tTup (tCons (tCB (rTupleOf K) (tCons (tVar 0) tNil)) (tCons (tVar 2) tNil))))))
/-! ### _law_bag -/
abbrev N__law_bag : List Str := ["_law_script", "_law_cells", "_law_knot", "_law_cell"]
abbrev P__law_bag : List Str := ["_law_script"]
theorem sc__law_bag : FnScope N__law_bag P__law_bag (defScope s__law_bag) := ⟨rfl, rfl, rfl, by decide +kernel, rfl, by decide +kernel, by decide +kernel⟩
def t__law_bag (K : PySem.W.Frag) (a : Ad) : TS :=
    (tSeq (tAsg (tCB (rListOf K) (tCons (tSl (rSlL K) (tVar 0) tNoPart (tPart (tC (.int 63)))) tNil)) (gName 1))
    (tSeq (tAsg (tOp rAddI (tC (.int 17)) (tCB (rLenQ K) (tCons (tVar 1) tNil))) (gName 2))
    (tSeq (tFor (iList K (tVar 1)) (gName 3) (tAsg (tOp rModI (tOp rAddI (tOp rMulI (tVar 2) (tC (.int 1543))) (tVar 3)) (tC (.int 2147483629))) (gName 2)))
    (tRet (tLst (tCons (tVar 1) (tCons (tC (.int 0)) (tCons (tC (.int 0)) (tCons (tVar 2) tNil)))))))))
/-! ### _law_pull -/
abbrev N__law_pull : List Str := ["_law_bag_here", "_law_upto", "_law_seed", "_law_fold", "_law_twist", "_law_drawn"]
abbrev P__law_pull : List Str := ["_law_bag_here", "_law_upto"]
theorem sc__law_pull : FnScope N__law_pull P__law_pull (defScope s__law_pull) := ⟨rfl, rfl, rfl, by decide +kernel, rfl, by decide +kernel, by decide +kernel⟩
def t__law_pull (K : PySem.W.Frag) (a : Ad) : TS :=
    (tSeq (tIfS (tTest (tOp rLtI (tOp (rIxL K) (tVar 0) (tC (.int 2))) (tC (.int 2)))) (tSeq (tAsg (tOp rAddI (tOp (rIxL K) (tVar 0) (tC (.int 1))) (tC (.int 1))) (gSub (tVar 0) (tC (.int 1)) rSetL))
    (tSeq (tAsg (tOp rAddI (tOp (rIxL K) (tVar 0) (tC (.int 3))) (tOp rMulI (tOp (rIxL K) (tVar 0) (tC (.int 1))) (tC (.int 7919)))) (gName 2))
    (tSeq (tIfS (tTest (tOp rLeI (tOp (rIxL K) (tVar 0) (tC (.int 1))) (tCB (rLenQ K) (tCons (tOp (rIxL K) (tVar 0) (tC (.int 0))) tNil)))) (tAsg (tOp (rIxL K) (tOp (rIxL K) (tVar 0) (tC (.int 0))) (tOp rSubI (tOp (rIxL K) (tVar 0) (tC (.int 1))) (tC (.int 1)))) (gName 2)) tNext)
    (tSeq (tIfS (tOr (tTest (tOp rGtI (tOp (rIxL K) (tVar 0) (tC (.int 1))) (tCB (rLenQ K) (tCons (tOp (rIxL K) (tVar 0) (tC (.int 0))) tNil)))) (tTest (tOp rLtI (tVar 2) (tOp rPowI (tC (.int 10)) (tC (.int 18)))))) (tSeq (tAsg (tOp rModI (tOp rAddI (tOp rAddI (tOp rMulI (tVar 2) (tC (.int 48271))) (tOp rMulI (tOp (rIxL K) (tVar 0) (tC (.int 1))) (tC (.int 40692)))) (tOp (rIxL K) (tVar 0) (tC (.int 3)))) (tC (.int 2147483647))) (gName 3))
    (tSeq (tAsg (tOp rModI (tOp rAddI (tOp rMulI (tVar 3) (tVar 3)) (tOp (rIxL K) (tVar 0) (tC (.int 1)))) (tC (.int 998244353))) (gName 4))
    (tRet (tOp rModI (tOp rDivW (tOp rModI (tOp rAddI (tOp rMulI (tVar 4) (tC (.int 69621))) (tVar 3)) (tC (.int 2147483629))) (tC (.int 7))) (tVar 1))))) tNext)
    (tAsg (tVar 2) (gSub (tVar 0) (tC (.int 2)) rSetL)))))) tNext)
    (tSeq (tAsg (tOp rModI (tOp (rIxL K) (tVar 0) (tC (.int 2))) (tVar 1)) (gName 5))
    (tSeq (tAsg (tOp rDivW (tOp (rIxL K) (tVar 0) (tC (.int 2))) (tVar 1)) (gSub (tVar 0) (tC (.int 2)) rSetL))
    (tRet (tVar 5)))))
/-! ### _law_whole -/
abbrev N__law_whole : List Str := ["_law_found"]
abbrev P__law_whole : List Str := ["_law_found"]
theorem sc__law_whole : FnScope N__law_whole P__law_whole (defScope s__law_whole) := ⟨rfl, rfl, rfl, by decide +kernel, rfl, by decide +kernel, by decide +kernel⟩
def t__law_whole (K : PySem.W.Frag) (a : Ad) : TS :=
    (tRet (tAndV (tCB (rIsi K) (tCons (tVar 0) (tCons (tC (.ty "int")) tNil))) (tNotV (tCB (rIsi K) (tCons (tVar 0) (tCons (tC (.ty "bool")) tNil))))))
/-! ### _law_same -/
abbrev N__law_same : List Str := ["_law_found", "_law_due", "_law_spot"]
abbrev P__law_same : List Str := ["_law_found", "_law_due"]
theorem sc__law_same : FnScope N__law_same P__law_same (defScope s__law_same) := ⟨rfl, rfl, rfl, by decide +kernel, rfl, by decide +kernel, by decide +kernel⟩
def t__law_same (K : PySem.W.Frag) (a : Ad) (spR : Sp) : TS :=
    (tSeq (tIfS (tTest (tOp rIsN (tVar 1) (tC .non))) (tRet (tOp rIsN (tVar 0) (tC .non))) tNext)
    (tSeq (tIfS (tB (tCB (rIsi K) (tCons (tVar 1) (tCons (tC (.ty "bool")) tNil)))) (tRet (tAndV (tCB (rIsi K) (tCons (tVar 0) (tCons (tC (.ty "bool")) tNil))) (tOp rEq (tVar 0) (tVar 1)))) tNext)
    (tSeq (tIfS (tB (tCB (rIsi K) (tCons (tVar 1) (tCons (tC (.ty "int")) tNil)))) (tRet (tAndV (tCall (sp__law_whole K a) [] E0 (tCons (tVar 0) tNil)) (tOp rEq (tVar 0) (tVar 1)))) tNext)
    (tSeq (tIfS (tB (tCB (rIsi K) (tCons (tVar 1) (tCons (tC (.ty "str")) tNil)))) (tRet (tAndV (tCB (rIsi K) (tCons (tVar 0) (tCons (tC (.ty "str")) tNil))) (tOp rEq (tVar 0) (tVar 1)))) tNext)
    (tSeq (tIfS (tOr (tTest (tOp rNe (tCB (rIsi K) (tCons (tVar 1) (tCons (tC (.ty "list")) tNil))) (tCB (rIsi K) (tCons (tVar 0) (tCons (tC (.ty "list")) tNil))))) (tTest (tOp rNe (tCB (rIsi K) (tCons (tVar 1) (tCons (tC (.ty "tuple")) tNil))) (tCB (rIsi K) (tCons (tVar 0) (tCons (tC (.ty "tuple")) tNil)))))) (tRet (tC (.bl false))) tNext)
    (tSeq (tIfS (tTest (tOp rNe (tCB (rLenQ K) (tCons (tVar 0) tNil)) (tCB (rLenQ K) (tCons (tVar 1) tNil)))) (tRet (tC (.bl false))) tNext)
    (tRet (tCB (rAll K) (tCons (tLc (iRng1 (tCons (tCB (rLenQ K) (tCons (tVar 1) tNil)) tNil)) (gName 2) tYes (tCall spR [] E0 (tCons (tOp (rIx K) (tVar 0) (tVar 2)) (tCons (tOp (rIx K) (tVar 1) (tVar 2)) tNil))) [2]) tNil)))))))))
/-! ### _law_one -/
abbrev N__law_one : List Str := ["_law_bag_here", "_law_row"]
abbrev P__law_one : List Str := ["_law_bag_here", "_law_row"]
theorem sc__law_one : FnScope N__law_one P__law_one (defScope s__law_one) := ⟨rfl, rfl, rfl, by decide +kernel, rfl, by decide +kernel, by decide +kernel⟩
def t__law_one (K : PySem.W.Frag) (a : Ad) : TS :=
    (tRet (tOp (rIxL K) (tVar 1) (tCall (sp__law_pull K a) [] E0 (tCons (tVar 0) (tCons (tCB (rLenQ K) (tCons (tVar 1) tNil)) tNil)))))
/-! ### _law_end -/
abbrev N__law_end : List Str := ["_law_bag_here", "_law_spot", "_law_kind", "_law_size_drawn"]
abbrev P__law_end : List Str := ["_law_bag_here", "_law_spot"]
theorem sc__law_end : FnScope N__law_end P__law_end (defScope s__law_end) := ⟨rfl, rfl, rfl, by decide +kernel, rfl, by decide +kernel, by decide +kernel⟩
def t__law_end (K : PySem.W.Frag) (a : Ad) : TS :=
    (tSeq (tAsg (tCall (sp__law_one K a) [] E0 (tCons (tVar 0) (tCons (tLst (tCons (tC (.str ("bulk" : Str))) (tCons (tC (.str ("bulk" : Str))) (tCons (tC (.str ("timed" : Str))) tNil)))) tNil))) (gName 2))
    (tSeq (tIfS (tTest (tOp rEq (tVar 2) (tC (.str ("bulk" : Str))))) (tRet (tTup (tCons (tOp rAddI (tOp rDivW (tVar 1) (tC (.int 2))) (tC (.int 1))) (tCons (tOp (rIxL K) (tLst (tCons (tC (.str ("in" : Str))) (tCons (tC (.str ("out" : Str))) tNil))) (tOp rModI (tVar 1) (tC (.int 2)))) (tCons (tVar 2) (tCons (tCall (sp__law_one K a) [] E0 (tCons (tVar 0) (tCons (tLst (tCons (tC (.int 8)) (tCons (tC (.int 8)) (tCons (tC (.int 16)) (tCons (tC (.int 32)) (tCons (tC (.int 64)) tNil)))))) tNil))) (tCons (tC (.int 0)) tNil))))))) tNext)
    (tSeq (tAsg (tOp rAddI (tC (.int 1)) (tCall (sp__law_pull K a) [] E0 (tCons (tVar 0) (tCons (tCall (sp__law_one K a) [] E0 (tCons (tVar 0) (tCons (tLst (tCons (tC (.int 8)) (tCons (tC (.int 64)) tNil))) tNil))) tNil)))) (gName 3))
    (tRet (tTup (tCons (tOp rAddI (tOp rDivW (tVar 1) (tC (.int 2))) (tC (.int 1))) (tCons (tOp (rIxL K) (tLst (tCons (tC (.str ("in" : Str))) (tCons (tC (.str ("out" : Str))) tNil))) (tOp rModI (tVar 1) (tC (.int 2)))) (tCons (tVar 2) (tCons (tVar 3) (tCons (tCall (sp__law_one K a) [] E0 (tCons (tVar 0) (tCons (tLst (tCons (tC (.int 1)) (tCons (tC (.int 2)) (tCons (tC (.int 4)) (tCons (tC (.int 8)) (tCons (tC (.int 16)) (tCons (tC (.int 32)) tNil))))))) tNil))) tNil))))))))))
/-! ### _law_ends -/
abbrev N__law_ends : List Str := ["_law_bag_here", "_law_most", "_law_spots", "_law_k", "_law_spot"]
abbrev P__law_ends : List Str := ["_law_bag_here", "_law_most"]
theorem sc__law_ends : FnScope N__law_ends P__law_ends (defScope s__law_ends) := ⟨rfl, rfl, rfl, by decide +kernel, rfl, by decide +kernel, by decide +kernel⟩
def t__law_ends (K : PySem.W.Frag) (a : Ad) : TS :=
    (tSeq (tAsg (tCB (rSortedSet a.w) (tCons (tCB (rSetOfL K a.w) (tCons (tLc (iRng1 (tCons (tCall (sp__law_pull K a) [] E0 (tCons (tVar 0) (tCons (tOp rAddI (tVar 1) (tC (.int 1))) tNil))) tNil)) (gName 3) tYes (tCall (sp__law_pull K a) [] E0 (tCons (tVar 0) (tCons (tC (.int 14)) tNil))) [3]) tNil)) tNil)) (gName 2))
    (tRet (tCB (rTupleOf K) (tCons (tLc (iList K (tVar 2)) (gName 4) tYes (tCall (sp__law_end K a) [] E0 (tCons (tVar 0) (tCons (tVar 4) tNil))) [4]) tNil))))
/-! ### _law_frames -/
abbrev N__law_frames : List Str := ["_law_every", "_law_phase_here", "_law_at"]
abbrev P__law_frames : List Str := ["_law_every", "_law_phase_here"]
theorem sc__law_frames : FnScope N__law_frames P__law_frames (defScope s__law_frames) := ⟨rfl, rfl, rfl, by decide +kernel, rfl, by decide +kernel, by decide +kernel⟩
def t__law_frames (K : PySem.W.Frag) (a : Ad) : TS :=
    (tRet (tLc (iRng1 (tCons (tC (.int 32)) tNil)) (gName 2) (tTest (tOp rEq (tOp rModI (tVar 2) (tVar 0)) (tVar 1))) (tVar 2) [2]))
/-! ### _law_phase -/
abbrev N__law_phase : List Str := ["_law_table", "_law_piece_size", "_law_every", "_law_rows", "_law_at", "_law_phase_here", "_law_found"]
abbrev P__law_phase : List Str := ["_law_table", "_law_piece_size", "_law_every"]
theorem sc__law_phase : FnScope N__law_phase P__law_phase (defScope s__law_phase) := ⟨rfl, rfl, rfl, by decide +kernel, rfl, by decide +kernel, by decide +kernel⟩
def t__law_phase (K : PySem.W.Frag) (a : Ad) : TS :=
    (tSeq (tAsg (tLc (iRng1 (tCons (tVar 2) tNil)) (gName 5) tYes (tCB (rMax K) (tCons (tLc (iList K (tCall (sp__law_frames K a) [] E0 (tCons (tVar 2) (tCons (tVar 5) tNil)))) (gName 4) tYes (tOp (rIxT K) (tVar 0) (tVar 4)) [4]) tNil)) [5]) (gName 3))
    (tSeq (tIfS (tTest (tOp rLeI (tOp rAddI (tOp rAddI (tCB (rMin K) (tCons (tVar 3) tNil)) (tVar 1)) (tC (.int 13))) (tC (.int 1350)))) (tRet (tBM K "list" (rIndex K) (tVar 3) (tCons (tCB (rMin K) (tCons (tVar 3) tNil)) tNil))) tNext)
    (tSeq (tAsg (tLst tNil) (gName 6))
    (tSeq (tFor (iRng1 (tCons (tVar 2) tNil)) (gName 5) (tDrop (tBM K "list" rAppend (tVar 6) (tCons (tOp (rIxL K) (tLc (iList K (tCall (sp__law_frames K a) [] E0 (tCons (tVar 2) (tCons (tVar 5) tNil)))) (gName 4) (tTest (tOp rEq (tOp (rIxT K) (tVar 0) (tVar 4)) (tOp (rIxL K) (tVar 3) (tVar 5)))) (tVar 4) [4]) (tC (.int 0))) tNil))))
    (tRet (tVar 6))))))
/-! ### _law_full -/
abbrev N__law_full : List Str := ["_law_bag_here", "_law_table", "_law_k", "_law_every", "_law_phase_here", "_law_piece_size", "_law_at"]
abbrev P__law_full : List Str := ["_law_bag_here"]
theorem sc__law_full : FnScope N__law_full P__law_full (defScope s__law_full) := ⟨rfl, rfl, rfl, by decide +kernel, rfl, by decide +kernel, by decide +kernel⟩
def t__law_full (K : PySem.W.Frag) (a : Ad) : TS :=
    (tSeq (tAsg (tOp rRep (tLst (tCons (tC (.int 0)) tNil)) (tC (.int 32))) (gName 1))
    (tSeq (tFor (iRng1 (tCons (tCall (sp__law_pull K a) [] E0 (tCons (tVar 0) (tCons (tOp (rIxL K) (tLst (tCons (tC (.int 4)) (tCons (tC (.int 60)) tNil))) (tCall (sp__law_pull K a) [] E0 (tCons (tVar 0) (tCons (tC (.int 2)) tNil)))) tNil))) tNil)) (gName 2) (tSeq (tAsg (tCall (sp__law_one K a) [] E0 (tCons (tVar 0) (tCons (tLst (tCons (tC (.int 1)) (tCons (tC (.int 2)) (tCons (tC (.int 4)) (tCons (tC (.int 8)) (tCons (tC (.int 16)) (tCons (tC (.int 32)) tNil))))))) tNil))) (gName 3))
    (tSeq (tAsg (tCall (sp__law_pull K a) [] E0 (tCons (tVar 0) (tCons (tVar 3) tNil))) (gName 4))
    (tSeq (tAsg (tCall (sp__law_pull K a) [] E0 (tCons (tVar 0) (tCons (tC (.int 65)) tNil))) (gName 5))
    (tIfS (tB (tCB (rAll K) (tCons (tLc (iList K (tCall (sp__law_frames K a) [] E0 (tCons (tVar 3) (tCons (tVar 4) tNil)))) (gName 6) tYes (tOp rLeI (tOp rAddI (tOp rAddI (tOp (rIxL K) (tVar 1) (tVar 6)) (tVar 5)) (tC (.int 13))) (tC (.int 1350))) [6]) tNil))) (tFor (iList K (tCall (sp__law_frames K a) [] E0 (tCons (tVar 3) (tCons (tVar 4) tNil)))) (gName 6) (tAsg (tOp rAddI (tOp rAddI (tOp (rIxL K) (tVar 1) (tVar 6)) (tVar 5)) (tC (.int 13))) (gSub (tVar 1) (tVar 6) rSetL))) tNext)))))
    (tRet (tCB (rTupleOf K) (tCons (tVar 1) tNil)))))
/-! ### _law_said -/
abbrev N__law_said : List Str := ["_law_table", "_law_piece_size", "_law_every", "_law_told", "e"]
abbrev P__law_said : List Str := ["_law_table", "_law_piece_size", "_law_every"]
theorem sc__law_said : FnScope N__law_said P__law_said (defScope s__law_said) := ⟨rfl, rfl, rfl, by decide +kernel, rfl, by decide +kernel, by decide +kernel⟩
def t__law_said (K : PySem.W.Frag) (a : Ad) : TS :=
    (tSeq (tAsg (tC .non) (gName 3))
    (tSeq (fun D σ H => (fun W => (tAsg (tCallS (sp_phase_for K a) (WE W) (tCons (tVar 0) (tCons (tVar 1) (tCons (tVar 2) tNil)))) (gName 3))) (wAs K (.ref a.c_BusError) 4 (fun ae cls d => (tAsg (tIf (tB (tCB (rIsE3 K a.c_NoRoom ae cls d) (tCons (tVar 4) (tCons (tC (.ref a.c_NoRoom)) tNil)))) (tByFr a.c_NoRoom ae cls d (tVar 4)) (tC (.str ("other" : Str)))) (gName 3))) (fun _ _ _ _ => False) D) D σ H)
    (tRet (tVar 3))))
/-! ### _law_let -/
abbrev N__law_let : List Str := ["_law_table", "_law_ends_here", "e"]
abbrev P__law_let : List Str := ["_law_table", "_law_ends_here"]
theorem sc__law_let : FnScope N__law_let P__law_let (defScope s__law_let) := ⟨rfl, rfl, rfl, by decide +kernel, rfl, by decide +kernel, by decide +kernel⟩
def t__law_let (K : PySem.W.Frag) (a : Ad) : TS :=
    (fun D σ H => (fun W => (tRet (tCallS (sp_let_in K a) (WE W) (tCons (tVar 0) (tCons (tVar 1) tNil))))) (wAs K (.ref a.c_NoRoom) 2 (fun ae cls d => (tRet (tByFr a.c_NoRoom ae cls d (tVar 2)))) (fun _ _ _ _ => False) D) D σ H)
/-! ### law -/
abbrev N_law : List Str := ["_law_script", "_law_bag_here", "_law_table", "_law_k", "_law_every", "_law_piece_size", "_law_ends_here", "_law_here", "_law_phases", "_law_due", "_law_number", "_law_way", "_law_kind", "_law_phase_here", "_law_at", "_law_one_here"]
abbrev P_law : List Str := ["_law_script"]
theorem sc_law : FnScope N_law P_law (defScope s_law) := ⟨rfl, rfl, rfl, by decide +kernel, rfl, by decide +kernel, by decide +kernel⟩
def t_law (K : PySem.W.Frag) (a : Ad) : TS :=
    (tSeq (tAsg (tCall (sp__law_bag K a) [] E0 (tCons (tVar 0) tNil)) (gName 1))
    (tSeq (tAsg (tCall (sp__law_full K a) [] E0 (tCons (tVar 1) tNil)) (gName 2))
    (tSeq (tFor (iRng1 (tCons (tC (.int 5)) tNil)) (gName 3) (tSeq (tAsg (tCall (sp__law_one K a) [] E0 (tCons (tVar 1) (tCons (tLst (tCons (tC (.int 1)) (tCons (tC (.int 2)) (tCons (tC (.int 4)) (tCons (tC (.int 8)) (tCons (tC (.int 16)) (tCons (tC (.int 32)) tNil))))))) tNil))) (gName 4))
    (tSeq (tAsg (tOp rAddI (tC (.int 1)) (tCall (sp__law_pull K a) [] E0 (tCons (tVar 1) (tCons (tC (.int 64)) tNil)))) (gName 5))
    (tIfS (tNot (tB (tCall (sp__law_same K a) [] E0 (tCons (tCall (sp__law_said K a) [] E0 (tCons (tVar 2) (tCons (tVar 5) (tCons (tVar 4) tNil)))) (tCons (tCall (sp__law_phase K a) [] E0 (tCons (tVar 2) (tCons (tVar 5) (tCons (tVar 4) tNil)))) tNil))))) (tRet (tC (.bl false))) tNext))))
    (tSeq (tAsg (tCall (sp__law_ends K a) [] E0 (tCons (tVar 1) (tCons (tC (.int 8)) tNil))) (gName 6))
    (tSeq (tAsg (tVar 2) (gName 7))
    (tSeq (tAsg (tLst tNil) (gName 8))
    (tSeq (tAsg (tC .non) (gName 9))
    (tSeq (tFor (iTup K (tVar 6)) (gTup K 5 (gCons (gName 10) (gCons (gName 11) (gCons (gName 12) (gCons (gName 5) (gCons (gName 4) gNil)))))) (tIfS (tAnd (tTest (tOp rEq (tVar 12) (tC (.str ("timed" : Str))))) (tTest (tOp rIsN (tVar 9) (tC .non)))) (tSeq (tAsg (tCall (sp__law_phase K a) [] E0 (tCons (tVar 7) (tCons (tVar 5) (tCons (tVar 4) tNil)))) (gName 13))
    (tIfS (tB (tCB (rIsi K) (tCons (tVar 13) (tCons (tC (.ty "list")) tNil)))) (tAsg (tVar 13) (gName 9)) (tSeq (tAsg (tCB (rTupleOf K) (tCons (tLc (iEnumT K (tCons (tVar 7) tNil)) (gTup K 2 (gCons (gName 14) (gCons (gName 15) gNil))) tYes (tOp rAddI (tVar 15) (tOp rMulI (tOp rAddI (tVar 5) (tC (.int 13))) (tCB rInt1 (tCons (tOp rEq (tOp rModI (tVar 14) (tVar 4)) (tVar 13)) tNil)))) [14, 15]) tNil)) (gName 7))
    (tDrop (tBM K "list" rAppend (tVar 8) (tCons (tTup (tCons (tTup (tCons (tVar 10) (tCons (tVar 11) tNil))) (tCons (tVar 13) tNil))) tNil)))))) tNext))
    (tRet (tCall (sp__law_same K a) [] E0 (tCons (tCall (sp__law_let K a) [] E0 (tCons (tVar 2) (tCons (tVar 6) tNil))) (tCons (tIf (tTest (tOp rNotN (tVar 9) (tC .non))) (tVar 9) (tTup (tCons (tVar 7) (tCons (tVar 8) tNil)))) tNil))))))))))))
end My

namespace My
open PySem PySem.Spec PyProof.Rows L2
section
variable {P : Program} {w : World} {K : PySem.W.Frag} {mg : Str → Option Value} {base : Heap} {a : Ad}
local macro_rules | `(tactic| walk_at "sm") => `(tactic| try simp only [tSeq, tAsg, tVar, tC, tOp, tUn, tRet, tRetN, tDrop, tIfS, tNext, tAnd, tOr, tNot, tB, tTest, tChain, tAndV, tOrV, tNotV, tIf, tCB, tCons, tNil, tCall, tCallS, tPar, rInRg, rNotInRg, rRg1, rRg2, tRaiseAt, tMkAt, tByAt, tCallN, tListR3, tLstRg, tRg1, tRaiseFr, tMkFr, tByFr, rMax2, rMin2, rInt1, tLst, tTup, tSl, tNoPart, tPart,
  tAug, ipI, gName, gSub, gTup, gCons, gNil, rI0, rI, rU, rEq, rNe, rIsN, rNotN, rAddI, rSubI, rMulI, rModI, rDivW, rPowI, rShlI, rShrI, rAndI, rOrI, rXorI, rLtI, rLeI, rGtI, rGeI, rNegI, rIxL, rIxT, rLenQ, rListOf, rTupleOf, rSetL, tRevL, tRaiseC, rSlL,
  List.getElem?_cons_zero, List.getElem?_cons_succ, List.set_cons_zero, List.set_cons_succ, Option.some.injEq, V.int.injEq, V.bl.injEq, V.ref.injEq, V.str.injEq, exists_eq_left', exists_eq_left, exists_and_left, List.cons.injEq, and_true, true_and, List.append_nil, scal, Int.reduceToNat, if_true, if_false, Bool.false_eq_true])
local macro_rules | `(tactic| walk_at "bg") => `(tactic| repeat (first
  | refine ⟨_, SqL.of (by assumption), _, rfl, ?_⟩
  | refine ⟨_, SqL.of upd_same, _, rfl, ?_⟩
  | refine ⟨_, rfl, ?_⟩
  | refine ⟨_, (by assumption), _, rfl, ?_⟩
  | refine ⟨_, upd_same, _, rfl, ?_⟩
  | refine ⟨Or.inr ⟨by omega, by omega⟩, ?_⟩
  | refine ⟨Or.inl ⟨by omega, by omega⟩, ?_⟩
  | refine ⟨(show (0 : Int) < _ by omega), ?_⟩
  | refine ⟨_, .inl (SqL.of upd_same), ?_⟩
  | refine ⟨_, .inl (by assumption), ?_⟩))
local macro_rules | `(tactic| walk_at "ty") => `(tactic| try simp only [tyS, tyL, tyT, if_true, if_false, Bool.false_eq_true, reduceCtorEq, decide_false, decide_true, exists_eq_left', exists_eq_left, V.bl.injEq, and_true, true_and, Bool.not_true, Bool.not_false, decide_eq_true_eq, Bool.true_and, Bool.and_true])
theorem rd_is_number : RD (sp_is_number K a) (t_is_number K a) N_is_number := by
  rintro vs H Q E ⟨v, d, lo, hi, rfl, hd, nb, q⟩
  show t_is_number K a _ [some v, some (.int lo), some (.int hi)] H
  unfold t_is_number
  walk_at "sm"
  refine isi hd (by decide) ?_
  walk_at "sm"
  refine iteB (fun h => ?_) (fun h => ?_)
  · cases hd with
    | int i =>
      walk_at "sm"
      refine iteP (fun h1 => ?_) (fun h1 => ?_)
      · simpa only [isNum, decide_eq_true h1, Bool.true_and] using q
      · simpa only [isNum, decide_eq_false h1, Bool.false_and] using q
    | bl b => exact absurd rfl (nb b)
    | _ => exact Bool.noConfusion h
  · cases hd with
    | int i => exact Bool.noConfusion h
    | bl b => exact absurd rfl (nb b)
    | _ => exact q
theorem rd_need_number : RDX (sp_need_number K a) (t_need_number K a) N_need_number := by
  rintro vs H Q E ⟨n, lo, hi, rfl, h1, h2⟩
  show t_need_number K a E _ [some (.int n), some (.int lo), some (.int hi)] H
  unfold t_need_number
  walk_at "sm"
  refine ⟨_, _, _, _, rfl, .int n, (fun b z => nomatch z), ?_⟩
  walk_at "sm"
  refine iteB (fun h => h2 ?_) (fun h => h1 ?_) <;> simp [isNum] at h <;> omega
theorem rd__law_bag : RD (sp__law_bag K a) (t__law_bag K a) N__law_bag := by
  rintro vs H Q E ⟨p, cs, rfl, hS, hl, q⟩
  show t__law_bag K a _ [some (.ref p), none, none, none] H
  unfold t__law_bag
  walk_at "sm"
  refine ⟨_, hS, fun p1 hp1 => ?_⟩
  rw [cutV_all (by rw [List.length_map]; omega)]
  refine ⟨_, .inl (SqL.of upd_same), fun p2 hp2 => ?_⟩
  refine ⟨_, .inl (SqL.of upd_same), ?_⟩
  have e0 : Ex H (upd (upd H p1 (.lst (cs.map V.int))) p2 (.lst (cs.map V.int))) := (Ex.new hp1).trans (Ex.new hp2)
  generalize hH2 : upd (upd H p1 (.lst (cs.map V.int))) p2 (.lst (cs.map V.int)) = H2 at e0
  have hS2 : H2 p2 = some (.lst (cs.map V.int)) := by rw [← hH2]; exact upd_same
  refine forL 3 (fun j σ H' => ∃ (k : Int) (x : Option V), σ = [some (.ref p), some (.ref p2), some (.int k), x] ∧ H' = H2 ∧ k.natAbs < 2147483629) (fun R r => ⟨_, rfl, r⟩) (SqL.of hS2) ⟨_, _, rfl, rfl, ?_⟩ ?hl ?hs ?hd
  · rw [List.length_map]
    omega
  case hl =>
    rintro j σ H' ⟨k, x, rfl, rfl, _⟩
    exact SqL.of hS2
  case hs =>
    rintro j x σ H' hj ⟨k, y, rfl, rfl, hk⟩
    rw [List.getElem?_map] at hj
    obtain ⟨b, hb1, rfl⟩ := Option.map_eq_some_iff.mp hj
    walk_at "sm"
    refine ⟨.inr ⟨by omega, by omega⟩, by omega, _, _, ⟨rfl, rfl⟩, ?_⟩
    omega
  case hd =>
    rintro σ H' ⟨k, x, rfl, rfl, hk⟩
    walk_at "sm"
    refine ⟨by show 4 ≤ sizeLine; decide, fun p3 hp3 => ?_⟩
    refine q p3 p2 _ ?_ (e0.trans (Ex.new hp3)) ⟨0, 0, k, upd_same, ?_, hl, by omega⟩
    · exact e0.free hp3
    · exact (Ex.new hp3).sqL (SqL.of hS2)
theorem rd__law_whole : RD (sp__law_whole K a) (t__law_whole K a) N__law_whole := by
  rintro vs H Q E ⟨v, d, rfl, hd, q⟩
  show t__law_whole K a _ [some v] H
  unfold t__law_whole
  walk_at "sm"
  refine isi hd (by decide) ?_
  walk_at "sm"
  refine iteB (fun h => ?_) (fun h => ?_)
  · refine isi hd (by decide) ?_
    walk_at "sm"
    cases hd <;> first | exact Bool.noConfusion h | exact q
  · cases hd <;> first | exact Bool.noConfusion h | exact q
end
end My

namespace My
open PySem PySem.Spec PyProof.Rows L2
section
variable {P : Program} {w : World} {K : PySem.W.Frag} {mg : Str → Option Value} {base : Heap} {a : Ad}
local macro_rules | `(tactic| walk_at "sm") => `(tactic| try simp only [tSeq, tAsg, tVar, tC, tOp, tUn, tRet, tRetN, tDrop, tIfS, tNext, tAnd, tOr, tNot, tB, tTest, tChain, tAndV, tOrV, tNotV, tIf, tCB, tCons, tNil, tCall, tCallS, tPar, rInRg, rNotInRg, rRg1, rRg2, tRaiseAt, tMkAt, tByAt, tCallN, tListR3, tLstRg, tRg1, tRaiseFr, tMkFr, tByFr, rMax2, rMin2, rInt1, tLst, tTup, tSl, tNoPart, tPart,
  tAug, ipI, gName, gSub, gTup, gCons, gNil, rI0, rI, rU, rEq, rNe, rIsN, rNotN, rAddI, rSubI, rMulI, rModI, rDivW, rPowI, rShlI, rShrI, rAndI, rOrI, rXorI, rLtI, rLeI, rGtI, rGeI, rNegI, rIxL, rIxT, rLenQ, rListOf, rTupleOf, rSetL, tRevL, tRaiseC, rSlL,
  List.getElem?_cons_zero, List.getElem?_cons_succ, List.set_cons_zero, List.set_cons_succ, Option.some.injEq, V.int.injEq, V.bl.injEq, V.ref.injEq, V.str.injEq, exists_eq_left', exists_eq_left, exists_and_left, List.cons.injEq, and_true, true_and, List.append_nil, scal, Int.reduceToNat, if_true, if_false, Bool.false_eq_true])
local macro_rules | `(tactic| walk_at "bg") => `(tactic| repeat (first
  | refine ⟨_, SqL.of (by assumption), _, rfl, ?_⟩
  | refine ⟨_, SqL.of upd_same, _, rfl, ?_⟩
  | refine ⟨_, rfl, ?_⟩
  | refine ⟨_, (by assumption), _, rfl, ?_⟩
  | refine ⟨_, upd_same, _, rfl, ?_⟩
  | refine ⟨Or.inr ⟨by omega, by omega⟩, ?_⟩
  | refine ⟨Or.inl ⟨by omega, by omega⟩, ?_⟩
  | refine ⟨(show (0 : Int) < _ by omega), ?_⟩
  | refine ⟨_, .inl (SqL.of upd_same), ?_⟩
  | refine ⟨_, .inl (by assumption), ?_⟩))
local macro_rules | `(tactic| walk_at "ty") => `(tactic| try simp only [tyS, tyL, tyT, if_true, if_false, Bool.false_eq_true, reduceCtorEq, decide_false, decide_true, exists_eq_left', exists_eq_left, V.bl.injEq, and_true, true_and, Bool.not_true, Bool.not_false, decide_eq_true_eq, Bool.true_and, Bool.and_true])
theorem rd__law_pull : RD (sp__law_pull K a) (t__law_pull K a) N__law_pull := by
  rintro vs H Q E ⟨p, c, cs, u, rfl, ⟨i, s, k, hp, hS, hl, h0⟩, hu, hu2, q⟩
  show t__law_pull K a _ [some (.ref p), some (.int u), none, none, none, none] H
  unfold t__law_pull
  have at0 : ∀ i s k : Int, atI [V.ref c, .int i, .int s, .int k] 0 = some (.ref c) := fun _ _ _ => rfl
  have at1 : ∀ i s k : Int, atI [V.ref c, .int i, .int s, .int k] 1 = some (.int i) := fun _ _ _ => rfl
  have at2 : ∀ i s k : Int, atI [V.ref c, .int i, .int s, .int k] 2 = some (.int s) := fun _ _ _ => rfl
  have at3 : ∀ i s k : Int, atI [V.ref c, .int i, .int s, .int k] 3 = some (.int k) := fun _ _ _ => rfl
  have mod0 : ∀ z : Int, 0 ≤ z % u ∧ z % u < u := fun z => ⟨Int.emod_nonneg _ (by omega), Int.emod_lt_of_pos _ hu⟩
  -- the end: what is left of a number
  have fin : ∀ (H : Hp) (i s k : Int) x y z, H p = some (.lst [.ref c, .int i, .int s, .int k]) → SqL K H c (cs.map V.int) → 0 ≤ i → (∀ r H', 0 ≤ r → r < u → Bag K c cs H' p → (∀ b, b ≠ p → H' b = H b) → Q (.int r) H') →
      (tSeq (tAsg (tOp rModI (tOp (rIxL K) (tVar 0) (tC (.int 2))) (tVar 1)) (gName 5)) (tSeq (tAsg (tOp rDivW (tOp (rIxL K) (tVar 0) (tC (.int 2))) (tVar 1)) (gSub (tVar 0) (tC (.int 2)) rSetL)) (tRet (tVar 5))))
        { nx := fun _ H' => Q .non H', rt := Q } [some (.ref p), some (.int u), x, y, z, none] H := by
    intro H i s k x y z hp hS h0 q
    walk_at "sm"
    refine ⟨_, SqL.of hp, _, at2 _ _ _, _, rfl, hu, ?_⟩
    walk_at "sm"
    refine ⟨_, SqL.of hp, _, at2 _ _ _, _, rfl, cdivS hu hu2, _, hp, 2, rfl, ?_⟩
    exact q _ _ (mod0 _).1 (mod0 _).2 (bag_mk hp hS hl h0) upd_off
  walk_at "sm"
  walk_at "bg"
  refine iteP (fun h => ?_) (fun h => ?_)
  · walk_at "bg"
    have hS' := bag_ne hp hS
    walk_at "sm"
    have fin2 := fun (s' : Int) x y z (hz : 0 ≤ i + 1) => fin (upd H p (.lst [V.ref c, .int (i + 1), .int s', .int k])) (i + 1) s' k x y z upd_same (hS' _) hz (fun r H' r0 r1 hb he => q r H' r0 r1 hb (fun b hbp => (he b hbp).trans (upd_ne hbp)))
    have hp2 : (upd H p (.lst [V.ref c, .int (i + 1), .int s, .int k])) p = some (.lst [V.ref c, .int (i + 1), .int s, .int k]) := upd_same
    have hS2 := hS' (.lst [V.ref c, .int (i + 1), .int s, .int k])
    have bag2 : Bag K c cs (upd H p (.lst [V.ref c, .int (i + 1), .int s, .int k])) p := ⟨_, _, _, hp2, hS2, hl, by omega⟩
    have off2 : ∀ b, b ≠ p → (upd H p (.lst [V.ref c, .int (i + 1), .int s, .int k])) b = H b := fun b hb => upd_ne hb
    have eo : ∀ s', upd (upd H p (.lst [V.ref c, .int (i + 1), .int s, .int k])) p (.lst [V.ref c, .int (i + 1), .int s', .int k]) = upd H p (.lst [V.ref c, .int (i + 1), .int s', .int k]) := fun _ => upd_upd
    generalize upd H p (.lst [V.ref c, .int (i + 1), .int s, .int k]) = H2 at hp2 hS2 bag2 off2 eo ⊢
    have drawn : ∀ (seed : Int) (x : Option V), (tSeq (tAsg (tOp rModI (tOp rAddI (tOp rAddI (tOp rMulI (tVar 2) (tC (.int 48271))) (tOp rMulI (tOp (rIxL K) (tVar 0) (tC (.int 1))) (tC (.int 40692)))) (tOp (rIxL K) (tVar 0) (tC (.int 3)))) (tC (.int 2147483647))) (gName 3))
        (tSeq (tAsg (tOp rModI (tOp rAddI (tOp rMulI (tVar 3) (tVar 3)) (tOp (rIxL K) (tVar 0) (tC (.int 1)))) (tC (.int 998244353))) (gName 4))
        (tRet (tOp rModI (tOp rDivW (tOp rModI (tOp rAddI (tOp rMulI (tVar 4) (tC (.int 69621))) (tVar 3)) (tC (.int 2147483629))) (tC (.int 7))) (tVar 1)))))
        { nx := fun _ _ => False, rt := Q } [some (.ref p), some (.int u), some (.int seed), none, none, x] H2 := by
      intro seed x
      walk_at "sm"
      walk_at "bg"
      refine ⟨cdivS (by omega) (by omega), hu, ?_⟩
      exact q _ _ (mod0 _).1 (mod0 _).2 bag2 off2
    have after : ∀ seed : Int, (tSeq (tIfS (tOr (tTest (tOp rGtI (tOp (rIxL K) (tVar 0) (tC (.int 1))) (tCB (rLenQ K) (tCons (tOp (rIxL K) (tVar 0) (tC (.int 0))) tNil)))) (tTest (tOp rLtI (tVar 2) (tOp rPowI (tC (.int 10)) (tC (.int 18)))))) (tSeq (tAsg (tOp rModI (tOp rAddI (tOp rAddI (tOp rMulI (tVar 2) (tC (.int 48271))) (tOp rMulI (tOp (rIxL K) (tVar 0) (tC (.int 1))) (tC (.int 40692)))) (tOp (rIxL K) (tVar 0) (tC (.int 3)))) (tC (.int 2147483647))) (gName 3))
        (tSeq (tAsg (tOp rModI (tOp rAddI (tOp rMulI (tVar 3) (tVar 3)) (tOp (rIxL K) (tVar 0) (tC (.int 1)))) (tC (.int 998244353))) (gName 4))
        (tRet (tOp rModI (tOp rDivW (tOp rModI (tOp rAddI (tOp rMulI (tVar 4) (tC (.int 69621))) (tVar 3)) (tC (.int 2147483629))) (tC (.int 7))) (tVar 1))))) tNext) (tAsg (tVar 2) (gSub (tVar 0) (tC (.int 2)) rSetL)))
        { nx := (tSeq (tAsg (tOp rModI (tOp (rIxL K) (tVar 0) (tC (.int 2))) (tVar 1)) (gName 5)) (tSeq (tAsg (tOp rDivW (tOp (rIxL K) (tVar 0) (tC (.int 2))) (tVar 1)) (gSub (tVar 0) (tC (.int 2)) rSetL)) (tRet (tVar 5)))) { nx := fun _ H' => Q .non H', rt := Q }, rt := Q } [some (.ref p), some (.int u), some (.int seed), none, none, none] H2 := by
      intro seed
      have dr := drawn seed none
      have f2 := fin2 seed (some (.int seed)) none none (by omega)
      rw [← eo] at f2
      revert dr f2
      walk_at "sm"
      intro dr f2
      have lastly : ∀ R : Prop, R → (∃ x, H2 p = some (.lst x) ∧ ∃ x_1, ixN x.length 2 = some x_1 ∧ R) := fun R r => ⟨_, hp2, 2, rfl, r⟩
      refine ⟨_, SqL.of hp2, _, rfl, _, SqL.of hp2, _, rfl, c, rfl, _, .inl hS2, _, rfl, ?_⟩
      refine iteP (fun h1 => dr) (fun h1 => ?_)
      refine ⟨⟨by omega, by omega, by omega⟩, ?_⟩
      refine iteP (fun h1 => dr) (fun h1 => ?_)
      exact ⟨_, hp2, 2, rfl, f2⟩
    refine ⟨_, .inl hS2, ?_⟩
    refine iteP (fun h1 => ?_) (fun h1 => ?_)
    · rw [List.length_map] at h1
      obtain ⟨b, hb⟩ : ∃ b, cs[i.toNat]? = some b := ⟨_, List.getElem?_eq_getElem (by omega)⟩
      refine ⟨_, SqL.of hp2, _, rfl, _, SqL.of hp2, _, rfl, _, rfl, c, rfl, _, hS2, .int b, ?_, ?_⟩
      · refine at_of (j := i.toNat) (by omega) ?_
        rw [List.getElem?_map, hb]
        rfl
      · have := after b
        revert this
        walk_at "sm"
        exact id
    · have := after (k + (i + 1) * 7919)
      revert this
      walk_at "sm"
      exact id
  · have := fin H i s k none none none hp hS h0 q
    revert this
    walk_at "sm"
    exact id
end
end My

namespace My
open PySem PySem.Spec PyProof.Rows L2
section
variable {P : Program} {w : World} {K : PySem.W.Frag} {mg : Str → Option Value} {base : Heap} {a : Ad}
local macro_rules | `(tactic| walk_at "sm") => `(tactic| try simp only [tSeq, tAsg, tVar, tC, tOp, tUn, tRet, tRetN, tDrop, tIfS, tNext, tAnd, tOr, tNot, tB, tTest, tChain, tAndV, tOrV, tNotV, tIf, tCB, tCons, tNil, tCall, tCallS, tPar, rInRg, rNotInRg, rRg1, rRg2, tRaiseAt, tMkAt, tByAt, tCallN, tListR3, tLstRg, tRg1, tRaiseFr, tMkFr, tByFr, rMax2, rMin2, rInt1, tLst, tTup, tSl, tNoPart, tPart,
  tAug, ipI, gName, gSub, gTup, gCons, gNil, rI0, rI, rU, rEq, rNe, rIsN, rNotN, rAddI, rSubI, rMulI, rModI, rDivW, rPowI, rShlI, rShrI, rAndI, rOrI, rXorI, rLtI, rLeI, rGtI, rGeI, rNegI, rIxL, rIxT, rLenQ, rListOf, rTupleOf, rSetL, tRevL, tRaiseC, rSlL,
  List.getElem?_cons_zero, List.getElem?_cons_succ, List.set_cons_zero, List.set_cons_succ, Option.some.injEq, V.int.injEq, V.bl.injEq, V.ref.injEq, V.str.injEq, exists_eq_left', exists_eq_left, exists_and_left, List.cons.injEq, and_true, true_and, List.append_nil, scal, Int.reduceToNat, if_true, if_false, Bool.false_eq_true])
local macro_rules | `(tactic| walk_at "bg") => `(tactic| repeat (first
  | refine ⟨_, SqL.of (by assumption), _, rfl, ?_⟩
  | refine ⟨_, SqL.of upd_same, _, rfl, ?_⟩
  | refine ⟨_, rfl, ?_⟩
  | refine ⟨_, (by assumption), _, rfl, ?_⟩
  | refine ⟨_, upd_same, _, rfl, ?_⟩
  | refine ⟨Or.inr ⟨by omega, by omega⟩, ?_⟩
  | refine ⟨Or.inl ⟨by omega, by omega⟩, ?_⟩
  | refine ⟨(show (0 : Int) < _ by omega), ?_⟩
  | refine ⟨_, .inl (SqL.of upd_same), ?_⟩
  | refine ⟨_, .inl (by assumption), ?_⟩))
local macro_rules | `(tactic| walk_at "ty") => `(tactic| try simp only [tyS, tyL, tyT, if_true, if_false, Bool.false_eq_true, reduceCtorEq, decide_false, decide_true, exists_eq_left', exists_eq_left, V.bl.injEq, and_true, true_and, Bool.not_true, Bool.not_false, decide_eq_true_eq, Bool.true_and, Bool.and_true])
/-- one level deeper: spR is what holds one level up -/
theorem rd__law_same (n : Nat) (spR : Sp) (hR : ∀ k, n = k + 1 → spR = sp_same k K) : RD (sp_same n K) (t__law_same K a spR) N__law_same := by
  rintro vs H Q E ⟨v, w, d, rfl, hv, hw, ok, q⟩
  show t__law_same K a _ _ [some v, some w, none] H
  unfold t__law_same
  cases d with
  | none =>
    cases hv
    cases hw
    walk_at "sm"
    walk_at "ty"
    exact q H (Same.refl _)
  | bool b =>
    cases id hv
    cases id hw
    walk_at "sm"
    walk_at "ty"
    refine isi hw (by decide) ?_
    walk_at "ty"
    refine isi hv (by decide) ?_
    walk_at "ty"
    exact q H (Same.refl _)
  | int i =>
    cases id hv
    cases id hw
    walk_at "sm"
    walk_at "ty"
    refine isi hw (by decide) ?_
    walk_at "ty"
    refine isi hw (by decide) ?_
    walk_at "ty"
    refine ⟨_, _, rfl, hv, ?_⟩
    walk_at "ty"
    exact q H (Same.refl _)
  | str x =>
    cases id hv
    cases id hw
    walk_at "sm"
    walk_at "ty"
    refine isi hw (by decide) ?_
    walk_at "ty"
    refine isi hw (by decide) ?_
    walk_at "ty"
    refine isi hw (by decide) ?_
    walk_at "ty"
    refine isi hv (by decide) ?_
    walk_at "ty"
    exact q H (Same.refl _)
  | dict _ => cases hv
  | list ds =>
    obtain ⟨f, xs, rfl, hx, ax⟩ : ∃ f xs, v = .ref f ∧ SqL K H f xs ∧ DpAll K H xs ds := by
      cases hv with
      | lst hs ha => exact ⟨_, _, rfl, hs, ha⟩
    obtain ⟨g, ys, rfl, hy, ay⟩ : ∃ f xs, w = .ref f ∧ SqL K H f xs ∧ DpAll K H xs ds := by
      cases hw with
      | lst hs ha => exact ⟨_, _, rfl, hs, ha⟩
    obtain ⟨hl, k, ek, hk⟩ := okD_len ok
    cases hR k ek
    walk_at "sm"
    walk_at "ty"
    refine isi hw (by decide) ?_
    walk_at "ty"
    refine isi hw (by decide) ?_
    walk_at "ty"
    refine isi hw (by decide) ?_
    walk_at "ty"
    refine isi hw (by decide) ?_
    refine isi hv (by decide) ?_
    walk_at "ty"
    refine isi hw (by decide) ?_
    refine isi hv (by decide) ?_
    walk_at "ty"
    have lx := DpAll.len ax
    have ly := DpAll.len ay
    refine ⟨_, .inl hx, _, .inl hy, iteNP (fun z => absurd (show (xs.length : Int) = ys.length by omega) z) (fun _ => ?_)⟩
    refine lcR (n := (ys.length : Int)) 2 (fun _ v _ => v = .bl true) (fun R r => ⟨_, rfl, _, _, rfl, .inl hy, r⟩) (by omega) (by omega) (fun _ _ _ _ _ h => h) (fun _ => rfl) (fun j D H1 Q1 hj hD hD1 e q' => ?_) (fun D H' zs hD e hz hm => ?_)
    · have hjd : j < ds.length := by omega
      obtain ⟨xj, x1, x2⟩ := DpAll.get ax (List.getElem?_eq_getElem hjd)
      obtain ⟨yj, y1, y2⟩ := DpAll.get ay (List.getElem?_eq_getElem hjd)
      have e1 : Ex H H1 := Same.trans e wo_ex
      refine ⟨_, rfl, _, rfl, .inl ⟨f, xs, (j : Nat), xj, rfl, rfl, e1.sqL hx, atI_nat x1, _, rfl, _, rfl, .inl ⟨g, ys, (j : Nat), yj, rfl, rfl, e1.sqL hy, atI_nat y1, ?_⟩⟩⟩
      exact ⟨xj, yj, _, rfl, e1.dp _ _ x2, e1.dp _ _ y2, hk _ (List.getElem_mem hjd), fun H' e' => q' _ _ e' rfl⟩
    · refine ⟨D, (List.range (ys.length : Int).toNat).map fun _ => true, rfl, SqL.of ?_, ?_⟩
      · rw [hz, Made.bls hm]
      · rw [all_true]
        exact q H' (e.trans wo_ex)
  | tuple ds =>
    obtain ⟨f, xs, rfl, hx, ax⟩ : ∃ f xs, v = .ref f ∧ SqT K H f xs ∧ DpAll K H xs ds := by
      cases hv with
      | tup hs ha => exact ⟨_, _, rfl, hs, ha⟩
    obtain ⟨g, ys, rfl, hy, ay⟩ : ∃ f xs, w = .ref f ∧ SqT K H f xs ∧ DpAll K H xs ds := by
      cases hw with
      | tup hs ha => exact ⟨_, _, rfl, hs, ha⟩
    obtain ⟨hl, k, ek, hk⟩ := okD_lenT ok
    cases hR k ek
    walk_at "sm"
    walk_at "ty"
    refine isi hw (by decide) ?_
    walk_at "ty"
    refine isi hw (by decide) ?_
    walk_at "ty"
    refine isi hw (by decide) ?_
    walk_at "ty"
    refine isi hw (by decide) ?_
    refine isi hv (by decide) ?_
    walk_at "ty"
    refine isi hw (by decide) ?_
    refine isi hv (by decide) ?_
    walk_at "ty"
    have lx := DpAll.len ax
    have ly := DpAll.len ay
    refine ⟨_, .inr hx, _, .inr hy, iteNP (fun z => absurd (show (xs.length : Int) = ys.length by omega) z) (fun _ => ?_)⟩
    refine lcR (n := (ys.length : Int)) 2 (fun _ v _ => v = .bl true) (fun R r => ⟨_, rfl, _, _, rfl, .inr hy, r⟩) (by omega) (by omega) (fun _ _ _ _ _ h => h) (fun _ => rfl) (fun j D H1 Q1 hj hD hD1 e q' => ?_) (fun D H' zs hD e hz hm => ?_)
    · have hjd : j < ds.length := by omega
      obtain ⟨xj, x1, x2⟩ := DpAll.get ax (List.getElem?_eq_getElem hjd)
      obtain ⟨yj, y1, y2⟩ := DpAll.get ay (List.getElem?_eq_getElem hjd)
      have e1 : Ex H H1 := Same.trans e wo_ex
      refine ⟨_, rfl, _, rfl, .inr <| .inl ⟨f, xs, (j : Nat), xj, rfl, rfl, e1.sqT hx, atI_nat x1, _, rfl, _, rfl, .inr <| .inl ⟨g, ys, (j : Nat), yj, rfl, rfl, e1.sqT hy, atI_nat y1, ?_⟩⟩⟩
      exact ⟨xj, yj, _, rfl, e1.dp _ _ x2, e1.dp _ _ y2, hk _ (List.getElem_mem hjd), fun H' e' => q' _ _ e' rfl⟩
    · refine ⟨D, (List.range (ys.length : Int).toNat).map fun _ => true, rfl, SqL.of ?_, ?_⟩
      · rw [hz, Made.bls hm]
      · rw [all_true]
        exact q H' (e.trans wo_ex)
end
end My

namespace My
open PySem PySem.Spec PyProof.Rows L2
section
variable {P : Program} {w : World} {K : PySem.W.Frag} {mg : Str → Option Value} {base : Heap} {a : Ad}
local macro_rules | `(tactic| walk_at "sm") => `(tactic| try simp only [tSeq, tAsg, tVar, tC, tOp, tUn, tRet, tRetN, tDrop, tIfS, tNext, tAnd, tOr, tNot, tB, tTest, tChain, tAndV, tOrV, tNotV, tIf, tCB, tCons, tNil, tCall, tCallS, tPar, rInRg, rNotInRg, rRg1, rRg2, tRaiseAt, tMkAt, tByAt, tCallN, tListR3, tLstRg, tRg1, tRaiseFr, tMkFr, tByFr, rMax2, rMin2, rInt1, tLst, tTup, tSl, tNoPart, tPart,
  tAug, ipI, gName, gSub, gTup, gCons, gNil, rI0, rI, rU, rEq, rNe, rIsN, rNotN, rAddI, rSubI, rMulI, rModI, rDivW, rPowI, rShlI, rShrI, rAndI, rOrI, rXorI, rLtI, rLeI, rGtI, rGeI, rNegI, rIxL, rIxT, rLenQ, rListOf, rTupleOf, rSetL, tRevL, tRaiseC, rSlL,
  List.getElem?_cons_zero, List.getElem?_cons_succ, List.set_cons_zero, List.set_cons_succ, Option.some.injEq, V.int.injEq, V.bl.injEq, V.ref.injEq, V.str.injEq, exists_eq_left', exists_eq_left, exists_and_left, List.cons.injEq, and_true, true_and, List.append_nil, scal, Int.reduceToNat, if_true, if_false, Bool.false_eq_true])
local macro_rules | `(tactic| walk_at "bg") => `(tactic| repeat (first
  | refine ⟨_, SqL.of (by assumption), _, rfl, ?_⟩
  | refine ⟨_, SqL.of upd_same, _, rfl, ?_⟩
  | refine ⟨_, rfl, ?_⟩
  | refine ⟨_, (by assumption), _, rfl, ?_⟩
  | refine ⟨_, upd_same, _, rfl, ?_⟩
  | refine ⟨Or.inr ⟨by omega, by omega⟩, ?_⟩
  | refine ⟨Or.inl ⟨by omega, by omega⟩, ?_⟩
  | refine ⟨(show (0 : Int) < _ by omega), ?_⟩
  | refine ⟨_, .inl (SqL.of upd_same), ?_⟩
  | refine ⟨_, .inl (by assumption), ?_⟩))
local macro_rules | `(tactic| walk_at "ty") => `(tactic| try simp only [tyS, tyL, tyT, if_true, if_false, Bool.false_eq_true, reduceCtorEq, decide_false, decide_true, exists_eq_left', exists_eq_left, V.bl.injEq, and_true, true_and, Bool.not_true, Bool.not_false, decide_eq_true_eq, Bool.true_and, Bool.and_true])
theorem rd__law_one : RD (sp__law_one K a) (t__law_one K a) N__law_one := by
  rintro vs H Q E ⟨p, c, cs, t, xs, rfl, bag, hS, h0, h1, q⟩
  show t__law_one K a _ [some (.ref p), some (.ref t)] H
  unfold t__law_one
  walk_at "sm"
  refine ⟨xs, .inl (wo_ex.sqL hS), ?_⟩
  refine ⟨p, c, cs, _, rfl, bag, by omega, Int.lt_of_le_of_lt (show (xs.length : Int) ≤ 1000 by omega) (by decide), fun r H1 r0 r1 bag1 o1 => ?_⟩
  have hS1 : SqL K H1 t xs := wo_ex.sqL (Ex.sqL (off_wo o1) hS)
  refine ⟨_, _, rfl, hS1, xs[r.toNat]'(by omega), at_of (j := r.toNat) (by omega) (List.getElem?_eq_getElem _), q _ H1 (List.getElem_mem _) bag1 o1⟩
end
end My

namespace My
open PySem PySem.Spec PyProof.Rows L2
section
variable {P : Program} {w : World} {K : PySem.W.Frag} {mg : Str → Option Value} {base : Heap} {a : Ad}
local macro_rules | `(tactic| walk_at "sm") => `(tactic| try simp only [tSeq, tAsg, tVar, tC, tOp, tUn, tRet, tRetN, tDrop, tIfS, tNext, tAnd, tOr, tNot, tB, tTest, tChain, tAndV, tOrV, tNotV, tIf, tCB, tCons, tNil, tCall, tCallS, tPar, rInRg, rNotInRg, rRg1, rRg2, tRaiseAt, tMkAt, tByAt, tCallN, tListR3, tLstRg, tRg1, tRaiseFr, tMkFr, tByFr, rMax2, rMin2, rInt1, tLst, tTup, tSl, tNoPart, tPart,
  tAug, ipI, gName, gSub, gTup, gCons, gNil, rI0, rI, rU, rEq, rNe, rIsN, rNotN, rAddI, rSubI, rMulI, rModI, rDivW, rPowI, rShlI, rShrI, rAndI, rOrI, rXorI, rLtI, rLeI, rGtI, rGeI, rNegI, rIxL, rIxT, rLenQ, rListOf, rTupleOf, rSetL, tRevL, tRaiseC, rSlL,
  List.getElem?_cons_zero, List.getElem?_cons_succ, List.set_cons_zero, List.set_cons_succ, Option.some.injEq, V.int.injEq, V.bl.injEq, V.ref.injEq, V.str.injEq, exists_eq_left', exists_eq_left, exists_and_left, List.cons.injEq, and_true, true_and, List.append_nil, scal, Int.reduceToNat, if_true, if_false, Bool.false_eq_true])
local macro_rules | `(tactic| walk_at "bg") => `(tactic| repeat (first
  | refine ⟨_, SqL.of (by assumption), _, rfl, ?_⟩
  | refine ⟨_, SqL.of upd_same, _, rfl, ?_⟩
  | refine ⟨_, rfl, ?_⟩
  | refine ⟨_, (by assumption), _, rfl, ?_⟩
  | refine ⟨_, upd_same, _, rfl, ?_⟩
  | refine ⟨Or.inr ⟨by omega, by omega⟩, ?_⟩
  | refine ⟨Or.inl ⟨by omega, by omega⟩, ?_⟩
  | refine ⟨(show (0 : Int) < _ by omega), ?_⟩
  | refine ⟨_, .inl (SqL.of upd_same), ?_⟩
  | refine ⟨_, .inl (by assumption), ?_⟩))
local macro_rules | `(tactic| walk_at "ty") => `(tactic| try simp only [tyS, tyL, tyT, if_true, if_false, Bool.false_eq_true, reduceCtorEq, decide_false, decide_true, exists_eq_left', exists_eq_left, V.bl.injEq, and_true, true_and, Bool.not_true, Bool.not_false, decide_eq_true_eq, Bool.true_and, Bool.and_true])
theorem addL_len (ns : List Int) (c : Int) (e ph m : Nat) : (addL ns c e ph m).length = 32 := by simp [addL]
theorem addL_get {ns : List Int} {c : Int} {e ph m i : Nat} (hi : i < 32) : (addL ns c e ph m)[i]? = some (ns.getD i 0 + if i % e = ph ∧ i < m then c else 0) := by
  unfold addL
  rw [List.getElem?_map, List.getElem?_range hi]
  rfl
theorem addL_all {ns : List Int} {c : Int} {e ph m : Nat} (hm : 32 ≤ m) : addL ns c e ph m = addL ns c e ph 32 := by
  unfold addL
  refine List.map_congr_left fun i hi => ?_
  have := List.mem_range.mp hi
  by_cases h : i % e = ph
  · rw [if_pos ⟨h, by omega⟩, if_pos ⟨h, this⟩]
  · rw [if_neg fun z => h z.1, if_neg fun z => h z.1]
theorem addL_none {ns : List Int} {c : Int} {e ph : Nat} (hl : ns.length = 32) (he : Pow2 e) (hp : ph < e) : addL ns c e ph ph = ns := by
  refine List.ext_getElem? fun i => ?_
  by_cases hi : i < 32
  · rw [addL_get hi, if_neg, List.getD_eq_getElem?_getD, List.getElem?_eq_getElem (by omega)]
    · simp
    · rintro ⟨h1, h2⟩
      rw [Nat.mod_eq_of_lt (by omega)] at h1
      omega
  · rw [List.getElem?_eq_none (by rw [addL_len]; omega), List.getElem?_eq_none (by omega)]
theorem step_at {e ph i j : Nat} (hp : ph < e) : (i % e = ph ∧ i < ph + (j + 1) * e) ↔ ((i % e = ph ∧ i < ph + j * e) ∨ i = ph + j * e) := by
  have e1 : (j + 1) * e = j * e + e := by rw [Nat.add_mul, Nat.one_mul]
  have e2 : (ph + j * e) % e = ph := by rw [Nat.add_mul_mod_self_right, Nat.mod_eq_of_lt hp]
  constructor
  · rintro ⟨h1, h2⟩
    by_cases h : i < ph + j * e
    · exact .inl ⟨h1, h⟩
    · right
      have h3 : (i - (ph + j * e)) < e := by omega
      have h4 : i = (ph + j * e) + (i - (ph + j * e)) := by omega
      generalize i - (ph + j * e) = d at h3 h4
      subst h4
      rw [Nat.add_right_comm, Nat.add_mul_mod_self_right] at h1
      by_cases h5 : ph + d < e
      · rw [Nat.mod_eq_of_lt h5] at h1
        omega
      · rw [Nat.mod_eq_sub_mod (by omega), Nat.mod_eq_of_lt (by omega)] at h1
        omega
  · rintro (⟨h1, h2⟩ | rfl)
    · exact ⟨h1, by omega⟩
    · exact ⟨e2, by omega⟩
theorem addL_step {ns : List Int} {c : Int} {e ph j : Nat} (hp : ph < e) (h : ph + j * e < 32) : (addL ns c e ph (ph + j * e)).set (ph + j * e) (ns.getD (ph + j * e) 0 + c) = addL ns c e ph (ph + (j + 1) * e) := by
  refine List.ext_getElem? fun i => ?_
  rw [List.getElem?_set]
  by_cases hi : i < 32
  · rw [addL_get hi, addL_get hi]
    by_cases h1 : ph + j * e = i
    · subst h1
      rw [if_pos rfl, if_pos (by rw [addL_len]; exact h), if_pos ((step_at hp).mpr (.inr rfl))]
    · rw [if_neg h1]
      congr 2
      have := step_at (i := i) (j := j) hp
      by_cases h2 : i % e = ph ∧ i < ph + j * e
      · rw [if_pos h2, if_pos (this.mpr (.inl h2))]
      · rw [if_neg h2, if_neg fun z => by
          rcases this.mp z with q | q
          · exact h2 q
          · exact h1 q.symm]
  · rw [if_neg (by omega), List.getElem?_eq_none (by rw [addL_len]; omega), List.getElem?_eq_none (by rw [addL_len]; omega)]
theorem addL_back {ns : List Int} {c : Int} {e ph m : Nat} (hl : ns.length = 32) : addL (addL ns c e ph m) (-c) e ph m = ns := by
  refine List.ext_getElem? fun i => ?_
  by_cases hi : i < 32
  · rw [addL_get hi, List.getD_eq_getElem?_getD, addL_get hi, List.getElem?_eq_getElem (show i < ns.length by omega)]
    rw [List.getD_eq_getElem?_getD, List.getElem?_eq_getElem (show i < ns.length by omega)]
    split <;> simp <;> omega
  · rw [List.getElem?_eq_none (by rw [addL_len]; omega), List.getElem?_eq_none (by omega)]
theorem pow2_in {x : Int} (h : x ∈ [(1 : Int), 2, 4, 8, 16, 32]) : ∃ e : Nat, x = e ∧ Pow2 e := by
  simp only [List.mem_cons, List.not_mem_nil, or_false] at h
  rcases h with rfl | rfl | rfl | rfl | rfl | rfl
  · exact ⟨1, rfl, 0, by decide, rfl⟩
  · exact ⟨2, rfl, 1, by decide, rfl⟩
  · exact ⟨4, rfl, 2, by decide, rfl⟩
  · exact ⟨8, rfl, 3, by decide, rfl⟩
  · exact ⟨16, rfl, 4, by decide, rfl⟩
  · exact ⟨32, rfl, 5, by decide, rfl⟩
theorem Pow2.pos {e : Nat} (h : Pow2 e) : 0 < e := by
  obtain ⟨k, _, rfl⟩ := h
  exact Nat.two_pow_pos k
theorem Pow2.le {e : Nat} (h : Pow2 e) : e ≤ 32 := by
  obtain ⟨k, hk, rfl⟩ := h
  exact Nat.le_trans (Nat.pow_le_pow_right (by decide) (show k ≤ 5 by omega)) (by decide)
theorem Pow2.rg {e ph : Nat} (h : Pow2 e) (hp : ph < e) : RgC (ph : Int) 32 (e : Int) (32 / e) := by
  obtain ⟨k, hk, rfl⟩ := h
  exact rgc_phase k hk ph hp
theorem Pow2.at {e ph j : Nat} (h : Pow2 e) (hp : ph < e) (hj : j < 32 / e) : ph + j * e < 32 := by
  have h1 : j * e + e ≤ 32 / e * e := by
    rw [← Nat.succ_mul]
    exact Nat.mul_le_mul_right e hj
  have h2 := Nat.div_mul_le_self 32 e
  omega
theorem Pow2.end_ {e ph : Nat} (h : Pow2 e) : 32 ≤ ph + 32 / e * e := by
  obtain ⟨k, hk, rfl⟩ := h
  have : 32 / 2 ^ k * 2 ^ k = 32 := Nat.div_mul_cancel (Nat.pow_dvd_pow 2 (show k ≤ 5 by omega))
  omega
theorem rd_cost : RDX (sp_cost K a) (t_cost K a) N_cost := by
  rintro vs H Q E ⟨n, rfl, h1, h2⟩
  show t_cost K a E _ [some (.int n)] H
  unfold t_cost
  walk_at "sm"
  exact ⟨_, _, _, rfl, fun h => h1 h, fun h => h2 h⟩
theorem rd_with_end : RDX (sp_with_end K a) (t_with_end K a) N_with_end := by
  rintro vs H Q E ⟨p, ns, s, e, ph, sg, rfl, hS, hl, s0, s1, he, hp, hsg, q⟩
  show t_with_end K a E _ [some (.ref p), some (.int s), some (.int (e : Int)), some (.int (ph : Int)), some (.int sg), none, none] H
  unfold t_with_end
  walk_at "sm"
  refine ⟨_, .inr hS, fun l hl0 => ?_⟩
  refine forR3 (lo := ph) (hi := 32) (c := e) (n := 32 / e) 6 (fun j σ H' => (∃ x, σ = [some (.ref p), some (.int s), some (.int (e : Int)), some (.int (ph : Int)), some (.int sg), some (.ref l), x]) ∧ Ex H (wo [l] H') ∧ H' l = some (.lst ((addL ns (sg * (s + 13)) e ph (ph + j * e)).map V.int))) (fun R r => by walk_at "sm"; exact r) (he.rg hp) ⟨⟨_, rfl⟩, ?_, ?_⟩ ?hs ?hd
  · exact (Ex.new hl0).woN fun b hb => by rw [List.mem_singleton.mp hb]; exact hl0
  · rw [Nat.zero_mul, Nat.add_zero, addL_none hl he hp]
    exact upd_same
  case hs =>
    rintro j σ H1 hj ⟨⟨x, rfl⟩, e1, h1⟩
    have hat := he.at hp hj
    walk_at "sm"
    have hx : ((ph : Int) + (j : Int) * (e : Int)) = ((ph + j * e : Nat) : Int) := by simp
    rw [hx]
    have hg : (addL ns (sg * (s + 13)) e ph (ph + j * e))[ph + j * e]? = some (ns.getD (ph + j * e) 0) := by
      rw [addL_get hat, if_neg (by omega)]
      simp
    refine ⟨_, SqL.of h1, _, at_of (j := ph + j * e) (by simp) (by rw [List.getElem?_map, hg]; rfl), ?_⟩
    walk_at "sm"
    refine ⟨s, rfl, fun _ => ⟨_, rfl, cmulL ⟨by omega, by omega⟩, _, h1, ph + j * e, ?_, ⟨_, rfl⟩, ?_, ?_⟩, fun z => absurd ⟨s0, s1⟩ z⟩
    · rw [List.length_map, addL_len]
      unfold ixN
      simp only [Int.natCast_nonneg, Int.not_lt, if_true, if_false]
      rw [if_pos (by omega)]
      rfl
    · rw [wo_upd (List.mem_singleton.mpr rfl)]
      exact e1
    · rw [upd_same, ← addL_step hp hat, List.map_set]
  case hd =>
    rintro σ H1 ⟨⟨x, rfl⟩, e1, h1⟩
    walk_at "sm"
    rw [addL_all he.end_] at h1
    refine ⟨_, .inl ⟨SqL.of h1, fun t ht => ?_⟩⟩
    have hn : H t = none := (Same.trans e1 wo_ex).free ht
    exact q t _ hn (Same.trans e1 (Same.trans wo_ex (Ex.new ht))) (SqT.of upd_same)
end
end My

namespace My
open PySem PySem.Spec PyProof.Rows L2
section
variable {P : Program} {w : World} {K : PySem.W.Frag} {mg : Str → Option Value} {base : Heap} {a : Ad}
local macro_rules | `(tactic| walk_at "sm") => `(tactic| try simp only [tSeq, tAsg, tVar, tC, tOp, tUn, tRet, tRetN, tDrop, tIfS, tNext, tAnd, tOr, tNot, tB, tTest, tChain, tAndV, tOrV, tNotV, tIf, tCB, tCons, tNil, tCall, tCallS, tPar, rInRg, rNotInRg, rRg1, rRg2, tRaiseAt, tMkAt, tByAt, tCallN, tListR3, tLstRg, tRg1, tRaiseFr, tMkFr, tByFr, rMax2, rMin2, rInt1, tLst, tTup, tSl, tNoPart, tPart,
  tAug, ipI, gName, gSub, gTup, gCons, gNil, rI0, rI, rU, rEq, rNe, rIsN, rNotN, rAddI, rSubI, rMulI, rModI, rDivW, rPowI, rShlI, rShrI, rAndI, rOrI, rXorI, rLtI, rLeI, rGtI, rGeI, rNegI, rIxL, rIxT, rLenQ, rListOf, rTupleOf, rSetL, tRevL, tRaiseC, rSlL,
  List.getElem?_cons_zero, List.getElem?_cons_succ, List.set_cons_zero, List.set_cons_succ, Option.some.injEq, V.int.injEq, V.bl.injEq, V.ref.injEq, V.str.injEq, exists_eq_left', exists_eq_left, exists_and_left, List.cons.injEq, and_true, true_and, List.append_nil, scal, Int.reduceToNat, if_true, if_false, Bool.false_eq_true])
local macro_rules | `(tactic| walk_at "bg") => `(tactic| repeat (first
  | refine ⟨_, SqL.of (by assumption), _, rfl, ?_⟩
  | refine ⟨_, SqL.of upd_same, _, rfl, ?_⟩
  | refine ⟨_, rfl, ?_⟩
  | refine ⟨_, (by assumption), _, rfl, ?_⟩
  | refine ⟨_, upd_same, _, rfl, ?_⟩
  | refine ⟨Or.inr ⟨by omega, by omega⟩, ?_⟩
  | refine ⟨Or.inl ⟨by omega, by omega⟩, ?_⟩
  | refine ⟨(show (0 : Int) < _ by omega), ?_⟩
  | refine ⟨_, .inl (SqL.of upd_same), ?_⟩
  | refine ⟨_, .inl (by assumption), ?_⟩))
local macro_rules | `(tactic| walk_at "ty") => `(tactic| try simp only [tyS, tyL, tyT, if_true, if_false, Bool.false_eq_true, reduceCtorEq, decide_false, decide_true, exists_eq_left', exists_eq_left, V.bl.injEq, and_true, true_and, Bool.not_true, Bool.not_false, decide_eq_true_eq, Bool.true_and, Bool.and_true])
theorem max_is {l : List Int} {m : Int} (h : m ∈ l) (g : ∀ y ∈ l, y ≤ m) : l.max?.getD 0 = m := by
  rw [List.max?_eq_some_iff.mpr ⟨h, g⟩]
  rfl
theorem min_is {l : List Int} {m : Int} (h : m ∈ l) (g : ∀ y ∈ l, m ≤ y) : l.min?.getD 0 = m := by
  rw [List.min?_eq_some_iff.mpr ⟨h, g⟩]
  rfl
theorem max_has {l : List Int} (h : l ≠ []) : l.max?.getD 0 ∈ l ∧ ∀ y ∈ l, y ≤ l.max?.getD 0 := by
  cases e : l.max? with
  | none => exact absurd (List.max?_eq_none_iff.mp e) h
  | some m => exact List.max?_eq_some_iff.mp e
theorem min_has {l : List Int} (h : l ≠ []) : l.min?.getD 0 ∈ l ∧ ∀ y ∈ l, l.min?.getD 0 ≤ y := by
  cases e : l.min? with
  | none => exact absurd (List.min?_eq_none_iff.mp e) h
  | some m => exact List.min?_eq_some_iff.mp e
theorem headD_mem {l : List Nat} (h : l ≠ []) : l.headD 0 ∈ l := by
  cases l with
  | nil => exact absurd rfl h
  | cons x r => exact List.mem_cons_self
theorem mem_frs {e ph g : Nat} : g ∈ frs e ph ↔ g < 32 ∧ g % e = ph := by
  unfold frs
  rw [List.mem_filter, List.mem_range, decide_eq_true_eq]
theorem frs_ne {e ph : Nat} (he : Pow2 e) (hp : ph < e) : frs e ph ≠ [] := by
  intro z
  have : ph ∈ frs e ph := mem_frs.mpr ⟨by have := he.le; omega, Nat.mod_eq_of_lt hp⟩
  rw [z] at this
  exact List.not_mem_nil this
theorem mxs_has {ns : List Int} {e ph : Nat} (he : Pow2 e) (hp : ph < e) : (∃ g ∈ frs e ph, vl ns g = mxs ns e ph) ∧ ∀ g ∈ frs e ph, vl ns g ≤ mxs ns e ph := by
  obtain ⟨h1, h2⟩ := max_has (l := (frs e ph).map (vl ns)) (fun z => frs_ne he hp (List.map_eq_nil_iff.mp z))
  obtain ⟨g, g1, g2⟩ := List.mem_map.mp h1
  exact ⟨⟨g, g1, g2⟩, fun x hx => h2 _ (List.mem_map_of_mem hx)⟩
theorem full_has {ns : List Int} {e ph : Nat} (he : Pow2 e) (hp : ph < e) : full ns e ph < 32 ∧ full ns e ph % e = ph ∧ vl ns (full ns e ph) = mxs ns e ph := by
  obtain ⟨⟨g, g1, g2⟩, _⟩ := mxs_has (ns := ns) he hp
  have h : full ns e ph ∈ (frs e ph).filter fun g => decide (vl ns g = mxs ns e ph) := headD_mem fun z => by
    have : g ∈ (frs e ph).filter fun g => decide (vl ns g = mxs ns e ph) := List.mem_filter.mpr ⟨g1, decide_eq_true g2⟩
    rw [z] at this
    exact List.not_mem_nil this
  obtain ⟨h1, h2⟩ := List.mem_filter.mp h
  obtain ⟨h3, h4⟩ := mem_frs.mp h1
  exact ⟨h3, h4, of_decide_eq_true h2⟩
theorem least_has {ns : List Int} {e : Nat} (he : Pow2 e) : (∃ p < e, mxs ns e p = leastM ns e) ∧ ∀ p < e, leastM ns e ≤ mxs ns e p := by
  obtain ⟨h1, h2⟩ := min_has (l := (List.range e).map (mxs ns e)) (fun z => by
    have := he.pos
    have := congrArg List.length z
    simp at this
    omega)
  obtain ⟨g, g1, g2⟩ := List.mem_map.mp h1
  exact ⟨⟨g, List.mem_range.mp g1, g2⟩, fun x hx => h2 _ (List.mem_map_of_mem (List.mem_range.mpr hx))⟩
theorem phs_has {ns : List Int} {e : Nat} (he : Pow2 e) : phs ns e < e ∧ mxs ns e (phs ns e) = leastM ns e := by
  obtain ⟨⟨p, p1, p2⟩, _⟩ := least_has (ns := ns) he
  have h : phs ns e ∈ (List.range e).filter fun p => decide (mxs ns e p = leastM ns e) := headD_mem fun z => by
    have : p ∈ (List.range e).filter fun p => decide (mxs ns e p = leastM ns e) := List.mem_filter.mpr ⟨List.mem_range.mpr p1, decide_eq_true p2⟩
    rw [z] at this
    exact List.not_mem_nil this
  obtain ⟨h1, h2⟩ := List.mem_filter.mp h
  exact ⟨List.mem_range.mp h1, of_decide_eq_true h2⟩
theorem frs_step : ∀ k < 6, ∀ p < 2 ^ k, (List.range (32 / 2 ^ k)).map (fun j => p + j * 2 ^ k) = (List.range 32).filter fun i => decide (i % 2 ^ k = p) := by decide +kernel
theorem frs_rg {e ph : Nat} (he : Pow2 e) (hp : ph < e) : ((List.range (32 / e)).map fun k => V.int ((ph : Int) + ((k : Nat) : Int) * (e : Int))) = (frs e ph).map fun g => V.int (g : Nat) := by
  obtain ⟨k, hk, rfl⟩ := he
  unfold frs
  rw [← frs_step k hk ph hp, List.map_map]
  refine List.map_congr_left fun j _ => ?_
  simp
theorem frs_len {e ph : Nat} : (frs e ph).length ≤ 32 := by
  unfold frs
  exact Nat.le_trans (List.length_filter_le _ _) (by simp)
theorem madeMap {α : Type} {l : List α} {f : α → V} {ys : List V} {H : Hp} {n : Nat} (hn : n = l.length) (h : Made n (fun j v _ => ∃ g, l[j]? = some g ∧ v = f g) ys H) : ys = l.map f := by
  subst hn
  refine List.ext_getElem? fun j => ?_
  rw [List.getElem?_map]
  by_cases hj : j < l.length
  · obtain ⟨v, e1, g, e2, e3⟩ := h.2 j hj
    rw [e1, e2, e3]
    rfl
  · rw [List.getElem?_eq_none (by rw [h.1]; omega), List.getElem?_eq_none (by omega)]
    rfl
theorem vl_at {ns : List Int} {g : Nat} (hl : ns.length = 32) (hg : g < 32) : (ns.map V.int)[g]? = some (.int (vl ns g)) := by
  rw [List.getElem?_map, List.getElem?_eq_getElem (by omega)]
  unfold vl
  rw [List.getD_eq_getElem?_getD, List.getElem?_eq_getElem (by omega)]
  rfl
theorem filt_int {l : List Nat} {q : Nat → Bool} {f : V → Bool} (h : ∀ g ∈ l, f (.int (g : Nat)) = q g) : (l.map fun g => V.int (g : Nat)).filter f = (l.filter q).map fun g => V.int (g : Nat) := by
  rw [List.filter_map]
  congr 1
  exact List.filter_congr fun g hg => h g hg
theorem head_at {l : List Nat} (h : l ≠ []) : (l.map fun g => V.int (g : Nat))[0]? = some (.int (l.headD 0 : Nat)) := by
  cases l with
  | nil => exact absurd rfl h
  | cons x r => rfl
theorem full_ne {ns : List Int} {e ph : Nat} (he : Pow2 e) (hp : ph < e) : ((frs e ph).filter fun g => decide (vl ns g = mxs ns e ph)) ≠ [] := fun z => by
  obtain ⟨⟨g, g1, g2⟩, _⟩ := mxs_has (ns := ns) he hp
  have : g ∈ (frs e ph).filter fun g => decide (vl ns g = mxs ns e ph) := List.mem_filter.mpr ⟨g1, decide_eq_true g2⟩
  rw [z] at this
  exact List.not_mem_nil this
theorem phs_ne {ns : List Int} {e : Nat} (he : Pow2 e) : ((List.range e).filter fun p => decide (mxs ns e p = leastM ns e)) ≠ [] := fun z => by
  obtain ⟨⟨p, p1, p2⟩, _⟩ := least_has (ns := ns) he
  have : p ∈ (List.range e).filter fun p => decide (mxs ns e p = leastM ns e) := List.mem_filter.mpr ⟨List.mem_range.mpr p1, decide_eq_true p2⟩
  rw [z] at this
  exact List.not_mem_nil this
theorem rd_fullest_frame : RD (sp_fullest_frame K a) (t_fullest_frame K a) N_fullest_frame := by
  rintro vs H Q E ⟨p, ns, e, ph, rfl, hS, hl, he, hp, q⟩
  show t_fullest_frame K a _ [some (.ref p), some (.int (e : Int)), some (.int (ph : Int)), none, none, none] H
  unfold t_fullest_frame
  walk_at "sm"
  refine ⟨_, _, _, ⟨rfl, rfl, rfl⟩, 32 / e, he.rg hp, Nat.le_trans (Nat.div_le_self _ _) (by decide), fun l hl0 => ?_⟩
  rw [frs_rg he hp]
  have e1 : Ex H (upd H l (.lst ((frs e ph).map fun g => V.int (g : Nat)))) := Ex.new hl0
  have h1 : upd H l (.lst ((frs e ph).map fun g => V.int (g : Nat))) l = some (.lst ((frs e ph).map fun g => V.int (g : Nat))) := upd_same
  generalize upd H l (.lst ((frs e ph).map fun g => V.int (g : Nat))) = H1 at e1 h1
  have hS1 := Ex.sqT e1 hS
  refine lcL 5 (fun j v _ => ∃ g, (frs e ph)[j]? = some g ∧ v = .int (vl ns g)) (fun R r => ⟨_, rfl, r⟩) (SqL.of h1) (by rw [List.length_map]; have := frs_len (e := e) (ph := ph); omega) (fun _ _ _ _ _ h => h) (fun _ => rfl) (fun j x D H2 Q1 hj hD nD e2 q1 => ?_) (fun D H2 ys hD e2 h2 m2 => ?_)
  · rw [List.getElem?_map] at hj
    obtain ⟨g, hg, rfl⟩ := Option.map_eq_some_iff.mp hj
    have g1 := mem_frs.mp (List.mem_of_getElem? hg)
    simp only [wipe]
    walk_at "sm"
    refine ⟨_, Ex.sqT (Same.trans e2 wo_ex) hS1, _, at_of (j := g) (by simp) (vl_at hl g1.1), q1 _ _ (Same.refl _) ⟨g, hg, rfl⟩⟩
  · have ey := madeMap (by rw [List.length_map]) m2
    subst ey
    have e12 := Same.trans e2 wo_ex
    have h12 := e12 _ _ h1
    refine ⟨D, (frs e ph).map (vl ns), rfl, SqL.of (by rw [h2, List.map_map]; rfl), ?_, fun m hm1 hm2 => ?_⟩
    · rw [List.length_map]
      exact List.length_pos_iff.mpr (frs_ne he hp)
    · have em : mxs ns e ph = m := max_is hm1 hm2
      walk_at "sm"
      refine lcLF 5 (fun v => match v with | .int g => decide (vl ns g.toNat = m) | _ => false) (fun R r => ⟨_, rfl, r⟩) (SqL.of h12) (by rw [List.length_map]; have := frs_len (e := e) (ph := ph); omega) (fun _ => rfl) (fun x H3 R hx e3 r => ?_) (fun x H3 R r => ⟨_, rfl, r⟩) (fun D2 H3 hD2 e3 h3 => ?_)
      · obtain ⟨g, hg, rfl⟩ := List.mem_map.mp hx
        have g1 := mem_frs.mp hg
        simp only [wipe]
        walk_at "sm"
        refine ⟨_, Ex.sqT (Same.trans e12 e3) hS1, _, at_of (j := g) (by simp) (vl_at hl g1.1), ?_⟩
        have := r _ (Same.refl _)
        simp only [Int.toNat_natCast] at this
        simpa using this
      · rw [filt_int (q := fun g => decide (vl ns g = mxs ns e ph)) (fun g hg => by rw [em]; simp)] at h3
        refine ⟨D2, rfl, _, SqL.of h3, _, at_of (j := 0) rfl (head_at (full_ne he hp)), q _ (Same.trans e1 (Same.trans e12 e3))⟩
theorem rd_phase_for : RDX (sp_phase_for K a) (t_phase_for K a) N_phase_for := by
  rintro vs H Q E ⟨p, ns, s, e, rfl, hS, hl, s0, s1, he, q1, q2⟩
  show t_phase_for K a E _ [some (.ref p), some (.int s), some (.int (e : Int)), none, none, none, none] H
  unfold t_phase_for
  have ee := he.le
  have e0 := he.pos
  walk_at "sm"
  refine lcR (n := (e : Int)) 4 (fun j v _ => v = .int (full ns e j : Nat)) (fun R r => ⟨_, rfl, r⟩) (by omega) (by omega) (fun _ _ _ _ _ h => h) (fun _ => rfl) (fun j D H2 Q1 hj hD nD e2 k => ?_) (fun D H2 ys hD e2 h2 m2 => ?_)
  · simp only [wipe]
    walk_at "sm"
    exact ⟨p, ns, e, j, rfl, Ex.sqT (Same.trans e2 wo_ex) hS, hl, he, by omega, fun H3 e3 => k _ _ e3 rfl⟩
  · have ey : ys = (fulls ns e).map V.int := by
      rw [m2.ints]
      rfl
    subst ey
    have e12 := Same.trans e2 wo_ex
    walk_at "sm"
    have hS2 := Ex.sqT e12 hS
    have hcast : (fulls ns e).map V.int = (List.range e).map fun p => V.int ((full ns e p : Nat) : Int) := by
      unfold fulls
      rw [List.map_map]
      rfl
    refine lcL 6 (fun j v _ => ∃ g, (List.range e)[j]? = some g ∧ v = .int (mxs ns e g)) (fun R r => ⟨_, rfl, r⟩) (SqL.of h2) (by rw [hcast, List.length_map, List.length_range]; omega) (fun _ _ _ _ _ h => h) (fun _ => rfl) (fun j x D3 H3 Q1 hj hD3 nD e3 k => ?_) (fun D3 H3 ys hD3 e3 h3 m3 => ?_)
    · rw [hcast, List.getElem?_map] at hj
      obtain ⟨g, hg, rfl⟩ := Option.map_eq_some_iff.mp hj
      have g1 : g < e := List.mem_range.mp (List.mem_of_getElem? hg)
      have f1 := full_has (ns := ns) he g1
      simp only [wipe]
      walk_at "sm"
      refine ⟨_, Ex.sqT (Same.trans e3 wo_ex) hS2, _, at_of (j := full ns e g) rfl (vl_at hl f1.1), k _ _ (Same.refl _) ⟨g, hg, by rw [f1.2.2]⟩⟩
    · have ey := madeMap (by rw [hcast, List.length_map]) m3
      subst ey
      have e13 := Same.trans e3 wo_ex
      have h13 := e13 _ _ h2
      refine ⟨D3, (List.range e).map (mxs ns e), rfl, SqL.of (by rw [h3, List.map_map]; rfl), ?_, fun m hm1 hm2 => ?_⟩
      · rw [List.length_map, List.length_range]
        exact e0
      · have em : leastM ns e = m := min_is hm1 hm2
        subst em
        refine ⟨s, rfl, fun _ => ⟨_, rfl, _, rfl, iteP (fun c => ?_) (fun c => ?_)⟩, fun z => absurd ⟨s0, s1⟩ z⟩
        · exact ⟨_, h13, fun d nl hd hn hne => q2 c d nl H3 (Same.trans e12 e13) hd hn hne⟩
        · refine lcRF (n := e) 4 (fun g => decide (mxs ns e g = leastM ns e)) (fun R r => ⟨_, rfl, r⟩) (by omega) (fun _ => rfl) (fun j H4 R hj e4 r => ?_) (fun x H4 R r => ⟨_, rfl, r⟩) (fun D4 H4 hD4 e4 h4 => ?_)
          · have f1 := full_has (ns := ns) he hj
            simp only [wipe]
            walk_at "sm"
            refine ⟨_, SqL.of (e4 _ _ h13), _, at_of (j := j) rfl (by rw [hcast, List.getElem?_map, List.getElem?_range hj]; rfl), _, _, rfl, Ex.sqT (Same.trans e13 e4) hS2, _, at_of (j := full ns e j) rfl (vl_at hl f1.1), ?_⟩
            have := r _ (Same.refl _)
            rw [f1.2.2]
            simpa using this
          · refine ⟨D4, rfl, _, SqL.of h4, _, at_of (j := 0) rfl (head_at (phs_ne he)), q1 (by omega) _ (Same.trans e12 (Same.trans e13 e4))⟩
end
end My

namespace My
open PySem PySem.Spec PyProof.Rows L2
section
variable {P : Program} {w : World} {K : PySem.W.Frag} {mg : Str → Option Value} {base : Heap} {a : Ad}
local macro_rules | `(tactic| walk_at "sm") => `(tactic| try simp only [tSeq, tAsg, tVar, tC, tOp, tUn, tRet, tRetN, tDrop, tIfS, tNext, tAnd, tOr, tNot, tB, tTest, tChain, tAndV, tOrV, tNotV, tIf, tCB, tCons, tNil, tCall, tCallS, tPar, rInRg, rNotInRg, rRg1, rRg2, tRaiseAt, tMkAt, tByAt, tCallN, tListR3, tLstRg, tRg1, tRaiseFr, tMkFr, tByFr, rMax2, rMin2, rInt1, tLst, tTup, tSl, tNoPart, tPart,
  tAug, ipI, gName, gSub, gTup, gCons, gNil, rI0, rI, rU, rEq, rNe, rIsN, rNotN, rAddI, rSubI, rMulI, rModI, rDivW, rPowI, rShlI, rShrI, rAndI, rOrI, rXorI, rLtI, rLeI, rGtI, rGeI, rNegI, rIxL, rIxT, rLenQ, rListOf, rTupleOf, rSetL, tRevL, tRaiseC, rSlL,
  List.getElem?_cons_zero, List.getElem?_cons_succ, List.set_cons_zero, List.set_cons_succ, Option.some.injEq, V.int.injEq, V.bl.injEq, V.ref.injEq, V.str.injEq, exists_eq_left', exists_eq_left, exists_and_left, List.cons.injEq, and_true, true_and, List.append_nil, scal, Int.reduceToNat, if_true, if_false, Bool.false_eq_true])
local macro_rules | `(tactic| walk_at "bg") => `(tactic| repeat (first
  | refine ⟨_, SqL.of (by assumption), _, rfl, ?_⟩
  | refine ⟨_, SqL.of upd_same, _, rfl, ?_⟩
  | refine ⟨_, rfl, ?_⟩
  | refine ⟨_, (by assumption), _, rfl, ?_⟩
  | refine ⟨_, upd_same, _, rfl, ?_⟩
  | refine ⟨Or.inr ⟨by omega, by omega⟩, ?_⟩
  | refine ⟨Or.inl ⟨by omega, by omega⟩, ?_⟩
  | refine ⟨(show (0 : Int) < _ by omega), ?_⟩
  | refine ⟨_, .inl (SqL.of upd_same), ?_⟩
  | refine ⟨_, .inl (by assumption), ?_⟩))
local macro_rules | `(tactic| walk_at "ty") => `(tactic| try simp only [tyS, tyL, tyT, if_true, if_false, Bool.false_eq_true, reduceCtorEq, decide_false, decide_true, exists_eq_left', exists_eq_left, V.bl.injEq, and_true, true_and, Bool.not_true, Bool.not_false, decide_eq_true_eq, Bool.true_and, Bool.and_true])
theorem en_open {H : Hp} {v : V} {e : En} (h : Dp K H v e.d) : ∃ p, v = .ref p ∧ SqT K H p [.int e.n, .str e.way, .str e.kind, .int e.size, .int e.every] := by
  obtain ⟨p, xs, rfl, h1, h2⟩ := h.tupE
  obtain ⟨v1, r1, rfl, a1, h2⟩ := h2.consE
  obtain ⟨v2, r2, rfl, a2, h2⟩ := h2.consE
  obtain ⟨v3, r3, rfl, a3, h2⟩ := h2.consE
  obtain ⟨v4, r4, rfl, a4, h2⟩ := h2.consE
  obtain ⟨v5, r5, rfl, a5, h2⟩ := h2.consE
  cases h2.nilE
  cases a1.intE
  cases a2.strE
  cases a3.strE
  cases a4.intE
  cases a5.intE
  exact ⟨p, rfl, h1⟩
theorem pl_open {H : Hp} {v : V} {p : Pl} (h : Dp K H v p.d) : ∃ q w, v = .ref q ∧ SqT K H q [.int p.a, .int p.b, .int p.c, w] ∧ Dp K H w (endsD p.ends) := by
  obtain ⟨q, xs, rfl, h1, h2⟩ := h.tupE
  obtain ⟨v1, r1, rfl, a1, h2⟩ := h2.consE
  obtain ⟨v2, r2, rfl, a2, h2⟩ := h2.consE
  obtain ⟨v3, r3, rfl, a3, h2⟩ := h2.consE
  obtain ⟨v4, r4, rfl, a4, h2⟩ := h2.consE
  cases h2.nilE
  cases a1.intE
  cases a2.intE
  cases a3.intE
  exact ⟨q, v4, rfl, h1, a4⟩
theorem one_go {B c : Addr} {cs : List Int} {xs : List V} {H : Hp} {Q : VK} (bag : Bag K c cs H B) (h0 : 0 < xs.length) (h1 : xs.length ≤ 1000) (k : ∀ x H', x ∈ xs → Bag K c cs H' B → Ex (wo [B] H) (wo [B] H') → Q x H') :
    xs.length ≤ sizeLine ∧ ∀ p, H p = none → sp__law_one K a [.ref B, .ref p] (upd H p (.lst xs)) Q E0 :=
  ⟨smallLen h1, fun p hp => ⟨B, c, cs, p, xs, rfl, bag.mono (Ex.new hp), SqL.of (by rw [wo_get (by rw [List.mem_singleton]; exact fun z => bag.there (z ▸ hp))]; exact upd_same), h0, h1, fun x H' hx b o => k x H' hx b (Same.trans (Ex.new hp).wo (off_wo o))⟩⟩
theorem noL_en (e : En) : noL e.d = true := rfl
theorem way_is {s : Int} (h0 : 0 ≤ s) : atI [V.str ("in" : Str), V.str "out"] (s % 2) = some (.str (wayOf s)) := by
  unfold wayOf
  by_cases h : s % 2 = 0
  · rw [if_pos h, h]
    rfl
  · have h1 : s % 2 = 1 := by omega
    rw [if_neg h, h1]
    rfl
theorem made_at {α : Type} {K : PySem.W.Frag} {H : Hp} {f : α → PyData} {G : Nat → α → Prop} : ∀ {n : Nat} {ys : List V}, Made n (fun j v H => ∃ x, G j x ∧ Dp K H v (f x)) ys H → ∃ xs : List α, xs.length = n ∧ (∀ j x, xs[j]? = some x → G j x) ∧ DpAll K H ys (xs.map f) := by
  intro n ys
  induction ys generalizing n G with
  | nil =>
    rintro ⟨h1, _⟩
    exact ⟨[], h1, fun j x hx => by simp at hx, .nil⟩
  | cons y ys ih =>
    rintro ⟨h1, h2⟩
    obtain ⟨v, e1, x, gx, dx⟩ := h2 0 (by rw [← h1]; simp)
    have e2 : y = v := by simpa using e1
    subst e2
    obtain ⟨xs, l1, g1, d1⟩ := ih (n := ys.length) (G := fun j => G (j + 1)) ⟨rfl, fun j hj => by
      obtain ⟨u, e3, r⟩ := h2 (j + 1) (by rw [← h1]; simp; omega)
      exact ⟨u, by simpa using e3, r⟩⟩
    refine ⟨x :: xs, by rw [← h1]; simp [l1], fun j z hz => ?_, .cons dx d1⟩
    cases j with
    | zero =>
      simp at hz
      subst hz
      exact gx
    | succ j => exact g1 j z (by simpa using hz)
theorem rd__law_end : RD (sp__law_end K a) (t__law_end K a) N__law_end := by
  rintro vs H Q E ⟨B, c, cs, s, rfl, bag, s0, s1, q⟩
  show t__law_end K a _ [some (.ref B), some (.int s), none, none] H
  unfold t__law_end
  walk_at "sm"
  refine one_go bag (by decide) (by decide) fun x H1 hx bag1 e1 => ?_
  have hw := way_is s0
  have hok : ∀ (k : Str) (sz ev : Int), kindOk k sz ev = true → (⟨s / 2 + 1, wayOf s, k, sz, ev⟩ : En).ok = true := fun k sz ev hk => by
    unfold En.ok
    rw [decide_eq_true (show 1 ≤ s / 2 + 1 ∧ s / 2 + 1 ≤ 7 by omega), decide_eq_true (show wayOf s ∈ [("in" : Str), "out"] by unfold wayOf; split <;> simp), hk]
    rfl
  have fin : ∀ (k : Str) (sz ev : Int) H2, kindOk k sz ev = true → Bag K c cs H2 B → Ex (wo [B] H) (wo [B] H2) → [V.int (s / 2 + 1), .str (wayOf s), .str k, .int sz, .int ev].length ≤ sizeLine ∧ ∀ p, H2 p = none → Q (.ref p) (upd H2 p (.tup [V.int (s / 2 + 1), .str (wayOf s), .str k, .int sz, .int ev])) := fun k sz ev H2 hk bag2 e2 =>
    ⟨show 5 ≤ sizeLine by decide, fun p hp => q (.ref p) ⟨s / 2 + 1, wayOf s, k, sz, ev⟩ _ (hok _ _ _ hk) rfl rfl (bag2.mono (Ex.new hp)) (Same.trans e2 (Ex.new hp).wo)
      (Dp.off (bag2.mono (Ex.new hp)) _ _ (noL_en _) (Dp.newT hp (.cons (.int _) (.cons (.str _) (.cons (.str _) (.cons (.int _) (.cons (.int _) .nil)))))))⟩
  have hx' : x = .str "bulk" ∨ x = .str "timed" := by simpa using hx
  rcases hx' with rfl | rfl
  · refine ⟨rfl, iteY (decide_eq_true rfl) ⟨cdivS (by decide) (by decide), up2, fun p1 hp1 => ⟨by decide, _, SqL.of upd_same, _, hw, ?_⟩⟩⟩
    refine one_go (bag1.mono (Ex.new hp1)) (by decide) (by decide) fun y H2 hy bag2 e2 => ?_
    obtain ⟨n, rfl, hn⟩ : ∃ n, y = .int n ∧ kindOk "bulk" n 0 = true := by
      simp only [List.mem_cons, List.not_mem_nil, or_false] at hy
      rcases hy with rfl | rfl | rfl | rfl | rfl <;> exact ⟨_, rfl, by decide⟩
    exact fin _ _ _ H2 hn bag2 (Same.trans e1 (Same.trans (Ex.new hp1).wo e2))
  · refine ⟨rfl, iteN (decide_eq_false (by decide)) ?_⟩
    refine one_go bag1 (by decide) (by decide) fun y H2 hy bag2 e2 => ?_
    obtain ⟨n, rfl, n0, n1⟩ : ∃ n, y = .int n ∧ 0 < n ∧ n ≤ 64 := by
      simp only [List.mem_cons, List.not_mem_nil, or_false] at hy
      rcases hy with rfl | rfl <;> exact ⟨_, rfl, by decide, by decide⟩
    refine ⟨B, c, cs, n, rfl, bag2, n0, Int.lt_of_le_of_lt n1 (by decide), fun z H3 z0 z1 bag3 o3 => ?_⟩
    walk_at "sm"
    refine ⟨cdivS (by decide) (by decide), up2, fun p1 hp1 => ⟨by decide, _, SqL.of upd_same, _, hw, ?_⟩⟩
    have e3 : Ex (wo [B] H) (wo [B] H3) := Same.trans e1 (Same.trans e2 (off_wo o3))
    refine one_go (bag3.mono (Ex.new hp1)) (by decide) (by decide) fun y H4 hy bag4 e4 => ?_
    obtain ⟨m, rfl, hm⟩ : ∃ m, y = .int m ∧ m ∈ [(1 : Int), 2, 4, 8, 16, 32] := by
      simp only [List.mem_cons, List.not_mem_nil, or_false] at hy
      rcases hy with rfl | rfl | rfl | rfl | rfl | rfl <;> exact ⟨_, rfl, by decide⟩
    have hk : kindOk "timed" (1 + z) m = true := by
      unfold kindOk
      rw [if_neg (by decide), decide_eq_true (show (1 ≤ 1 + z ∧ 1 + z ≤ 64) by omega), decide_eq_true hm]
      rfl
    exact fin _ _ _ H4 hk bag4 (Same.trans e3 (Same.trans (Ex.new hp1).wo e4))
theorem noL_ends (es : List En) : noL (endsD es) = true := by
  show noLs (es.map En.d) = true
  exact noLs_all fun d hd => by
    obtain ⟨e, _, rfl⟩ := List.mem_map.mp hd
    rfl
theorem noL_pl (p : Pl) : noL p.d = true := by
  show noLs [.int p.a, .int p.b, .int p.c, endsD p.ends] = true
  exact noLs_all (memC rfl (memC rfl (memC rfl (mem1 (noL_ends _)))))
theorem turn_off {B D c : Addr} {cs : List Int} {H3 H4 : Hp} (DB : D ≠ B) (J : Bag K c cs (wo [D] H3) B) (bag : Bag K c cs H4 B) (o : ∀ b, b ≠ B → H4 b = H3 b) : H4 D = H3 D ∧ Ex (wo [B] (wo [D] H3)) (wo [B] (wo [D] H4)) ∧ Bag K c cs (wo [D] H4) B := by
  refine ⟨o D DB, ?_, J.turned bag o⟩
  have : ∀ x, x ≠ B → wo [D] H4 x = wo [D] H3 x := fun x hx => by
    unfold wo
    split
    · rfl
    · exact o x hx
  exact off_wo this
theorem spotsOf {n : Nat} {ys : List V} {H : Hp} (h : Made n (fun _ v _ => ∃ b : Int, 0 ≤ b ∧ b < 14 ∧ v = .int b) ys H) : ∃ ns : List Int, ys = ns.map V.int ∧ ns.length = n ∧ ∀ b ∈ ns, 0 ≤ b ∧ b < 14 := by
  obtain ⟨hl, hm⟩ := h
  have key : ∀ ys : List V, (∀ v ∈ ys, ∃ b : Int, 0 ≤ b ∧ b < 14 ∧ v = .int b) → ∃ ns : List Int, ys = ns.map V.int ∧ ∀ b ∈ ns, 0 ≤ b ∧ b < 14 := by
    intro ys
    induction ys with
    | nil => exact fun _ => ⟨[], rfl, fun b hb => (List.not_mem_nil hb).elim⟩
    | cons v ys ih =>
      intro h
      obtain ⟨b, b0, b1, rfl⟩ := h v List.mem_cons_self
      obtain ⟨ns, rfl, h2⟩ := ih fun w hw => h w (List.mem_cons_of_mem _ hw)
      exact ⟨b :: ns, rfl, memC ⟨b0, b1⟩ h2⟩
  obtain ⟨ns, rfl, h2⟩ := key ys fun v hv => by
    obtain ⟨i, hi, e⟩ := List.getElem_of_mem hv
    obtain ⟨w, e1, b, b0, b1, rfl⟩ := hm i (by omega)
    rw [List.getElem?_eq_getElem hi, e] at e1
    exact ⟨b, b0, b1, Option.some.inj e1⟩
  exact ⟨ns, rfl, by rw [← hl, List.length_map], h2⟩
theorem rd__law_ends : RD (sp__law_ends K a) (t__law_ends K a) N__law_ends := by
  rintro vs H Q E ⟨B, c, cs, most, rfl, hm0, hm1', bag, q⟩
  show t__law_ends K a _ [some (.ref B), some (.int most), none, none, none] H
  unfold t__law_ends
  walk_at "sm"
  refine lcAt (fun n H0 => 0 ≤ n ∧ n < most + 1 ∧ Bag K c cs H0 B ∧ Ex (wo [B] H) (wo [B] H0)) (by
    intro R r
    walk_at "sm"
    exact ⟨B, c, cs, most + 1, rfl, bag, by omega, Int.lt_of_le_of_lt (show most + 1 ≤ 11 by omega) (by decide), fun n H2 n0 n1 bag2 o2 => r n H2 ⟨n0, n1, bag2, off_wo o2⟩⟩) ?_
  rintro n H0 ⟨n0, n1, bag0, e0⟩
  refine lcRB2 (n := n) 3 [B] (fun G => Bag K c cs G B) (fun j v _ => ∃ b : Int, 0 ≤ b ∧ b < 14 ∧ v = .int b) (fun R r => r) n0 (by omega) (fun _ _ _ _ _ h => h) (fun _ => rfl) bag0 (fun i D H3 Q1 acc hi hD hD1 e3 J q' => ?_) (fun D H3 ys hD e3 J hy hm => ?_)
  · simp only [wipe]
    walk_at "sm"
    have DB : D ≠ B := fun z => bag0.there (z ▸ hD)
    refine ⟨B, c, cs, 14, rfl, J.mono wo_ex, by decide, by decide, fun y H9 y0 y1 bag9 o9 => ?_⟩
    obtain ⟨k1, k2, k3⟩ := turn_off DB J bag9 o9
    exact q' _ H9 k1 k2 k3 ⟨y, y0, y1, rfl⟩
  · obtain ⟨ns, rfl, hl, hns⟩ := spotsOf hm
    have DB : D ≠ B := fun z => bag0.there (z ▸ hD)
    have bag3 := J.mono wo_ex
    have e03 : Ex (wo [B] H) (wo [B] H3) := Same.trans e0 (Same.trans e3 (by rw [wo_comm]; exact wo_ex))
    refine ⟨D, ns, rfl, SqL.of hy, by omega, fun p1 m hp1 hm1 => ?_⟩
    refine ⟨p1, _, m, rfl, upd_same, by omega, fun sp p2 hsorted hmem hlen hp2 => ?_⟩
    have e4 : Ex H3 _ := Same.trans (Ex.new hp1 (o := SetO a.w p1 (fun j => decide (j ∈ ns)) m)) (Ex.new hp2 (o := .lst (sp.map V.int)))
    have bag4 := bag3.mono e4
    have h4 : upd (upd H3 p1 (SetO a.w p1 (fun j => decide (j ∈ ns)) m)) p2 (.lst (sp.map V.int)) p2 = some (.lst (sp.map V.int)) := upd_same
    have n2 : p2 ≠ B := fun z => (bag3.mono (Ex.new hp1 (o := SetO a.w p1 (fun j => decide (j ∈ ns)) m))).there (z ▸ hp2)
    generalize upd (upd H3 p1 (SetO a.w p1 (fun j => decide (j ∈ ns)) m)) p2 (.lst (sp.map V.int)) = H4 at e4 bag4 h4
    have hsp : ∀ b ∈ sp, 0 ≤ b ∧ b < 14 := fun b hb => hns b (by simpa using (hmem b).mp hb)
    refine lcLB2 (l := p2) (xs := sp.map V.int) 4 [B] (fun G => Bag K c cs G B) (fun j v G => ∃ e : En, GoodAt sp j e ∧ Dp K G v e.d) (fun R r => ⟨_, rfl, r⟩) (SqL.of (by rw [wo_get (by rw [List.mem_singleton]; exact n2)]; exact h4)) (by rw [List.length_map]; omega) (fun _ _ _ _ e' ⟨x, h1, h2⟩ => ⟨x, h1, Ex.dp e' _ _ h2⟩) (fun _ => rfl) bag4 (fun i x D2 H5 Q1 acc hx hD2 hD3 e5 J5 q' => ?_) (fun D2 H5 zs hD2 e5 J5 hz hmz => ?_)
    · simp only [wipe]
      walk_at "sm"
      rw [List.getElem?_map] at hx
      obtain ⟨b, hbi, rfl⟩ := Option.map_eq_some_iff.mp hx
      have hb := List.mem_of_getElem? hbi
      have DB2 : D2 ≠ B := fun z => bag4.there (z ▸ hD2)
      refine ⟨B, c, cs, b, rfl, J5.mono wo_ex, (hsp b hb).1, (hsp b hb).2, fun v e H6 he6 hn6 hw6 bag6 e6 h6 => ?_⟩
      obtain ⟨g1, g2, g3, g4⟩ := turn_data DB2 hD3 J5 bag6 e6 (noL_en e) h6
      exact q' _ H6 g1 g2 g3 ⟨e, ⟨he6, b, hbi, (hsp b hb).1, (hsp b hb).2, hn6, hw6⟩, g4⟩
    · obtain ⟨es, l1, w1, d1⟩ := made_at (f := En.d) (G := GoodAt sp) hmz
      have DB2 : D2 ≠ B := fun z => bag4.there (z ▸ hD2)
      refine ⟨D2, rfl, zs, .inl ⟨SqL.of hz, fun l hl => ?_⟩⟩
      have bag6 := (J5.mono wo_ex).mono (Ex.new hl (o := .tup zs))
      refine q (.ref l) es _ (by rw [l1, List.length_map]; omega) ⟨sp, hsorted, by rw [l1, List.length_map], w1⟩ bag6 (Same.trans e03 (Same.trans e4.wo (Same.trans e5 (Same.trans (by rw [wo_comm]; exact wo_ex) (Ex.new hl).wo)))) ?_
      exact .tup (sqT_offB bag6 (SqT.of upd_same)) (Ex.dpAll (Same.trans (by rw [wo_comm]; exact wo_ex) (Ex.new hl).wo) _ _ d1)
end
end My

namespace My
open PySem PySem.Spec PyProof.Rows L2
section
variable {P : Program} {w : World} {K : PySem.W.Frag} {mg : Str → Option Value} {base : Heap} {a : Ad}
local macro_rules | `(tactic| walk_at "sm") => `(tactic| try simp only [tSeq, tAsg, tVar, tC, tOp, tUn, tRet, tRetN, tDrop, tIfS, tNext, tAnd, tOr, tNot, tB, tTest, tChain, tAndV, tOrV, tNotV, tIf, tCB, tCons, tNil, tCall, tCallS, tPar, rInRg, rNotInRg, rRg1, rRg2, tRaiseAt, tMkAt, tByAt, tCallN, tListR3, tLstRg, tRg1, tRaiseFr, tMkFr, tByFr, rMax2, rMin2, rInt1, tLst, tTup, tSl, tNoPart, tPart,
  tAug, ipI, gName, gSub, gTup, gCons, gNil, rI0, rI, rU, rEq, rNe, rIsN, rNotN, rAddI, rSubI, rMulI, rModI, rDivW, rPowI, rShlI, rShrI, rAndI, rOrI, rXorI, rLtI, rLeI, rGtI, rGeI, rNegI, rIxL, rIxT, rLenQ, rListOf, rTupleOf, rSetL, tRevL, tRaiseC, rSlL,
  List.getElem?_cons_zero, List.getElem?_cons_succ, List.set_cons_zero, List.set_cons_succ, Option.some.injEq, V.int.injEq, V.bl.injEq, V.ref.injEq, V.str.injEq, exists_eq_left', exists_eq_left, exists_and_left, List.cons.injEq, and_true, true_and, List.append_nil, scal, Int.reduceToNat, if_true, if_false, Bool.false_eq_true])
local macro_rules | `(tactic| walk_at "bg") => `(tactic| repeat (first
  | refine ⟨_, SqL.of (by assumption), _, rfl, ?_⟩
  | refine ⟨_, SqL.of upd_same, _, rfl, ?_⟩
  | refine ⟨_, rfl, ?_⟩
  | refine ⟨_, (by assumption), _, rfl, ?_⟩
  | refine ⟨_, upd_same, _, rfl, ?_⟩
  | refine ⟨Or.inr ⟨by omega, by omega⟩, ?_⟩
  | refine ⟨Or.inl ⟨by omega, by omega⟩, ?_⟩
  | refine ⟨(show (0 : Int) < _ by omega), ?_⟩
  | refine ⟨_, .inl (SqL.of upd_same), ?_⟩
  | refine ⟨_, .inl (by assumption), ?_⟩))
local macro_rules | `(tactic| walk_at "ty") => `(tactic| try simp only [tyS, tyL, tyT, if_true, if_false, Bool.false_eq_true, reduceCtorEq, decide_false, decide_true, exists_eq_left', exists_eq_left, V.bl.injEq, and_true, true_and, Bool.not_true, Bool.not_false, decide_eq_true_eq, Bool.true_and, Bool.and_true])
theorem forRC {ta : TA} {g : TG} {tb : TS} {D : Ends} {σ : L2.St} {H : Hp} (i : Nat) (Pv : Int → Nat → L2.St → Hp → Prop) (ht : ∀ R : List V → Hp → Prop, (∀ n H', n ≤ 2 ^ 60 → -(2 ^ 60) ≤ n → Pv n 0 σ H' → R [.int n] H') → ta σ H R)
    (hs : ∀ (n : Int) (j : Nat) σ H, (j : Int) < n → Pv n j σ H → tb { D with nx := Pv n (j + 1), ct := Pv n (j + 1), bk := D.nx } (σ.set i (some (.int (j : Nat)))) H) (hd : ∀ n σ H, Pv n n.toNat σ H → D.nx σ H)
    (hg : g = gName i := by rfl) : tFor (iRng1 ta) g tb D σ H := by
  subst hg
  refine ht _ fun n H' h1 h2 h0 => ⟨n, rfl, by omega, by omega, for_range (lo := 0) (n := n.toNat) (Pv n) h0 (fun j σ H hj p => ?_) (fun σ H p => hd n σ H p)⟩
  have e : (0 : Int) + (j : Nat) = (j : Nat) := Int.zero_add _
  rw [e]
  exact hs n j σ H (by omega) p
theorem rd__law_frames : RD (sp__law_frames K a) (t__law_frames K a) N__law_frames := by
  rintro vs H Q E ⟨e, ph, rfl, e0, q⟩
  show t__law_frames K a _ [some (.int (e : Int)), some (.int (ph : Int)), none] H
  unfold t__law_frames
  walk_at "sm"
  refine lcRF (n := 32) 2 (fun g => decide (g % e = ph)) (fun R r => r) (by decide) (fun _ => rfl) (fun j H1 R hj e1 r => ?_) (fun x H1 R r => ⟨_, rfl, r⟩) (fun D H1 hD e1 h1 => q D H1 hD e1 h1)
  simp only [wipe]
  walk_at "sm"
  refine ⟨by omega, ?_⟩
  have := r _ (Same.refl _)
  rwa [show decide (j % e = ph) = decide ((j : Int) % (e : Int) = (ph : Int)) from decide_eq_decide.mpr (by rw [← Int.natCast_emod, Int.ofNat_inj])] at this
theorem rd__law_said (T : Txt K mg a) : RD (sp__law_said K a) (t__law_said K a) N__law_said := by
  rintro vs H Q E ⟨p, ns, s, e, rfl, hS, hl, s0, s1, he, q⟩
  show t__law_said K a _ [some (.ref p), some (.int s), some (.int (e : Int)), none, none] H
  unfold t__law_said
  walk_at "sm"
  refine ⟨p, ns, s, e, rfl, hS, hl, s0, s1, he, fun ok H1 e1 => ?_, fun no d nl H1 e1 hd hn hne => ?_⟩
  · have z : saidD ns s e = .int (phs ns e : Nat) := if_pos ok
    rw [z] at q
    exact q _ H1 e1 (.int _)
  · have z : saidD ns s e = .list ((fulls ns e).map PyData.int) := if_neg (by omega)
    rw [z] at q
    refine ⟨true, T.m_NoRoom_BusError, fun _ a0 ha0 => ?_, fun z => Bool.noConfusion z⟩
    have dn : upd H1 nl (.lst ((fulls ns e).map V.int)) d = none := by rw [upd_ne (Ne.symm hne)]; exact hd
    have e2 := Same.trans e1 (Same.trans (Ex.new hn (o := .lst ((fulls ns e).map V.int))) (Ex.new dn (o := .xd [(("frames" : Str), .ref nl)])))
    have hF : upd (upd H1 nl (.lst ((fulls ns e).map V.int))) d (.xd [(("frames" : Str), .ref nl)]) nl = some (.lst ((fulls ns e).map V.int)) := by rw [upd_ne hne, upd_same]
    have hD : upd (upd H1 nl (.lst ((fulls ns e).map V.int))) d (.xd [(("frames" : Str), .ref nl)]) d = some (.xd [(("frames" : Str), .ref nl)]) := upd_same
    walk_at "sm"
    refine ⟨rfl, ⟨d, _, rfl, hD⟩, _, _, true, rfl, fun u r => r, T.kit_NoRoom_NoRoom, _, rfl, iteT ?_⟩
    refine ⟨_, hD, q _ _ e2 (Dp.ints (SqL.of hF))⟩
theorem rd__law_let (T : Txt K mg a) : RD (sp__law_let K a) (t__law_let K a) N__law_let := by
  rintro vs H Q E ⟨p, v, ns, es, rfl, hS, hl, hd, ok, l100, q⟩
  show t__law_let K a _ [some (.ref p), some v, none] H
  unfold t__law_let
  walk_at "sm"
  refine ⟨p, v, ns, es, rfl, hS, hl, hd, ok, l100, fun ns' ps z w H1 e1 h1 => ?_, fun F z d nl H1 e1 hd hn hne => ?_⟩
  · rw [z] at q
    exact q w H1 e1 h1
  · rw [z] at q
    refine ⟨true, T.m_NoRoom_NoRoom, fun _ a0 ha0 => ?_, fun z => Bool.noConfusion z⟩
    have dn : upd H1 nl (.lst (F.map V.int)) d = none := by rw [upd_ne (Ne.symm hne)]; exact hd
    have e2 := Same.trans e1 (Same.trans (Ex.new hn (o := .lst (F.map V.int))) (Ex.new dn (o := .xd [(("frames" : Str), .ref nl)])))
    have hF : upd (upd H1 nl (.lst (F.map V.int))) d (.xd [(("frames" : Str), .ref nl)]) nl = some (.lst (F.map V.int)) := by rw [upd_ne hne, upd_same]
    have hD : upd (upd H1 nl (.lst (F.map V.int))) d (.xd [(("frames" : Str), .ref nl)]) d = some (.xd [(("frames" : Str), .ref nl)]) := upd_same
    walk_at "sm"
    exact ⟨_, hD, q _ _ e2 (Dp.ints (SqL.of hF))⟩
theorem rows_cast (ns : List Int) (e : Nat) : ((List.range e).map (mxs ns e)).map V.int = (List.range e).map fun p => V.int (mxs ns e p) := by
  rw [List.map_map]
  rfl
theorem headD_le {l : List Nat} (hp : l.Pairwise (· < ·)) {x : Nat} (hx : x ∈ l) : l.headD 0 ≤ x := by
  cases l with
  | nil => exact (List.not_mem_nil hx).elim
  | cons a r =>
    rcases List.mem_cons.mp hx with rfl | h
    · exact Nat.le_refl _
    · exact Nat.le_of_lt ((List.pairwise_cons.mp hp).1 x h)
theorem phs_first {ns : List Int} {e m : Nat} (he : Pow2 e) (hm : m < phs ns e) : mxs ns e m ≠ leastM ns e := fun z => by
  have h1 := (phs_has (ns := ns) he).1
  have : phs ns e ≤ m := headD_le (List.pairwise_lt_range.filter _) (List.mem_filter.mpr ⟨List.mem_range.mpr (by omega), decide_eq_true z⟩)
  omega
theorem rd__law_phase : RD (sp__law_phase K a) (t__law_phase K a) N__law_phase := by
  rintro vs H Q E ⟨p, ns, s, e, rfl, hS, hl, he, q⟩
  show t__law_phase K a _ [some (.ref p), some (.int s), some (.int (e : Int)), none, none, none, none] H
  unfold t__law_phase
  have ee := he.le
  have e0 := he.pos
  walk_at "sm"
  refine lcR (n := (e : Int)) 5 (fun j v _ => v = .int (mxs ns e j)) (fun R r => ⟨_, rfl, r⟩) (by omega) (by omega) (fun _ _ _ _ _ h => h) (fun _ => rfl) (fun j D H2 Q1 hj hD nD e2 k => ?_) (fun D H2 ys hD e2 h2 m2 => ?_)
  · have hS2 := Ex.sqT (Same.trans e2 wo_ex) hS
    have hj' : j < e := by omega
    simp only [wipe]
    walk_at "sm"
    refine lcAtL (fun l H0 => Ex H2 H0 ∧ H0 l = some (.lst ((frs e j).map fun g => V.int (g : Nat)))) (fun R r => ?_) (fun l H3 h3 => ?_)
    · walk_at "sm"
      exact ⟨e, j, rfl, e0, fun l H' hl0 e' h' => r l H' ⟨e', h'⟩⟩
    · obtain ⟨e3, h3⟩ := h3
      refine lcL 4 (fun j' v _ => ∃ g, (frs e j)[j']? = some g ∧ v = .int (vl ns g)) (fun R r => r) (SqL.of h3) (by rw [List.length_map]; have := frs_len (e := e) (ph := j); omega) (fun _ _ _ _ _ h => h) (fun _ => rfl) (fun j' x D4 H4 Q2 hj4 hD4 nD4 e4 k4 => ?_) (fun D4 H4 ys hD4 e4 h4 m4 => ?_)
      · rw [List.getElem?_map] at hj4
        obtain ⟨g, hg, rfl⟩ := Option.map_eq_some_iff.mp hj4
        have g1 := mem_frs.mp (List.mem_of_getElem? hg)
        simp only [wipe]
        walk_at "sm"
        exact ⟨_, Ex.sqT (Same.trans e3 (Same.trans e4 wo_ex)) hS2, _, at_of (j := g) rfl (vl_at hl g1.1), k4 _ _ (Same.refl _) ⟨g, hg, rfl⟩⟩
      · have ey := madeMap (by rw [List.length_map]) m4
        subst ey
        refine ⟨D4, (frs e j).map (vl ns), rfl, SqL.of (by rw [h4, List.map_map]; rfl), ?_, fun m hm1 hm2 => ?_⟩
        · rw [List.length_map]
          exact List.length_pos_iff.mpr (frs_ne he hj')
        · exact k _ _ (Same.trans e3 (Same.trans e4 wo_ex)) (by rw [show mxs ns e j = m from max_is hm1 hm2])
  · have ey : ys = ((List.range e).map (mxs ns e)).map V.int := by
      rw [m2.ints]
      rfl
    subst ey
    have e12 := Same.trans e2 wo_ex
    have hS2 := Ex.sqT e12 hS
    have pos : 0 < ((List.range e).map (mxs ns e)).length := by rw [List.length_map, List.length_range]; exact e0
    walk_at "sm"
    refine ⟨D, _, rfl, SqL.of h2, pos, fun m hm1 hm2 => ?_⟩
    have em : leastM ns e = m := min_is hm1 hm2
    subst em
    refine ⟨_, rfl, iteP (fun c => ?_) (fun c => ?_)⟩
    · have z : saidD ns s e = .int (phs ns e : Nat) := if_pos (by omega)
      rw [z] at q
      simp only [tBM]
      walk_at "sm"
      refine ⟨.inl ⟨rfl, _, SqL.of h2⟩, D, _, rfl, SqL.of h2, pos, fun m hm1' hm2' => ?_⟩
      have em : leastM ns e = m := min_is hm1' hm2'
      subst em
      obtain ⟨p1, p2⟩ := phs_has (ns := ns) he
      refine ⟨D, _, _, phs ns e, .int (leastM ns e), rfl, rfl, SqL.of h2, rfl, ?_, ?_, ?_, ?_, q _ H2 e12 (.int _)⟩
      · rw [List.all_eq_true]
        intro v hv
        obtain ⟨i, _, rfl⟩ := List.mem_map.mp hv
        rfl
      · rw [rows_cast, List.getElem?_map, List.getElem?_range p1, ← p2]
        rfl
      · simp [eqV]
      · intro m z' hm hz
        rw [rows_cast, List.getElem?_map, List.getElem?_range (by omega)] at hz
        cases hz
        have := phs_first (ns := ns) he hm
        simp [eqV, this]
    · have z : saidD ns s e = .list ((fulls ns e).map PyData.int) := if_neg (by omega)
      rw [z] at q
      refine ⟨Nat.zero_le _, fun l hl0 => ?_⟩
      have n1 := Ex.new hl0 (o := .lst [])
      have hD1 := n1 _ _ h2
      have hlD : l ≠ D := fun z => by
        rw [z, h2] at hl0
        cases hl0
      refine forR (n := (e : Int)) 5 (fun j σ H' => (∃ x4 x5, σ = [some (.ref p), some (.int s), some (.int (e : Int)), some (.ref D), x4, x5, some (.ref l)]) ∧ Ex H2 (wo [l] H') ∧ H' l = some (.lst (((fulls ns e).take j).map V.int))) (fun R r => ⟨_, rfl, r⟩) (by omega) (by omega) ⟨⟨_, _, rfl⟩, n1.woN (fun b hb => by rw [List.mem_singleton.mp hb]; exact hl0), upd_same⟩ ?hs ?hd
      case hs =>
        rintro j σ H3 hj ⟨⟨x4, x5, rfl⟩, e3, h3⟩
        have hj' : j < e := by omega
        walk_at "sm"
        simp only [tBM, rAppend]
        walk_at "sm"
        have e3' := Same.trans e3 wo_ex
        refine ⟨.inl ⟨rfl, _, SqL.of h3⟩, ?_⟩
        refine lcAtL (fun l H0 => Ex H3 H0 ∧ H0 l = some (.lst ((frs e j).map fun g => V.int (g : Nat)))) (fun R r => ?_) (fun l4 H4 h4 => ?_)
        · walk_at "sm"
          exact ⟨e, j, rfl, e0, fun l H' hl0 e' h' => r l H' ⟨e', h'⟩⟩
        · obtain ⟨e4, h4⟩ := h4
          refine lcLF 4 (fun v => match v with | .int g => decide (vl ns g.toNat = mxs ns e j) | _ => false) (fun R r => r) (SqL.of h4) (by rw [List.length_map]; have := frs_len (e := e) (ph := j); omega) (fun _ => rfl) (fun x H5 R hx e5 r => ?_) (fun x H5 R r => ⟨_, rfl, r⟩) (fun D5 H5 hD5 e5 h5 => ?_)
          · obtain ⟨g, hg, rfl⟩ := List.mem_map.mp hx
            have g1 := mem_frs.mp hg
            simp only [wipe]
            walk_at "sm"
            have e35 := Same.trans e3' (Same.trans e4 e5)
            refine ⟨_, Ex.sqT e35 hS2, _, at_of (j := g) rfl (vl_at hl g1.1), _, SqL.of (e35 _ _ h2), _, at_of (j := j) rfl (by rw [rows_cast, List.getElem?_map, List.getElem?_range hj']; rfl), ?_⟩
            have := r _ (Same.refl _)
            simp only [Int.toNat_natCast] at this
            simpa using this
          · rw [filt_int (q := fun g => decide (vl ns g = mxs ns e j)) (fun g hg => by simp)] at h5
            have e35 := Same.trans e4 e5
            refine ⟨D5, rfl, _, SqL.of h5, _, at_of (j := 0) rfl (head_at (full_ne he hj')), _, e35 _ _ h3, ?_, ⟨_, rfl⟩, ?_, ?_⟩
            · rw [List.length_map, List.length_take]
              exact Nat.lt_of_le_of_lt (show _ ≤ 32 by omega) (by decide)
            · rw [wo_upd (List.mem_singleton.mpr rfl)]
              exact Same.trans e3 (Ex.wo e35)
            · rw [upd_same, take_one (show (fulls ns e)[j]? = some ((full ns e j : Nat) : Int) by unfold fulls; rw [List.getElem?_map, List.getElem?_range hj']; rfl), List.map_append]
              rfl
      case hd =>
        rintro σ H3 ⟨⟨x4, x5, rfl⟩, e3, h3⟩
        walk_at "sm"
        rw [List.take_of_length_le (by unfold fulls; simp)] at h3
        exact q _ H3 (Same.trans e12 (Same.trans e3 wo_ex)) (Dp.ints (SqL.of h3))
theorem forTg {tl : TE} {g : TG} {tb : TS} {D : Ends} {σ : L2.St} {H : Hp} {a : Addr} {xs : List V} (Pv : Nat → L2.St → Hp → Prop) (ht : ∀ R : VK, R (.ref a) H → tl σ H R) (hS : SqT K H a xs) (h0 : Pv 0 σ H)
    (hl : ∀ j σ H, Pv j σ H → SqT K H a xs) (hs : ∀ j x σ H, xs[j]? = some x → Pv j σ H → g x σ H fun σ2 H2 => tb { D with nx := Pv (j + 1), ct := Pv (j + 1), bk := D.nx } σ2 H2) (hd : ∀ σ H, Pv xs.length σ H → D.nx σ H) : tFor (iTup K tl) g tb D σ H :=
  ht _ ⟨a, rfl, ⟨xs, hS⟩, for_tup (xs := xs) Pv h0 (fun j σ H _ p => hl j σ H p) (fun j x σ H e p => hs j x σ H e p) hd⟩
theorem endsGet {H : Hp} {xs : List V} {es : List En} (h : DpAll K H xs (es.map En.d)) {j : Nat} {x : V} (hx : xs[j]? = some x) : ∃ e, es[j]? = some e ∧ Dp K H x e.d := by
  have hj : j < es.length := by
    have := (List.getElem?_eq_some_iff.mp hx).1
    rw [DpAll.len h, List.length_map] at this
    exact this
  obtain ⟨v, e1, e2⟩ := DpAll.get h (show (es.map En.d)[j]? = some es[j].d by rw [List.getElem?_map, List.getElem?_eq_getElem hj]; rfl)
  rw [hx] at e1
  cases e1
  exact ⟨_, List.getElem?_eq_getElem hj, e2⟩
theorem timed_ok {e : En} (ok : e.ok = true) (c : e.kind = "timed") : 1 ≤ e.size ∧ e.size ≤ 64 ∧ ∃ n : Nat, e.every = n ∧ e.every.toNat = n ∧ Pow2 n := by
  unfold En.ok at ok
  have h : kindOk e.kind e.size e.every = true := (Bool.and_eq_true_iff.mp (Bool.and_eq_true_iff.mp ok).2).2
  unfold kindOk at h
  rw [if_neg (by rw [c]; decide)] at h
  obtain ⟨_, h⟩ := Bool.and_eq_true_iff.mp h
  obtain ⟨h1, h2⟩ := Bool.and_eq_true_iff.mp h
  have h1 := of_decide_eq_true h1
  obtain ⟨n, hn, hp⟩ := pow2_in (of_decide_eq_true h2)
  exact ⟨h1.1, h1.2, n, hn, by rw [hn]; rfl, hp⟩
theorem fold_inr (F : List Int) : ∀ es : List En, es.foldl stepL (.inr F) = .inr F
  | [] => rfl
  | _ :: es => fold_inr F es
theorem fold_take {x : (List Int × List PyData) ⊕ List Int} {es : List En} {j : Nat} {e : En} (h : es[j]? = some e) : (es.take (j + 1)).foldl stepL x = stepL ((es.take j).foldl stepL x) e := by
  rw [take_one h, List.foldl_append]
  rfl
theorem fold_fail {x : (List Int × List PyData) ⊕ List Int} {es : List En} {j : Nat} {F : List Int} (h : (es.take j).foldl stepL x = .inr F) : es.foldl stepL x = .inr F := by
  conv => lhs; rw [← List.take_append_drop j es, List.foldl_append, h]
  exact fold_inr F _
theorem rd_let_in : RDX (sp_let_in K a) (t_let_in K a) N_let_in := by
  rintro vs H Q E ⟨p, v, ns, es, rfl, hS, hl, hd, ok, l100, q1, q2⟩
  obtain ⟨pe, xs, rfl, hX, hA⟩ := hd.tupE
  have hlen : xs.length = es.length := by rw [DpAll.len hA, List.length_map]
  show t_let_in K a E _ [some (.ref p), some (.ref pe), none, none, none, none, none, none, none] H
  unfold t_let_in
  walk_at "sm"
  refine ⟨Nat.zero_le _, fun l hl0 => ?_⟩
  have n1 := Ex.new hl0 (o := .lst [])
  have l1 : upd H l (.lst []) l = some (.lst []) := upd_same
  refine forTg (a := pe) (xs := xs) (fun j σ H' => (∃ (t : Addr) (x3 x4 x5 x6 x7 x8 : Option V) (ns' : List Int) (ps : List PyData) (ys : List V), σ = [some (.ref t), some (.ref pe), some (.ref l), x3, x4, x5, x6, x7, x8] ∧ (es.take j).foldl stepL (.inl (ns, [])) = .inl (ns', ps) ∧ ns'.length = 32 ∧ SqT K (wo [l] H') t (ns'.map V.int) ∧ H' l = some (.lst ys) ∧ DpAll K (wo [l] H') ys ps ∧ ps.length ≤ j) ∧ Ex H (wo [l] H')) (fun R r => ⟨_, rfl, r⟩) (n1.sqT hX)
    ⟨⟨p, none, none, none, none, none, none, ns, [], [], rfl, rfl, hl, sqT_offL l1 (n1.sqT hS), l1, .nil, Nat.le_refl _⟩, n1.woN (fun b hb => by rw [List.mem_singleton.mp hb]; exact hl0)⟩ (fun j σ H' h => Ex.sqT (Same.trans h.2 wo_ex) hX) ?hs ?hd
  case hd =>
    rintro σ H1 ⟨⟨t, x3, x4, x5, x6, x7, x8, ns', ps, ys, rfl, hf, hl', hT, h1, hP, hpl⟩, e1⟩
    walk_at "sm"
    rw [List.take_of_length_le (by omega)] at hf
    refine ⟨_, .inr ⟨wo_ex.sqT hT, up2, fun w hw => ?_⟩⟩
    refine q1 ns' ps hf (.ref w) _ (Same.trans e1 (Same.trans wo_ex (Ex.new hw))) (Dp.newT hw (.cons (Dp.intsT (wo_ex.sqT hT)) (.cons (.lst (SqL.of h1) (Ex.dpAll wo_ex _ _ hP)) .nil)))
  case hs =>
    rintro j x σ H1 hx ⟨⟨t, x3, x4, x5, x6, x7, x8, ns', ps, ys, rfl, hf, hl', hT, h1, hP, hpl⟩, e1⟩
    obtain ⟨e, he, hv⟩ := endsGet hA hx
    have hj : j < es.length := (List.getElem?_eq_some_iff.mp he).1
    have oke := ok e (List.mem_of_getElem? he)
    obtain ⟨pv, rfl, hE⟩ := en_open (Ex.dp (Same.trans e1 wo_ex) _ _ hv)
    have hf2 := fold_take (x := .inl (ns, [])) he
    rw [hf] at hf2
    walk_at "sm"
    refine ⟨_, hE, rfl, _, _, rfl, _, _, rfl, _, _, rfl, _, _, rfl, _, _, rfl, rfl, ?_⟩
    walk_at "sm"
    refine iteP (fun c => ?_) (fun c => ?_)
    · obtain ⟨s1, s2, n, hn, hn2, hp⟩ := timed_ok oke c
      have hst : stepL (.inl (ns', ps)) e = if leastM ns' n + (e.size + 13) ≤ 1350 then .inl (addL ns' (e.size + 13) n (phs ns' n) 32, ps ++ [PsD e (phs ns' n)]) else .inr (fulls ns' n) := by
        show (if e.kind = "timed" then _ else _) = _
        rw [if_pos c, hn2]
      rw [hst] at hf2
      rw [hn]
      refine ⟨t, ns', e.size, n, rfl, wo_ex.sqT hT, hl', by omega, s2, hp, fun okr H2 e2 => ?_, fun no d nl H2 e2 hd2 hn2' hne => ?_⟩
      · rw [if_pos okr] at hf2
        have ph := (phs_has (ns := ns') hp).1
        have h2 := e2 _ _ h1
        refine ⟨t, ns', e.size, n, phs ns' n, 1, rfl, Ex.sqT e2 (wo_ex.sqT hT), hl', by omega, s2, hp, ph, .inl rfl, fun t2 H3 nt2 e3 h3 => ?_⟩
        rw [Int.one_mul] at h3
        simp only [tBM, rAppend]
        walk_at "sm"
        have hl3 := e3 _ _ h2
        refine ⟨.inl ⟨rfl, _, SqL.of hl3⟩, up2, fun p1 hp1 => ⟨up2, fun p2 hp2 => ?_⟩⟩
        have m1 := Ex.new hp1 (o := .tup [V.int e.n, .str e.way])
        have m2 := Ex.new hp2 (o := .tup [V.ref p1, V.int ((phs ns' n : Nat) : Int)])
        have hpair : Dp K (upd (upd H3 p1 (.tup [V.int e.n, .str e.way])) p2 (.tup [V.ref p1, V.int ((phs ns' n : Nat) : Int)])) (.ref p2) (PsD e (phs ns' n)) :=
          Dp.newT hp2 (.cons (Dp.newT hp1 (.cons (.int _) (.cons (.str _) .nil))) (.cons (.int _) .nil))
        have e14 : Ex H1 (upd (upd H3 p1 (.tup [V.int e.n, .str e.way])) p2 (.tup [V.ref p1, V.int ((phs ns' n : Nat) : Int)])) := Same.trans e2 (Same.trans e3 (Same.trans m1 m2))
        have hT4 := Ex.sqT (Same.trans m1 m2) h3
        generalize upd (upd H3 p1 (.tup [V.int e.n, .str e.way])) p2 (.tup [V.ref p1, V.int ((phs ns' n : Nat) : Int)]) = H4 at hpair e14 hT4
        have hl4 := e14 _ _ h1
        have ly : ys.length = ps.length := DpAll.len hP
        have up : Ex (wo [l] H4) (wo [l] (upd H4 l (.lst (ys ++ [.ref p2])))) := by rw [wo_upd (List.mem_singleton.mpr rfl)]; exact Same.refl _
        refine ⟨ys, hl4, Nat.lt_of_le_of_lt (show ys.length ≤ 100 by omega) (by decide), ⟨t2, _, _, _, _, _, _, ⟨rfl, rfl, rfl, rfl, rfl, rfl, rfl⟩, _, _, hf2, addL_len _ _ _ _ _, Ex.sqT up (sqT_offL hl4 hT4), _, upd_same, ?_, ?_⟩, Same.trans e1 (Same.trans e14.wo up)⟩
        · exact Ex.dpAll up _ _ (DpAll.app (Ex.dpAll e14.wo _ _ hP) (.cons (Dp.offL hl4 _ _ rfl hpair) .nil))
        · rw [List.length_append]
          simp
          omega
      · rw [if_neg (by omega)] at hf2
        have eN : Ex H H2 := Same.trans e1 (Same.trans wo_ex e2)
        exact q2 _ (fold_fail hf2) d nl H2 eN hd2 hn2' hne
    · have hst : stepL (.inl (ns', ps)) e = .inl (ns', ps) := by
        show (if e.kind = "timed" then _ else _) = _
        rw [if_neg c]
      rw [hst] at hf2
      exact ⟨⟨t, _, _, _, _, _, _, ⟨rfl, rfl, rfl, rfl, rfl, rfl, rfl⟩, ns', ps, hf2, hl', hT, ys, h1, hP, by omega⟩, e1⟩
theorem ixN_nat {n k : Nat} (h : k < n) : ixN n (k : Int) = some k := by
  unfold ixN
  rw [if_pos (by omega), if_pos (by omega)]
  rfl
theorem full_go {D : Ends} {H : Hp} {B l c : Addr} {cs : List Int} {ns : List Int} {s : Int} {e ph : Nat} {x2 x6 : Option V} (bag : Bag K c cs (wo [l] H) B) (h : H l = some (.lst (ns.map V.int))) (hn : ns.length = 32) (he : Pow2 e)
    (go : ∀ H' (ns' : List Int) x6, Bag K c cs (wo [l] H') B → H' l = some (.lst (ns'.map V.int)) → ns'.length = 32 → D.nx [some (.ref B), some (.ref l), x2, some (.int (e : Int)), some (.int (ph : Int)), some (.int s), x6] H') :
    (tIfS (tB (tCB (rAll K) (tCons (tLc (iList K (tCall (sp__law_frames K a) [] E0 (tCons (tVar 3) (tCons (tVar 4) tNil)))) (gName 6) tYes (tOp rLeI (tOp rAddI (tOp rAddI (tOp (rIxL K) (tVar 1) (tVar 6)) (tVar 5)) (tC (.int 13))) (tC (.int 1350))) [6]) tNil))) (tFor (iList K (tCall (sp__law_frames K a) [] E0 (tCons (tVar 3) (tCons (tVar 4) tNil)))) (gName 6) (tAsg (tOp rAddI (tOp rAddI (tOp (rIxL K) (tVar 1) (tVar 6)) (tVar 5)) (tC (.int 13))) (gSub (tVar 1) (tVar 6) rSetL))) tNext) D [some (.ref B), some (.ref l), x2, some (.int (e : Int)), some (.int (ph : Int)), some (.int s), x6] H := by
  have e0 := he.pos
  walk_at "sm"
  refine lcAtL (fun p H0 => Ex H H0 ∧ H0 p = some (.lst ((frs e ph).map fun g => V.int (g : Nat)))) (fun R r => ?_) (fun p H1 h1 => ?_)
  · walk_at "sm"
    exact ⟨e, ph, rfl, e0, fun l H' hl0 e' h' => r l H' ⟨e', h'⟩⟩
  obtain ⟨e1, h1⟩ := h1
  refine lcL 6 (fun j v _ => ∃ g, (frs e ph)[j]? = some g ∧ v = .bl (decide (vl ns g + s + 13 ≤ 1350))) (fun R r => r) (SqL.of h1) (by rw [List.length_map]; have := frs_len (e := e) (ph := ph); omega) (fun _ _ _ _ _ h => h) (fun _ => rfl) (fun j x D4 H4 Q2 hj4 hD4 nD4 e4 k4 => ?_) (fun D4 H4 ys hD4 e4 h4 m4 => ?_)
  · rw [List.getElem?_map] at hj4
    obtain ⟨g, hg, rfl⟩ := Option.map_eq_some_iff.mp hj4
    have g1 := mem_frs.mp (List.mem_of_getElem? hg)
    simp only [wipe]
    walk_at "sm"
    exact ⟨_, SqL.of (Same.trans e1 (Same.trans e4 wo_ex) _ _ h), _, at_of (j := g) rfl (vl_at hn g1.1), _, rfl, k4 _ _ (Same.refl _) ⟨g, hg, rfl⟩⟩
  · have ey := madeMap (by rw [List.length_map]) m4
    subst ey
    have e14 : Ex H H4 := Same.trans e1 (Same.trans e4 wo_ex)
    refine ⟨D4, (frs e ph).map fun g => decide (vl ns g + s + 13 ≤ 1350), rfl, SqL.of (by rw [h4, List.map_map]; rfl), _, rfl, iteB (fun _ => ?_) (fun _ => go H4 ns _ (bag.mono e14.wo) (e14 _ _ h) hn)⟩
    refine forLC (fun p xs H0 => xs = ((frs e ph).map fun g => V.int (g : Nat)) ∧ Ex H4 H0 ∧ H0 p = some (.lst xs) ∧ p ≠ l) (fun p xs j σ H' => xs = ((frs e ph).map fun g => V.int (g : Nat)) ∧ (∃ (x6 : Option V) (ns : List Int), σ = [some (.ref B), some (.ref l), x2, some (.int (e : Int)), some (.int (ph : Int)), some (.int s), x6] ∧ Bag K c cs (wo [l] H') B ∧ H' l = some (.lst (ns.map V.int)) ∧ ns.length = 32) ∧ wo [l] H' p = some (.lst xs)) (fun R r => ?_) (fun p xs H0 h => SqL.of h.2.2.1) (fun p xs H0 h => ⟨h.1, ⟨_, ns, rfl, (bag.mono e14.wo).mono h.2.1.wo, h.2.1 _ _ (e14 _ _ ‹H l = _›), hn⟩, by rw [wo_get (by rw [List.mem_singleton]; exact h.2.2.2)]; exact h.2.2.1⟩) (fun p xs j σ H' h => SqL.of (wo_ex _ _ h.2.2)) ?hs ?hd
    · walk_at "sm"
      refine ⟨e, ph, rfl, e0, fun p H' hp e' h' => r p _ H' ⟨rfl, e', h', fun z => ?_⟩⟩
      have := e14 _ _ h
      rw [← z, hp] at this
      cases this
    case hd =>
      rintro p xs σ H5 ⟨rfl, ⟨y6, ns5, rfl, b5, h5, n5⟩, _⟩
      exact go H5 ns5 _ b5 h5 n5
    case hs =>
      rintro p xs j x σ H5 hx ⟨rfl, ⟨y6, ns5, rfl, b5, h5, n5⟩, hp5⟩
      rw [List.getElem?_map] at hx
      obtain ⟨g, hg, rfl⟩ := Option.map_eq_some_iff.mp hx
      have g1 := mem_frs.mp (List.mem_of_getElem? hg)
      walk_at "sm"
      refine ⟨_, SqL.of h5, _, at_of (j := g) rfl (vl_at n5 g1.1), _, rfl, _, h5, g, ixN_nat (by rw [List.length_map]; omega), ?_⟩
      refine ⟨⟨?_, (ns5.set g (vl ns5 g + s + 13)), by rw [upd_same, List.map_set], by rw [List.length_set]; exact n5⟩, ?_⟩
      · rw [wo_upd (List.mem_singleton.mpr rfl)]
        exact b5
      · rw [wo_upd (List.mem_singleton.mpr rfl)]
        exact hp5
theorem rd__law_full : RD (sp__law_full K a) (t__law_full K a) N__law_full := by
  rintro vs H Q E ⟨B, c, cs, rfl, bag, q⟩
  show t__law_full K a _ [some (.ref B), none, none, none, none, none, none] H
  unfold t__law_full
  generalize hR : (tIfS (tB (tCB (rAll K) (tCons (tLc (iList K (tCall (sp__law_frames K a) [] E0 (tCons (tVar 3) (tCons (tVar 4) tNil)))) (gName 6) tYes (tOp rLeI (tOp rAddI (tOp rAddI (tOp (rIxL K) (tVar 1) (tVar 6)) (tVar 5)) (tC (.int 13))) (tC (.int 1350))) [6]) tNil))) (tFor (iList K (tCall (sp__law_frames K a) [] E0 (tCons (tVar 3) (tCons (tVar 4) tNil)))) (gName 6) (tAsg (tOp rAddI (tOp rAddI (tOp (rIxL K) (tVar 1) (tVar 6)) (tVar 5)) (tC (.int 13))) (gSub (tVar 1) (tVar 6) rSetL))) tNext) = R
  walk_at "sm"
  refine ⟨up1, fun l0 hl0 => ⟨l0, 32, [.int 0], rfl, rfl, upd_same, by decide, by decide, by show 32 ≤ sizeLine; decide, fun l hl1 => ?_⟩⟩
  have n1 := Ex.new hl0 (o := .lst [.int 0])
  have n2 := Ex.new hl1 (o := .lst (List.replicate (Int.toNat 32) [V.int 0]).flatten)
  have bag1 := bag.mono n1
  have lB : l ≠ B := fun y => bag1.there (y ▸ hl1)
  have hl2 : upd (upd H l0 (.lst [.int 0])) l (.lst (List.replicate (Int.toNat 32) [V.int 0]).flatten) l = some (.lst ((List.replicate 32 (0 : Int)).map V.int)) := by rw [upd_same]; rfl
  have bag2 : Bag K c cs (wo [l] (upd (upd H l0 (.lst [.int 0])) l (.lst (List.replicate (Int.toNat 32) [V.int 0]).flatten))) B := by
    rw [wo_upd (List.mem_singleton.mpr rfl), wo_off hl1]
    exact bag1
  generalize upd (upd H l0 (.lst [.int 0])) l (.lst (List.replicate (Int.toNat 32) [V.int 0]).flatten) = H2 at hl2 bag2
  refine forRC 2 (fun n j σ H' => (∃ (x2 x3 x4 x5 x6 : Option V) (ns : List Int), σ = [some (.ref B), some (.ref l), x2, x3, x4, x5, x6] ∧ Bag K c cs (wo [l] H') B ∧ H' l = some (.lst (ns.map V.int)) ∧ ns.length = 32)) (fun R rr => ?_) ?hs ?hd
  · walk_at "sm"
    refine ⟨up2, fun p hp => ?_⟩
    have m1 := Ex.new hp (o := .lst [.int 4, .int 60])
    have b3 := bag2.mono m1.wo
    have h3 := m1 _ _ hl2
    have pB : p ≠ B := fun y => (bag2.mono wo_ex).there (y ▸ hp)
    have hp3 : upd H2 p (.lst [.int 4, .int 60]) p = some (.lst ([4, 60].map V.int)) := upd_same
    generalize upd H2 p (.lst [.int 4, .int 60]) = H3 at b3 h3 hp3
    refine ⟨B, c, cs, 2, rfl, b3.mono wo_ex, by decide, by decide, fun i H4 i0 i1 bag4 o4 => ?_⟩
    obtain ⟨m, hm1, hm2⟩ := atI_ints (ns := [4, 60]) i0 i1
    have hm : 0 < m ∧ m ≤ 60 := by
      simp only [List.mem_cons, List.not_mem_nil, or_false] at hm1
      omega
    have b4 := b3.turned bag4 o4
    refine ⟨_, _, rfl, SqL.of ((o4 _ pB).trans hp3), _, hm2, ?_⟩
    refine ⟨B, c, cs, m, rfl, bag4, hm.1, Int.lt_of_le_of_lt (show m ≤ 60 by omega) (by decide), fun r H5 r0 r1 bag5 o5 => ?_⟩
    exact rr _ H5 (by omega) (by omega) ⟨_, _, _, _, _, _, rfl, b4.turned bag5 o5, (o5 _ lB).trans ((o4 _ lB).trans h3), by simp⟩
  case hd =>
    rintro n σ H3 ⟨x2, x3, x4, x5, x6, ns, rfl, bag3, h3, hn⟩
    walk_at "sm"
    refine ⟨_, .inl ⟨SqL.of h3, fun t ht => ?_⟩⟩
    have bag4 := (bag3.mono wo_ex).mono (Ex.new ht (o := .tup (ns.map V.int)))
    exact q t ns _ hn bag4 (sqT_offB bag4 (SqT.of upd_same))
  case hs =>
    rintro n j σ H3 hj ⟨x2, x3, x4, x5, x6, ns, rfl, bag3, h3, hn⟩
    walk_at "sm"
    refine ⟨by show 6 ≤ sizeLine; decide, fun p hp => ?_⟩
    have m1 := Ex.new hp (o := .lst [.int 1, .int 2, .int 4, .int 8, .int 16, .int 32])
    have b4 := bag3.mono m1.wo
    have h4 := m1 _ _ h3
    have pB : p ≠ B := fun y => (bag3.mono wo_ex).there (y ▸ hp)
    refine ⟨B, c, cs, p, _, rfl, b4.mono wo_ex, SqL.of (by rw [wo_get (by rw [List.mem_singleton]; exact pB)]; exact upd_same), by simp, by simp, fun x H5 hx bag5 o5 => ?_⟩
    have hx2 : ∃ e : Nat, x = .int e ∧ Pow2 e := by
      obtain ⟨y, hy, rfl⟩ := List.mem_map.mp (show x ∈ [(1 : Int), 2, 4, 8, 16, 32].map V.int from hx)
      obtain ⟨e, rfl, he⟩ := pow2_in hy
      exact ⟨e, rfl, he⟩
    obtain ⟨e, rfl, he⟩ := hx2
    have b5 := b4.turned bag5 o5
    have e0 := he.pos
    have e1 := he.le
    refine ⟨B, c, cs, e, rfl, bag5, by omega, Int.lt_of_le_of_lt (show (e : Int) ≤ 32 by omega) (by decide), fun ph H6 p0 p1 bag6 o6 => ?_⟩
    obtain ⟨ph, rfl⟩ : ∃ k : Nat, ph = k := ⟨ph.toNat, by omega⟩
    have b6 := b5.turned bag6 o6
    refine ⟨B, c, cs, 65, rfl, bag6, by decide, by decide, fun s H7 s0 s1 bag7 o7 => ?_⟩
    have b7 := b6.turned bag7 o7
    have h7 := (o7 _ lB).trans ((o6 _ lB).trans ((o5 _ lB).trans h4))
    subst hR
    refine full_go b7 h7 hn he ?_
    intro H8 ns8 y6 b8 h8 n8
    exact ⟨_, _, _, _, _, rfl, b8, ns8, h8, n8⟩
def goodF (n : Nat) (x : (List Int × List PyData) ⊕ List Int) : Prop := match x with
  | .inl (_, ps) => ps.length ≤ n ∧ ∀ d ∈ ps, ∃ e p, d = PsD e p
  | .inr F => F.length ≤ 32
theorem stepL_good {n : Nat} {x : (List Int × List PyData) ⊕ List Int} {e : En} (ok : e.ok = true) (h : goodF n x) : goodF (n + 1) (stepL x e) := by
  cases x with
  | inr F => exact h
  | inl y =>
    obtain ⟨ns, ps⟩ := y
    show goodF (n + 1) (if e.kind = "timed" then _ else _)
    by_cases c : e.kind = "timed"
    · rw [if_pos c]
      obtain ⟨_, _, m, hm, hm2, hp⟩ := timed_ok ok c
      rw [hm2]
      split
      · refine ⟨?_, fun d hd => ?_⟩
        · have := h.1
          rw [List.length_append]
          simp
          omega
        · rcases List.mem_append.mp hd with q | q
          · exact h.2 d q
          · exact ⟨e, _, List.mem_singleton.mp q⟩
      · show (fulls ns m).length ≤ 32
        unfold fulls
        rw [List.length_map, List.length_range]
        exact hp.le
    · rw [if_neg c]
      exact ⟨Nat.le_succ_of_le h.1, h.2⟩
theorem fold_good : ∀ {es : List En} {n : Nat} {x : (List Int × List PyData) ⊕ List Int}, (∀ e ∈ es, e.ok = true) → goodF n x → goodF (n + es.length) (es.foldl stepL x)
  | [], n, x, _, h => h
  | e :: es, n, x, ok, h => by
    have := fold_good (es := es) (fun e he => ok e (List.mem_cons_of_mem _ he)) (stepL_good (ok e List.mem_cons_self) h)
    rw [List.length_cons, show n + (es.length + 1) = n + 1 + es.length by omega]
    exact this
theorem letF_good {ns : List Int} {es : List En} (ok : ∀ e ∈ es, e.ok = true) : goodF es.length (letF ns es) := by
  have := fold_good (n := 0) (x := .inl (ns, [])) ok ⟨Nat.le_refl _, fun d hd => (List.not_mem_nil hd).elim⟩
  rwa [Nat.zero_add] at this
theorem ok_ps (e : En) (p : Nat) : okD 2 (PsD e p) := okTup 1 (by show 2 ≤ 1000; decide) (memC (okTup 0 (by show 2 ≤ 1000; decide) (memC (okInt 0 _) (mem1 (okStr 0 _)))) (mem1 (okInt 1 _)))
theorem ok_ints (n : Nat) {ns : List Int} (h : ns.length ≤ 1000) : okD (n + 1) (.list (ns.map PyData.int)) := okLst n (by rw [List.length_map]; exact h) fun d hd => by
  obtain ⟨i, _, rfl⟩ := List.mem_map.mp hd
  exact okInt n i
theorem ok_said {ns : List Int} {s : Int} {e : Nat} (he : Pow2 e) : okD 4 (saidD ns s e) := by
  unfold saidD
  split
  · exact okInt 4 _
  · exact ok_ints 3 (by unfold fulls; rw [List.length_map, List.length_range]; have := he.le; omega)
theorem ok_out {x : (List Int × List PyData) ⊕ List Int} {n : Nat} (hn : n ≤ 100) (g : goodF n x) (h : ∀ ns ps, x = .inl (ns, ps) → ns.length ≤ 1000) : okD 4 (outD x) := by
  cases x with
  | inr F => exact ok_ints 3 (Nat.le_trans g (by decide))
  | inl y =>
    obtain ⟨ns, ps⟩ := y
    refine okTup 3 (by show 2 ≤ 1000; decide) (memC (okIntsT 2 (h _ _ rfl)) (mem1 (okLst 2 (Nat.le_trans g.1 (by omega)) fun d hd => ?_)))
    obtain ⟨e, p, rfl⟩ := g.2 d hd
    exact ok_ps e p
theorem mapW {ns : List Int} {c : Int} {e ph : Nat} {ys : List V} {H : Hp} (hl : ns.length = 32) (h : Made (ns.map V.int).length (fun j v _ => v = .int (ns.getD j 0 + if j % e = ph then c else 0)) ys H) : ys = (addL ns c e ph 32).map V.int := by
  rw [h.ints, List.length_map, hl]
  unfold addL
  congr 1
  refine List.map_congr_left fun i hi => ?_
  have := List.mem_range.mp hi
  by_cases h : i % e = ph
  · rw [if_pos h, if_pos ⟨h, this⟩]
  · rw [if_neg h, if_neg fun z => h z.1]
/-- where the law stands behind some endpoints -/
def St2 (K : PySem.W.Frag) (l : Addr) (H : Hp) (v7 v9 : V) (n : Nat) (x : (List Int × List PyData) ⊕ List Int) : Prop := match x with
  | .inl (ns, ps) => v9 = .non ∧ ns.length = 32 ∧ ps.length ≤ n ∧ ∃ t ys, v7 = .ref t ∧ SqT K (wo [l] H) t (ns.map V.int) ∧ H l = some (.lst ys) ∧ DpAll K (wo [l] H) ys ps
  | .inr F => Dp K H v9 (.list (F.map PyData.int))
theorem let_go {D : Ends} {H : Hp} {p B t pe l t' : Addr} {e : En} {n : Nat} {ns' : List Int} {ps : List PyData} {ys : List V} {x3 x9 y13 : Option V} (hT : SqT K (wo [l] H) t' (ns'.map V.int)) (hn : ns'.length = 32) (h1 : H l = some (.lst ys)) (hP : DpAll K (wo [l] H) ys ps) (hy : ys.length ≤ 100) (hp : Pow2 n) (hev : e.every = n)
    (s1 : 1 ≤ e.size) (s2 : e.size ≤ 64)
    (goF : 1350 < leastM ns' n + (e.size + 13) → ∀ v H', Ex H H' → Dp K H' v (.list ((fulls ns' n).map PyData.int)) → D.nx [some (.ref p), some (.ref B), some (.ref t), x3, some (.int e.every), some (.int e.size), some (.ref pe), some (.ref t'), some (.ref l), some v, some (.int e.n), some (.str e.way), some (.str e.kind), some v, none, none] H')
    (go : leastM ns' n + (e.size + 13) ≤ 1350 → ∀ t2 H' zs y13, Ex (wo [l] H) (wo [l] H') → SqT K (wo [l] H') t2 ((addL ns' (e.size + 13) n (phs ns' n) 32).map V.int) → H' l = some (.lst zs) → DpAll K (wo [l] H') zs (ps ++ [PsD e (phs ns' n)]) → D.nx [some (.ref p), some (.ref B), some (.ref t), x3, some (.int e.every), some (.int e.size), some (.ref pe), some (.ref t2), some (.ref l), x9, some (.int e.n), some (.str e.way), some (.str e.kind), y13, none, none] H') :
    (tSeq (tAsg (tCall (sp__law_phase K a) [] E0 (tCons (tVar 7) (tCons (tVar 5) (tCons (tVar 4) tNil)))) (gName 13))
    (tIfS (tB (tCB (rIsi K) (tCons (tVar 13) (tCons (tC (.ty "list")) tNil)))) (tAsg (tVar 13) (gName 9)) (tSeq (tAsg (tCB (rTupleOf K) (tCons (tLc (iEnumT K (tCons (tVar 7) tNil)) (gTup K 2 (gCons (gName 14) (gCons (gName 15) gNil))) tYes (tOp rAddI (tVar 15) (tOp rMulI (tOp rAddI (tVar 5) (tC (.int 13))) (tCB rInt1 (tCons (tOp rEq (tOp rModI (tVar 14) (tVar 4)) (tVar 13)) tNil)))) [14, 15]) tNil)) (gName 7))
    (tDrop (tBM K "list" rAppend (tVar 8) (tCons (tTup (tCons (tTup (tCons (tVar 10) (tCons (tVar 11) tNil))) (tCons (tVar 13) tNil))) tNil)))))) D [some (.ref p), some (.ref B), some (.ref t), x3, some (.int e.every), some (.int e.size), some (.ref pe), some (.ref t'), some (.ref l), x9, some (.int e.n), some (.str e.way), some (.str e.kind), y13, none, none] H := by
  have e0 := hp.pos
  walk_at "sm"
  refine ⟨t', ns', e.size, n, by rw [hev], wo_ex.sqT hT, hn, hp, fun v H1 e1 d1 => ?_⟩
  by_cases ok : leastM ns' n + (e.size + 13) ≤ 1350
  · have z : saidD ns' e.size n = .int (phs ns' n : Nat) := if_pos ok
    rw [z] at d1
    cases d1.intE
    refine isi d1 (by decide) ?_
    walk_at "sm"
    refine iteN rfl ?_
    have hS1 := Ex.sqT e1 (wo_ex.sqT hT)
    refine lcET 14 15 (fun j v _ => v = .int (ns'.getD j 0 + if j % n = phs ns' n then (e.size + 13) else 0)) (fun R r => ⟨_, rfl, r⟩) hS1 (by rw [List.length_map, hn]; decide) (fun _ _ _ _ _ h => h) (fun _ _ => rfl) (fun i x D2 H2 Q1 hi hD nD e2 q1 => ?_) (fun D2 H2 zs hD e2 hz m2 => ?_)
    · simp only [wipe]
      rw [List.getElem?_map] at hi
      obtain ⟨y, hy', rfl⟩ := Option.map_eq_some_iff.mp hi
      walk_at "sm"
      rw [hev]
      refine ⟨by omega, .inr ⟨cmulL ⟨by omega, by omega⟩, q1 _ _ (Same.refl _) ?_⟩⟩
      rw [List.getD_eq_getElem?_getD, hy']
      have hm : (((i : Int) % (n : Int)) = ((phs ns' n : Nat) : Int)) ↔ i % n = phs ns' n := by rw [← Int.natCast_emod, Int.ofNat_inj]
      by_cases hm' : i % n = phs ns' n
      · rw [if_pos hm', if_pos (decide_eq_true (hm.mpr hm'))]
        simp
      · rw [if_neg hm', if_neg (fun z => hm' (hm.mp (of_decide_eq_true z)))]
        simp
    · have ey := mapW hn m2
      subst ey
      clear m2
      have h2' := e2
      refine ⟨D2, rfl, _, .inl ⟨SqL.of hz, fun t2 ht2 => ?_⟩⟩
      have e13 : Ex H1 (upd H2 t2 (.tup ((addL ns' (e.size + 13) n (phs ns' n) 32).map V.int))) := Same.trans e2 (Same.trans wo_ex (Ex.new ht2))
      have z13 : SqT K (upd H2 t2 (.tup ((addL ns' (e.size + 13) n (phs ns' n) 32).map V.int))) t2 ((addL ns' (e.size + 13) n (phs ns' n) 32).map V.int) := SqT.of upd_same
      generalize upd H2 t2 (.tup ((addL ns' (e.size + 13) n (phs ns' n) 32).map V.int)) = H3 at e13 z13
      simp only [tBM, rAppend]
      walk_at "sm"
      have hl3 := e13 _ _ (e1 _ _ h1)
      refine ⟨.inl ⟨rfl, _, SqL.of hl3⟩, up2, fun p1 hp1 => ⟨up2, fun p2 hp2 => ?_⟩⟩
      have m1 := Ex.new hp1 (o := .tup [V.int e.n, .str e.way])
      have m2 := Ex.new hp2 (o := .tup [V.ref p1, V.int ((phs ns' n : Nat) : Int)])
      have hpair : Dp K (upd (upd H3 p1 (.tup [V.int e.n, .str e.way])) p2 (.tup [V.ref p1, V.int ((phs ns' n : Nat) : Int)])) (.ref p2) (PsD e (phs ns' n)) :=
        Dp.newT hp2 (.cons (Dp.newT hp1 (.cons (.int _) (.cons (.str _) .nil))) (.cons (.int _) .nil))
      have e14 : Ex H (upd (upd H3 p1 (.tup [V.int e.n, .str e.way])) p2 (.tup [V.ref p1, V.int ((phs ns' n : Nat) : Int)])) := Same.trans e1 (Same.trans e13 (Same.trans m1 m2))
      have hT4 := Ex.sqT (Same.trans m1 m2) z13
      generalize upd (upd H3 p1 (.tup [V.int e.n, .str e.way])) p2 (.tup [V.ref p1, V.int ((phs ns' n : Nat) : Int)]) = H4 at hpair e14 hT4
      have hl4 := e14 _ _ h1
      have up : Ex (wo [l] H4) (wo [l] (upd H4 l (.lst (ys ++ [.ref p2])))) := by rw [wo_upd (List.mem_singleton.mpr rfl)]; exact Same.refl _
      refine ⟨ys, hl4, Nat.lt_of_le_of_lt hy (by decide), ?_⟩
      exact go ok t2 _ _ _ (Same.trans (Ex.wo e14) up) (Ex.sqT up (sqT_offL hl4 hT4)) upd_same (Ex.dpAll up _ _ (DpAll.app (Ex.dpAll (Ex.wo e14) _ _ hP) (.cons (Dp.offL hl4 _ _ rfl hpair) .nil)))
  · have z : saidD ns' e.size n = .list ((fulls ns' n).map PyData.int) := if_neg ok
    rw [z] at d1
    refine isi d1 (by decide) ?_
    walk_at "sm"
    exact iteY rfl (goF (by omega) v H1 e1 d1)
theorem rd_law : RD (sp_law K a) (t_law K a) N_law := by
  rintro vs H Q E ⟨p, cs, rfl, hS, hl, q⟩
  show t_law K a _ [some (.ref p), none, none, none, none, none, none, none, none, none, none, none, none, none, none, none] H
  unfold t_law
  generalize hR : (tSeq (tAsg (tCall (sp__law_phase K a) [] E0 (tCons (tVar 7) (tCons (tVar 5) (tCons (tVar 4) tNil)))) (gName 13))
    (tIfS (tB (tCB (rIsi K) (tCons (tVar 13) (tCons (tC (.ty "list")) tNil)))) (tAsg (tVar 13) (gName 9)) (tSeq (tAsg (tCB (rTupleOf K) (tCons (tLc (iEnumT K (tCons (tVar 7) tNil)) (gTup K 2 (gCons (gName 14) (gCons (gName 15) gNil))) tYes (tOp rAddI (tVar 15) (tOp rMulI (tOp rAddI (tVar 5) (tC (.int 13))) (tCB rInt1 (tCons (tOp rEq (tOp rModI (tVar 14) (tVar 4)) (tVar 13)) tNil)))) [14, 15]) tNil)) (gName 7))
    (tDrop (tBM K "list" rAppend (tVar 8) (tCons (tTup (tCons (tTup (tCons (tVar 10) (tCons (tVar 11) tNil))) (tCons (tVar 13) tNil))) tNil)))))) = R
  walk_at "sm"
  refine ⟨p, cs, rfl, hS, hl, fun B c H1 hB e bag => ?_⟩
  walk_at "sm"
  refine ⟨B, c, cs, rfl, bag, fun t ns H2 hn bag2 ht => ?_⟩
  walk_at "sm"
  refine forR (n := 5) 3 (fun j σ H' => (∃ (x3 x4 x5 : Option V), σ = [some (.ref p), some (.ref B), some (.ref t), x3, x4, x5, none, none, none, none, none, none, none, none, none, none]) ∧ Bag K c cs H' B ∧ SqT K (wo [B] H') t (ns.map V.int)) (fun R r => r) (by decide) (by decide) ⟨⟨_, _, _, rfl⟩, bag2, ht⟩ ?hs ?hd
  case hs =>
    rintro j σ H3 hj ⟨⟨x3, x4, x5, rfl⟩, bag3, ht3⟩
    walk_at "sm"
    refine ⟨by show 6 ≤ sizeLine; decide, fun p1 hp1 => ?_⟩
    have pB : p1 ≠ B := fun y => bag3.there (y ▸ hp1)
    have m1 := Ex.new hp1 (o := .lst [.int 1, .int 2, .int 4, .int 8, .int 16, .int 32])
    refine ⟨B, c, cs, p1, _, rfl, bag3.mono m1, SqL.of (by rw [wo_get (by rw [List.mem_singleton]; exact pB)]; exact upd_same), by simp, by simp, fun x H5 hx bag5 o5 => ?_⟩
    have hx2 : ∃ e : Nat, x = .int e ∧ Pow2 e := by
      obtain ⟨y, hy, rfl⟩ := List.mem_map.mp (show x ∈ [(1 : Int), 2, 4, 8, 16, 32].map V.int from hx)
      obtain ⟨e, rfl, he⟩ := pow2_in hy
      exact ⟨e, rfl, he⟩
    obtain ⟨e, rfl, he⟩ := hx2
    refine ⟨B, c, cs, 64, rfl, bag5, by decide, by decide, fun z H6 z0 z1 bag6 o6 => ⟨_, rfl, ?_⟩⟩
    have ht6 := Ex.sqT (Same.trans m1.wo (Same.trans (off_wo o5) (off_wo o6))) ht3
    have tt6 := wo_ex.sqT ht6
    refine ⟨t, ns, 1 + z, e, rfl, tt6, hn, by omega, by omega, he, fun v1 H7 e7 d7 => ?_⟩
    refine ⟨t, ns, 1 + z, e, rfl, Ex.sqT e7 tt6, hn, he, fun v2 H8 e8 d8 => ?_⟩
    refine ⟨v1, v2, _, rfl, Ex.dp e8 _ _ d7, d8, ok_said he, fun H9 e9 => ⟨true, rfl, iteF ?_⟩⟩
    have e69 := Same.trans e7 (Same.trans e8 e9)
    refine ⟨?_, bag6.mono e69, Ex.sqT (Ex.wo e69) ht6⟩
    exact ⟨_, rfl⟩
  case hd =>
    rintro σ H3 ⟨⟨x3, x4, x5, rfl⟩, bag3, ht3⟩
    walk_at "sm"
    refine ⟨B, c, cs, 8, rfl, by decide, by decide, bag3, fun v es H4 les hges bag4 e4 hv => ?_⟩
    have ok : ∀ e ∈ es, e.ok = true := fun e he => by
      obtain ⟨i, hi, e'⟩ := List.mem_iff_getElem.mp he
      obtain ⟨sp, _, _, h⟩ := hges
      exact (h i e (by rw [List.getElem?_eq_getElem hi, e'])).1
    have les' : es.length ≤ 8 := les
    have ht4 := wo_ex.sqT (Ex.sqT e4 ht3)
    have hv4 := Ex.dp wo_ex _ _ hv
    walk_at "sm"
    refine ⟨Nat.zero_le _, fun l hl0 => ?_⟩
    have n1 := Ex.new hl0 (o := .lst [])
    have hl1 : upd H4 l (.lst []) l = some (.lst []) := upd_same
    obtain ⟨pe, xs, rfl, hX, hA⟩ := hv4.tupE
    have hlen : xs.length = es.length := by rw [DpAll.len hA, List.length_map]
    refine forTg (a := pe) (xs := xs) (fun j σ H' => (∃ (v7 v9 : V) (x3 x4 x5 x10 x11 x12 x13 : Option V), σ = [some (.ref p), some (.ref B), some (.ref t), x3, x4, x5, some (.ref pe), some v7, some (.ref l), some v9, x10, x11, x12, x13, none, none] ∧ St2 K l H' v7 v9 j ((es.take j).foldl stepL (.inl (ns, [])))) ∧ Ex H4 (wo [l] H')) (fun R r => ⟨_, rfl, r⟩) (n1.sqT hX)
      ⟨⟨_, _, _, _, _, _, _, _, _, rfl, rfl, hn, Nat.le_refl _, t, [], rfl, sqT_offL hl1 (n1.sqT ht4), hl1, .nil⟩, n1.woN (fun b hb => by rw [List.mem_singleton.mp hb]; exact hl0)⟩ (fun j σ H' h => Ex.sqT (Same.trans h.2 wo_ex) hX) ?hs2 ?hd2
    case hd2 =>
      rintro σ H5 ⟨⟨v7, v9, y3, y4, y5, y10, y11, y12, y13, rfl, hst⟩, e5⟩
      rw [List.take_of_length_le (by omega)] at hst
      have e45 := Same.trans e5 wo_ex
      walk_at "sm"
      refine ⟨t, .ref pe, ns, es, rfl, Ex.sqT e45 ht4, hn, .tup (Ex.sqT e45 hX) (Ex.dpAll e45 _ _ hA), ok, by omega, fun w H6 e6 h6 => ?_⟩
      have hst' : St2 K l H5 v7 v9 xs.length (letF ns es) := hst
      have gd := letF_good (ns := ns) ok
      have h5 : Ex H4 H6 := Same.trans e45 e6
      cases hz : letF ns es with
      | inr F =>
        rw [hz] at hst' h6 gd
        obtain ⟨q9, zs, rfl, z1, z2⟩ := (show Dp K H5 v9 (.list (F.map PyData.int)) from hst').lstE
        refine iteY (by rw [decide_eq_false (fun z => nomatch z)]; rfl) ⟨w, .ref q9, _, rfl, h6, .lst (Ex.sqL e6 z1) (Ex.dpAll e6 _ _ z2), ok_out (n := es.length) (by omega) gd (fun _ _ z => nomatch z), fun H7 _ => q H7⟩
      | inl y =>
        obtain ⟨ns', ps⟩ := y
        rw [hz] at hst' h6 gd
        obtain ⟨rfl, hn', hpl, t', ys, rfl, g1, g2, g3⟩ := hst'
        refine iteN (by rw [decide_eq_true rfl]; rfl) ⟨up2, fun p2 hp2 => ?_⟩
        have m2 := Ex.new hp2 (o := .tup [V.ref t', V.ref l])
        have e57 := Same.trans e6 m2
        refine ⟨w, .ref p2, _, rfl, Ex.dp m2 _ _ h6, .tup (SqT.of upd_same) (.cons (Dp.intsT (Ex.sqT (Same.trans wo_ex e57) g1)) (.cons (.lst (SqL.of (e57 _ _ g2)) (Ex.dpAll (Same.trans wo_ex e57) _ _ g3)) .nil)), ok_out (n := es.length) (by omega) gd (fun a b z => ?_), fun H7 _ => q H7⟩
        cases z
        rw [hn']
        decide
    case hs2 =>
      rintro j x σ H5 hx ⟨⟨v7, v9, y3, y4, y5, y10, y11, y12, y13, rfl, hst⟩, e5⟩
      obtain ⟨e, he, hv⟩ := endsGet hA hx
      have hj : j < es.length := (List.getElem?_eq_some_iff.mp he).1
      have oke := ok e (List.mem_of_getElem? he)
      obtain ⟨pv, rfl, hE⟩ := en_open (Ex.dp (Same.trans e5 wo_ex) _ _ hv)
      have hf2 := fold_take (x := .inl (ns, [])) he
      generalize hz : (es.take j).foldl stepL (.inl (ns, [])) = z at hst hf2
      walk_at "sm"
      refine ⟨_, hE, rfl, _, _, rfl, _, _, rfl, _, _, rfl, _, _, rfl, _, _, rfl, rfl, ?_⟩
      walk_at "sm"
      have skip : (if e.kind = "timed" then (match z with | .inl _ => false | .inr _ => true) else true) = true → stepL z e = z := fun hz => by
        cases z with
        | inr F => rfl
        | inl y =>
          by_cases c : e.kind = "timed"
          · rw [if_pos c] at hz
            cases hz
          · exact if_neg c
      have mono : ∀ {z}, St2 K l H5 v7 v9 j z → St2 K l H5 v7 v9 (j + 1) z := fun {z} h => by
        cases z with
        | inr F => exact h
        | inl y =>
          obtain ⟨a1, a2, a3, a4⟩ := h
          exact ⟨a1, a2, by omega, a4⟩
      refine iteP (fun ck => iteP (fun c9 => ?_) (fun c9 => ?_)) (fun ck => ?_)
      · cases z with
        | inr F =>
          obtain ⟨q9, zs, rfl, z1, z2⟩ := (show Dp K H5 v9 (.list (F.map PyData.int)) from hst).lstE
          cases c9
        | inl y =>
          obtain ⟨ns', ps⟩ := y
          obtain ⟨rfl, hn', hpl, t', ys, rfl, g1, g2, g3⟩ := hst
          obtain ⟨s1, s2, n, hev, hev2, hp⟩ := timed_ok oke ck
          have hst' : stepL (.inl (ns', ps)) e = if leastM ns' n + (e.size + 13) ≤ 1350 then .inl (addL ns' (e.size + 13) n (phs ns' n) 32, ps ++ [PsD e (phs ns' n)]) else .inr (fulls ns' n) := by
            show (if e.kind = "timed" then _ else _) = _
            rw [if_pos ck, hev2]
          rw [hst'] at hf2
          subst hR
          refine let_go g1 hn' g2 g3 (by rw [DpAll.len g3]; omega) hp hev s1 s2 ?_ ?_
          · intro no v H6 e6 d6
            rw [if_neg (by omega)] at hf2
            exact ⟨⟨_, _, _, _, _, _, _, _, _, rfl, by rw [hf2]; exact d6⟩, Same.trans e5 e6.wo⟩
          · intro okr t2 H6 zs y13 e6 h6 hl6 d6
            rw [if_pos okr] at hf2
            exact ⟨⟨_, _, _, _, _, _, _, _, _, rfl, by rw [hf2]; exact ⟨rfl, addL_len _ _ _ _ _, by rw [List.length_append]; simp; omega, t2, zs, rfl, h6, hl6, d6⟩⟩, Same.trans e5 e6⟩
      · refine ⟨⟨v7, v9, _, _, _, _, _, _, _, ⟨rfl, rfl, rfl, rfl, rfl, rfl, rfl, rfl, rfl⟩, ?_⟩, e5⟩
        rw [hf2, skip ?_]
        · exact mono hst
        · rw [if_pos ck]
          cases z with
          | inr F => rfl
          | inl y => exact absurd hst.1 c9
      · refine ⟨⟨v7, v9, _, _, _, _, _, _, _, ⟨rfl, rfl, rfl, rfl, rfl, rfl, rfl, rfl, rfl⟩, ?_⟩, e5⟩
        rw [hf2, skip (if_neg ck)]
        exact mono hst
end
end My

namespace My
open PySem PySem.Spec PyProof.Rows L2
section
variable {P : Program} {w : World} {K : PySem.W.Frag} {mg : Str → Option Value} {base : Heap} {a : Ad}
theorem ok_is_number (T : Txt K mg a)
    (rd : RD (sp_is_number K a) (t_is_number K a) N_is_number) :
    FnOk a.p a.w K mg base CX0 1 a.f_is_number a.d_is_number P_is_number (sp_is_number K a) := by
  have nd := sc_is_number.nd
  refine T.F_is_number.ok sc_is_number (fun vs H Q E h => by first | (obtain ⟨rfl, _⟩ := h; rfl; done) | (obtain ⟨_, rfl, _⟩ := h; rfl; done) | (obtain ⟨_, _, rfl, _⟩ := h; rfl; done) | (obtain ⟨_, _, _, rfl, _⟩ := h; rfl; done) | (obtain ⟨_, _, _, _, rfl, _⟩ := h; rfl; done) | (obtain ⟨_, _, _, _, _, rfl, _⟩ := h; rfl; done) | (obtain ⟨_, _, _, _, _, _, rfl, _⟩ := h; rfl; done) | (obtain ⟨_, _, _, _, _, _, _, rfl, _⟩ := h; rfl; done) | (obtain ⟨_, _, _, _, _, _, _, _, rfl, _⟩ := h; rfl; done) | (obtain ⟨_, _, _, _, _, _, _, _, _, rfl, _⟩ := h; rfl; done) | (obtain ⟨_, _, _, _, _, _, _, _, _, _, rfl, _⟩ := h; rfl; done) | (obtain ⟨_, _, _, _, _, _, _, _, _, _, _, rfl, _⟩ := h; rfl; done) | (obtain ⟨_, _, _, _, _, _, _, _, _, _, _, _, rfl, _⟩ := h; rfl; done) | (obtain ⟨_, _, _, _, _, _, _, _, _, _, _, _, _, rfl, _⟩ := h; rfl; done) | (obtain ⟨_, _, _, _, _, _, _, _, _, _, _, _, _, _, rfl, _⟩ := h; rfl; done) | (rcases h with ⟨_, rfl, _⟩ | ⟨_, rfl, _⟩ <;> rfl; done) | (rcases h with ⟨_, rfl, _⟩ | ⟨_, _, rfl, _⟩ <;> rfl; done) | (rcases h with ⟨_, rfl, _⟩ | ⟨_, _, _, rfl, _⟩ <;> rfl; done) | (rcases h with ⟨_, rfl, _⟩ | ⟨_, _, _, _, rfl, _⟩ <;> rfl; done) | (rcases h with ⟨_, rfl, _⟩ | ⟨_, _, _, _, _, rfl, _⟩ <;> rfl; done) | (rcases h with ⟨_, rfl, _⟩ | ⟨_, _, _, _, _, _, rfl, _⟩ <;> rfl; done) | (rcases h with ⟨_, _, rfl, _⟩ | ⟨_, rfl, _⟩ <;> rfl; done) | (rcases h with ⟨_, _, rfl, _⟩ | ⟨_, _, rfl, _⟩ <;> rfl; done) | (rcases h with ⟨_, _, rfl, _⟩ | ⟨_, _, _, rfl, _⟩ <;> rfl; done) | (rcases h with ⟨_, _, rfl, _⟩ | ⟨_, _, _, _, rfl, _⟩ <;> rfl; done) | (rcases h with ⟨_, _, rfl, _⟩ | ⟨_, _, _, _, _, rfl, _⟩ <;> rfl; done) | (rcases h with ⟨_, _, rfl, _⟩ | ⟨_, _, _, _, _, _, rfl, _⟩ <;> rfl; done) | (rcases h with ⟨_, _, _, rfl, _⟩ | ⟨_, rfl, _⟩ <;> rfl; done) | (rcases h with ⟨_, _, _, rfl, _⟩ | ⟨_, _, rfl, _⟩ <;> rfl; done) | (rcases h with ⟨_, _, _, rfl, _⟩ | ⟨_, _, _, rfl, _⟩ <;> rfl; done) | (rcases h with ⟨_, _, _, rfl, _⟩ | ⟨_, _, _, _, rfl, _⟩ <;> rfl; done) | (rcases h with ⟨_, _, _, rfl, _⟩ | ⟨_, _, _, _, _, rfl, _⟩ <;> rfl; done) | (rcases h with ⟨_, _, _, rfl, _⟩ | ⟨_, _, _, _, _, _, rfl, _⟩ <;> rfl; done) | (rcases h with ⟨_, _, _, _, rfl, _⟩ | ⟨_, rfl, _⟩ <;> rfl; done) | (rcases h with ⟨_, _, _, _, rfl, _⟩ | ⟨_, _, rfl, _⟩ <;> rfl; done) | (rcases h with ⟨_, _, _, _, rfl, _⟩ | ⟨_, _, _, rfl, _⟩ <;> rfl; done) | (rcases h with ⟨_, _, _, _, rfl, _⟩ | ⟨_, _, _, _, rfl, _⟩ <;> rfl; done) | (rcases h with ⟨_, _, _, _, rfl, _⟩ | ⟨_, _, _, _, _, rfl, _⟩ <;> rfl; done) | (rcases h with ⟨_, _, _, _, rfl, _⟩ | ⟨_, _, _, _, _, _, rfl, _⟩ <;> rfl; done) | (rcases h with ⟨_, _, _, _, _, rfl, _⟩ | ⟨_, rfl, _⟩ <;> rfl; done) | (rcases h with ⟨_, _, _, _, _, rfl, _⟩ | ⟨_, _, rfl, _⟩ <;> rfl; done) | (rcases h with ⟨_, _, _, _, _, rfl, _⟩ | ⟨_, _, _, rfl, _⟩ <;> rfl; done) | (rcases h with ⟨_, _, _, _, _, rfl, _⟩ | ⟨_, _, _, _, rfl, _⟩ <;> rfl; done) | (rcases h with ⟨_, _, _, _, _, rfl, _⟩ | ⟨_, _, _, _, _, rfl, _⟩ <;> rfl; done) | (rcases h with ⟨_, _, _, _, _, rfl, _⟩ | ⟨_, _, _, _, _, _, rfl, _⟩ <;> rfl; done) | (rcases h with ⟨_, _, _, _, _, _, rfl, _⟩ | ⟨_, rfl, _⟩ <;> rfl; done) | (rcases h with ⟨_, _, _, _, _, _, rfl, _⟩ | ⟨_, _, rfl, _⟩ <;> rfl; done) | (rcases h with ⟨_, _, _, _, _, _, rfl, _⟩ | ⟨_, _, _, rfl, _⟩ <;> rfl; done) | (rcases h with ⟨_, _, _, _, _, _, rfl, _⟩ | ⟨_, _, _, _, rfl, _⟩ <;> rfl; done) | (rcases h with ⟨_, _, _, _, _, _, rfl, _⟩ | ⟨_, _, _, _, _, rfl, _⟩ <;> rfl; done) | (rcases h with ⟨_, _, _, _, _, _, rfl, _⟩ | ⟨_, _, _, _, _, _, rfl, _⟩ <;> rfl; done) | (rcases h with ⟨_, rfl, _⟩ | ⟨_, _, rfl, _⟩ <;> rfl) | (rcases h with ⟨_, rfl, _⟩ | ⟨_, rfl, _⟩ <;> rfl) | (rcases h with h | h | h <;> (first | (obtain ⟨rfl, _⟩ := h; rfl; done) | (obtain ⟨_, rfl, _⟩ := h; rfl; done) | (obtain ⟨_, _, rfl, _⟩ := h; rfl; done) | (obtain ⟨_, _, _, rfl, _⟩ := h; rfl; done) | (obtain ⟨_, _, _, _, rfl, _⟩ := h; rfl; done) | (obtain ⟨_, _, _, _, _, rfl, _⟩ := h; rfl; done) | (obtain ⟨_, _, _, _, _, _, rfl, _⟩ := h; rfl; done) | (obtain ⟨_, _, _, _, _, _, _, rfl, _⟩ := h; rfl; done) | (obtain ⟨_, _, _, _, _, _, _, _, rfl, _⟩ := h; rfl; done) | (obtain ⟨_, _, _, _, _, _, _, _, _, rfl, _⟩ := h; rfl; done) | (obtain ⟨_, _, _, _, _, _, _, _, _, _, rfl, _⟩ := h; rfl; done) | (obtain ⟨_, _, _, _, _, _, _, _, _, _, _, rfl, _⟩ := h; rfl; done) | (obtain ⟨_, _, _, _, _, _, _, _, _, _, _, _, rfl, _⟩ := h; rfl; done) | (obtain ⟨_, _, _, _, _, _, _, _, _, _, _, _, _, rfl, _⟩ := h; rfl; done) | (obtain ⟨_, _, _, _, _, _, _, _, _, _, _, _, _, _, rfl, _⟩ := h; rfl; done)))) (fun cdv A outer s H vs Q E hr h => ⟨t_is_number K a, ?_, rd vs H Q E h⟩)
  exact (pss_one (ps_ret (pe_and (pe_callB call_isi (by rfl) T.n_isinstance (by decide +kernel) (pa_cons (pv 0) (pa_cons (pe_bltn (v := .ty "int") rfl T.n_int (by decide +kernel) rfl) pa_nil))) (pe_one (pe_chain op_le op_le (pv 1) (pv 0) (pv 2))))))
theorem ok_need_number (T : Txt K mg a)
    (G_is_number : FnOk a.p a.w K mg base CX0 1 a.f_is_number a.d_is_number P_is_number (sp_is_number K a))
    (rd : RDX (sp_need_number K a) (t_need_number K a) N_need_number) :
    FnOk a.p a.w K mg base (L2.CX a.p a.w) 2 a.f_need_number a.d_need_number P_need_number (sp_need_number K a) := by
  have nd := sc_need_number.nd
  refine T.F_need_number.okX sc_need_number (fun vs H Q E h => by first | (obtain ⟨rfl, _⟩ := h; rfl; done) | (obtain ⟨_, rfl, _⟩ := h; rfl; done) | (obtain ⟨_, _, rfl, _⟩ := h; rfl; done) | (obtain ⟨_, _, _, rfl, _⟩ := h; rfl; done) | (obtain ⟨_, _, _, _, rfl, _⟩ := h; rfl; done) | (obtain ⟨_, _, _, _, _, rfl, _⟩ := h; rfl; done) | (obtain ⟨_, _, _, _, _, _, rfl, _⟩ := h; rfl; done) | (obtain ⟨_, _, _, _, _, _, _, rfl, _⟩ := h; rfl; done) | (obtain ⟨_, _, _, _, _, _, _, _, rfl, _⟩ := h; rfl; done) | (obtain ⟨_, _, _, _, _, _, _, _, _, rfl, _⟩ := h; rfl; done) | (obtain ⟨_, _, _, _, _, _, _, _, _, _, rfl, _⟩ := h; rfl; done) | (obtain ⟨_, _, _, _, _, _, _, _, _, _, _, rfl, _⟩ := h; rfl; done) | (obtain ⟨_, _, _, _, _, _, _, _, _, _, _, _, rfl, _⟩ := h; rfl; done) | (obtain ⟨_, _, _, _, _, _, _, _, _, _, _, _, _, rfl, _⟩ := h; rfl; done) | (obtain ⟨_, _, _, _, _, _, _, _, _, _, _, _, _, _, rfl, _⟩ := h; rfl; done) | (rcases h with ⟨_, rfl, _⟩ | ⟨_, rfl, _⟩ <;> rfl; done) | (rcases h with ⟨_, rfl, _⟩ | ⟨_, _, rfl, _⟩ <;> rfl; done) | (rcases h with ⟨_, rfl, _⟩ | ⟨_, _, _, rfl, _⟩ <;> rfl; done) | (rcases h with ⟨_, rfl, _⟩ | ⟨_, _, _, _, rfl, _⟩ <;> rfl; done) | (rcases h with ⟨_, rfl, _⟩ | ⟨_, _, _, _, _, rfl, _⟩ <;> rfl; done) | (rcases h with ⟨_, rfl, _⟩ | ⟨_, _, _, _, _, _, rfl, _⟩ <;> rfl; done) | (rcases h with ⟨_, _, rfl, _⟩ | ⟨_, rfl, _⟩ <;> rfl; done) | (rcases h with ⟨_, _, rfl, _⟩ | ⟨_, _, rfl, _⟩ <;> rfl; done) | (rcases h with ⟨_, _, rfl, _⟩ | ⟨_, _, _, rfl, _⟩ <;> rfl; done) | (rcases h with ⟨_, _, rfl, _⟩ | ⟨_, _, _, _, rfl, _⟩ <;> rfl; done) | (rcases h with ⟨_, _, rfl, _⟩ | ⟨_, _, _, _, _, rfl, _⟩ <;> rfl; done) | (rcases h with ⟨_, _, rfl, _⟩ | ⟨_, _, _, _, _, _, rfl, _⟩ <;> rfl; done) | (rcases h with ⟨_, _, _, rfl, _⟩ | ⟨_, rfl, _⟩ <;> rfl; done) | (rcases h with ⟨_, _, _, rfl, _⟩ | ⟨_, _, rfl, _⟩ <;> rfl; done) | (rcases h with ⟨_, _, _, rfl, _⟩ | ⟨_, _, _, rfl, _⟩ <;> rfl; done) | (rcases h with ⟨_, _, _, rfl, _⟩ | ⟨_, _, _, _, rfl, _⟩ <;> rfl; done) | (rcases h with ⟨_, _, _, rfl, _⟩ | ⟨_, _, _, _, _, rfl, _⟩ <;> rfl; done) | (rcases h with ⟨_, _, _, rfl, _⟩ | ⟨_, _, _, _, _, _, rfl, _⟩ <;> rfl; done) | (rcases h with ⟨_, _, _, _, rfl, _⟩ | ⟨_, rfl, _⟩ <;> rfl; done) | (rcases h with ⟨_, _, _, _, rfl, _⟩ | ⟨_, _, rfl, _⟩ <;> rfl; done) | (rcases h with ⟨_, _, _, _, rfl, _⟩ | ⟨_, _, _, rfl, _⟩ <;> rfl; done) | (rcases h with ⟨_, _, _, _, rfl, _⟩ | ⟨_, _, _, _, rfl, _⟩ <;> rfl; done) | (rcases h with ⟨_, _, _, _, rfl, _⟩ | ⟨_, _, _, _, _, rfl, _⟩ <;> rfl; done) | (rcases h with ⟨_, _, _, _, rfl, _⟩ | ⟨_, _, _, _, _, _, rfl, _⟩ <;> rfl; done) | (rcases h with ⟨_, _, _, _, _, rfl, _⟩ | ⟨_, rfl, _⟩ <;> rfl; done) | (rcases h with ⟨_, _, _, _, _, rfl, _⟩ | ⟨_, _, rfl, _⟩ <;> rfl; done) | (rcases h with ⟨_, _, _, _, _, rfl, _⟩ | ⟨_, _, _, rfl, _⟩ <;> rfl; done) | (rcases h with ⟨_, _, _, _, _, rfl, _⟩ | ⟨_, _, _, _, rfl, _⟩ <;> rfl; done) | (rcases h with ⟨_, _, _, _, _, rfl, _⟩ | ⟨_, _, _, _, _, rfl, _⟩ <;> rfl; done) | (rcases h with ⟨_, _, _, _, _, rfl, _⟩ | ⟨_, _, _, _, _, _, rfl, _⟩ <;> rfl; done) | (rcases h with ⟨_, _, _, _, _, _, rfl, _⟩ | ⟨_, rfl, _⟩ <;> rfl; done) | (rcases h with ⟨_, _, _, _, _, _, rfl, _⟩ | ⟨_, _, rfl, _⟩ <;> rfl; done) | (rcases h with ⟨_, _, _, _, _, _, rfl, _⟩ | ⟨_, _, _, rfl, _⟩ <;> rfl; done) | (rcases h with ⟨_, _, _, _, _, _, rfl, _⟩ | ⟨_, _, _, _, rfl, _⟩ <;> rfl; done) | (rcases h with ⟨_, _, _, _, _, _, rfl, _⟩ | ⟨_, _, _, _, _, rfl, _⟩ <;> rfl; done) | (rcases h with ⟨_, _, _, _, _, _, rfl, _⟩ | ⟨_, _, _, _, _, _, rfl, _⟩ <;> rfl; done) | (rcases h with ⟨_, rfl, _⟩ | ⟨_, _, rfl, _⟩ <;> rfl) | (rcases h with ⟨_, rfl, _⟩ | ⟨_, rfl, _⟩ <;> rfl) | (rcases h with h | h | h <;> (first | (obtain ⟨rfl, _⟩ := h; rfl; done) | (obtain ⟨_, rfl, _⟩ := h; rfl; done) | (obtain ⟨_, _, rfl, _⟩ := h; rfl; done) | (obtain ⟨_, _, _, rfl, _⟩ := h; rfl; done) | (obtain ⟨_, _, _, _, rfl, _⟩ := h; rfl; done) | (obtain ⟨_, _, _, _, _, rfl, _⟩ := h; rfl; done) | (obtain ⟨_, _, _, _, _, _, rfl, _⟩ := h; rfl; done) | (obtain ⟨_, _, _, _, _, _, _, rfl, _⟩ := h; rfl; done) | (obtain ⟨_, _, _, _, _, _, _, _, rfl, _⟩ := h; rfl; done) | (obtain ⟨_, _, _, _, _, _, _, _, _, rfl, _⟩ := h; rfl; done) | (obtain ⟨_, _, _, _, _, _, _, _, _, _, rfl, _⟩ := h; rfl; done) | (obtain ⟨_, _, _, _, _, _, _, _, _, _, _, rfl, _⟩ := h; rfl; done) | (obtain ⟨_, _, _, _, _, _, _, _, _, _, _, _, rfl, _⟩ := h; rfl; done) | (obtain ⟨_, _, _, _, _, _, _, _, _, _, _, _, _, rfl, _⟩ := h; rfl; done) | (obtain ⟨_, _, _, _, _, _, _, _, _, _, _, _, _, _, rfl, _⟩ := h; rfl; done)))) (fun cdv A outer s H vs Q E hr h => ⟨t_need_number K a E, ?_, rd vs H Q E h⟩)
  exact (pss_one (ps_if (pt_not (pt_val (pe_call G_is_number (hr.mono (by decide)) rfl T.g_is_number T.F_is_number.kp T.b_is_number .nil pass0 (pa_cons (pv 0) (pa_cons (pv 1) (pa_cons (pv 2) pa_nil)))))) (pss_one (ps_raise rfl (takes_of rfl rfl rfl rfl) (pmk_own PySem.F.excBase_ValueError T.xC_BadNumber T.gC_BadNumber T.kC_BadNumber (raises_own T.bC_BadNumber T.tC_BadNumber) (by exact rfl)))) pss_nil))
theorem ok_cost (T : Txt K mg a)
    (G_need_number : FnOk a.p a.w K mg base (L2.CX a.p a.w) 2 a.f_need_number a.d_need_number P_need_number (sp_need_number K a))
    (rd : RDX (sp_cost K a) (t_cost K a) N_cost) :
    FnOk a.p a.w K mg base (L2.CX a.p a.w) 3 a.f_cost a.d_cost P_cost (sp_cost K a) := by
  have nd := sc_cost.nd
  refine T.F_cost.okX sc_cost (fun vs H Q E h => by first | (obtain ⟨rfl, _⟩ := h; rfl; done) | (obtain ⟨_, rfl, _⟩ := h; rfl; done) | (obtain ⟨_, _, rfl, _⟩ := h; rfl; done) | (obtain ⟨_, _, _, rfl, _⟩ := h; rfl; done) | (obtain ⟨_, _, _, _, rfl, _⟩ := h; rfl; done) | (obtain ⟨_, _, _, _, _, rfl, _⟩ := h; rfl; done) | (obtain ⟨_, _, _, _, _, _, rfl, _⟩ := h; rfl; done) | (obtain ⟨_, _, _, _, _, _, _, rfl, _⟩ := h; rfl; done) | (obtain ⟨_, _, _, _, _, _, _, _, rfl, _⟩ := h; rfl; done) | (obtain ⟨_, _, _, _, _, _, _, _, _, rfl, _⟩ := h; rfl; done) | (obtain ⟨_, _, _, _, _, _, _, _, _, _, rfl, _⟩ := h; rfl; done) | (obtain ⟨_, _, _, _, _, _, _, _, _, _, _, rfl, _⟩ := h; rfl; done) | (obtain ⟨_, _, _, _, _, _, _, _, _, _, _, _, rfl, _⟩ := h; rfl; done) | (obtain ⟨_, _, _, _, _, _, _, _, _, _, _, _, _, rfl, _⟩ := h; rfl; done) | (obtain ⟨_, _, _, _, _, _, _, _, _, _, _, _, _, _, rfl, _⟩ := h; rfl; done) | (rcases h with ⟨_, rfl, _⟩ | ⟨_, rfl, _⟩ <;> rfl; done) | (rcases h with ⟨_, rfl, _⟩ | ⟨_, _, rfl, _⟩ <;> rfl; done) | (rcases h with ⟨_, rfl, _⟩ | ⟨_, _, _, rfl, _⟩ <;> rfl; done) | (rcases h with ⟨_, rfl, _⟩ | ⟨_, _, _, _, rfl, _⟩ <;> rfl; done) | (rcases h with ⟨_, rfl, _⟩ | ⟨_, _, _, _, _, rfl, _⟩ <;> rfl; done) | (rcases h with ⟨_, rfl, _⟩ | ⟨_, _, _, _, _, _, rfl, _⟩ <;> rfl; done) | (rcases h with ⟨_, _, rfl, _⟩ | ⟨_, rfl, _⟩ <;> rfl; done) | (rcases h with ⟨_, _, rfl, _⟩ | ⟨_, _, rfl, _⟩ <;> rfl; done) | (rcases h with ⟨_, _, rfl, _⟩ | ⟨_, _, _, rfl, _⟩ <;> rfl; done) | (rcases h with ⟨_, _, rfl, _⟩ | ⟨_, _, _, _, rfl, _⟩ <;> rfl; done) | (rcases h with ⟨_, _, rfl, _⟩ | ⟨_, _, _, _, _, rfl, _⟩ <;> rfl; done) | (rcases h with ⟨_, _, rfl, _⟩ | ⟨_, _, _, _, _, _, rfl, _⟩ <;> rfl; done) | (rcases h with ⟨_, _, _, rfl, _⟩ | ⟨_, rfl, _⟩ <;> rfl; done) | (rcases h with ⟨_, _, _, rfl, _⟩ | ⟨_, _, rfl, _⟩ <;> rfl; done) | (rcases h with ⟨_, _, _, rfl, _⟩ | ⟨_, _, _, rfl, _⟩ <;> rfl; done) | (rcases h with ⟨_, _, _, rfl, _⟩ | ⟨_, _, _, _, rfl, _⟩ <;> rfl; done) | (rcases h with ⟨_, _, _, rfl, _⟩ | ⟨_, _, _, _, _, rfl, _⟩ <;> rfl; done) | (rcases h with ⟨_, _, _, rfl, _⟩ | ⟨_, _, _, _, _, _, rfl, _⟩ <;> rfl; done) | (rcases h with ⟨_, _, _, _, rfl, _⟩ | ⟨_, rfl, _⟩ <;> rfl; done) | (rcases h with ⟨_, _, _, _, rfl, _⟩ | ⟨_, _, rfl, _⟩ <;> rfl; done) | (rcases h with ⟨_, _, _, _, rfl, _⟩ | ⟨_, _, _, rfl, _⟩ <;> rfl; done) | (rcases h with ⟨_, _, _, _, rfl, _⟩ | ⟨_, _, _, _, rfl, _⟩ <;> rfl; done) | (rcases h with ⟨_, _, _, _, rfl, _⟩ | ⟨_, _, _, _, _, rfl, _⟩ <;> rfl; done) | (rcases h with ⟨_, _, _, _, rfl, _⟩ | ⟨_, _, _, _, _, _, rfl, _⟩ <;> rfl; done) | (rcases h with ⟨_, _, _, _, _, rfl, _⟩ | ⟨_, rfl, _⟩ <;> rfl; done) | (rcases h with ⟨_, _, _, _, _, rfl, _⟩ | ⟨_, _, rfl, _⟩ <;> rfl; done) | (rcases h with ⟨_, _, _, _, _, rfl, _⟩ | ⟨_, _, _, rfl, _⟩ <;> rfl; done) | (rcases h with ⟨_, _, _, _, _, rfl, _⟩ | ⟨_, _, _, _, rfl, _⟩ <;> rfl; done) | (rcases h with ⟨_, _, _, _, _, rfl, _⟩ | ⟨_, _, _, _, _, rfl, _⟩ <;> rfl; done) | (rcases h with ⟨_, _, _, _, _, rfl, _⟩ | ⟨_, _, _, _, _, _, rfl, _⟩ <;> rfl; done) | (rcases h with ⟨_, _, _, _, _, _, rfl, _⟩ | ⟨_, rfl, _⟩ <;> rfl; done) | (rcases h with ⟨_, _, _, _, _, _, rfl, _⟩ | ⟨_, _, rfl, _⟩ <;> rfl; done) | (rcases h with ⟨_, _, _, _, _, _, rfl, _⟩ | ⟨_, _, _, rfl, _⟩ <;> rfl; done) | (rcases h with ⟨_, _, _, _, _, _, rfl, _⟩ | ⟨_, _, _, _, rfl, _⟩ <;> rfl; done) | (rcases h with ⟨_, _, _, _, _, _, rfl, _⟩ | ⟨_, _, _, _, _, rfl, _⟩ <;> rfl; done) | (rcases h with ⟨_, _, _, _, _, _, rfl, _⟩ | ⟨_, _, _, _, _, _, rfl, _⟩ <;> rfl; done) | (rcases h with ⟨_, rfl, _⟩ | ⟨_, _, rfl, _⟩ <;> rfl) | (rcases h with ⟨_, rfl, _⟩ | ⟨_, rfl, _⟩ <;> rfl) | (rcases h with h | h | h <;> (first | (obtain ⟨rfl, _⟩ := h; rfl; done) | (obtain ⟨_, rfl, _⟩ := h; rfl; done) | (obtain ⟨_, _, rfl, _⟩ := h; rfl; done) | (obtain ⟨_, _, _, rfl, _⟩ := h; rfl; done) | (obtain ⟨_, _, _, _, rfl, _⟩ := h; rfl; done) | (obtain ⟨_, _, _, _, _, rfl, _⟩ := h; rfl; done) | (obtain ⟨_, _, _, _, _, _, rfl, _⟩ := h; rfl; done) | (obtain ⟨_, _, _, _, _, _, _, rfl, _⟩ := h; rfl; done) | (obtain ⟨_, _, _, _, _, _, _, _, rfl, _⟩ := h; rfl; done) | (obtain ⟨_, _, _, _, _, _, _, _, _, rfl, _⟩ := h; rfl; done) | (obtain ⟨_, _, _, _, _, _, _, _, _, _, rfl, _⟩ := h; rfl; done) | (obtain ⟨_, _, _, _, _, _, _, _, _, _, _, rfl, _⟩ := h; rfl; done) | (obtain ⟨_, _, _, _, _, _, _, _, _, _, _, _, rfl, _⟩ := h; rfl; done) | (obtain ⟨_, _, _, _, _, _, _, _, _, _, _, _, _, rfl, _⟩ := h; rfl; done) | (obtain ⟨_, _, _, _, _, _, _, _, _, _, _, _, _, _, rfl, _⟩ := h; rfl; done)))) (fun cdv A outer s H vs Q E hr h => ⟨t_cost K a E, ?_, rd vs H Q E h⟩)
  exact (pss_cons (ps_expr (pe_call G_need_number (hr.mono (by decide)) rfl T.g_need_number T.F_need_number.kp T.b_need_number .nil (passes_call (takes_of rfl rfl rfl rfl) (fun _ _ _ _ h => h)) (pa_cons (pv 0) (pa_cons pe_int (pa_cons pe_int pa_nil)))))
      (pss_one (ps_ret (pe_op op_add (pv 0) (pe_glob (v := (.int 13)) rfl T.g_TURN_ROOM ⟨_, rfl⟩)))))
theorem ok_fullest_frame (T : Txt K mg a)
    (rd : RD (sp_fullest_frame K a) (t_fullest_frame K a) N_fullest_frame) :
    FnOk a.p a.w K mg base CX0 1 a.f_fullest_frame a.d_fullest_frame P_fullest_frame (sp_fullest_frame K a) := by
  have nd := sc_fullest_frame.nd
  refine T.F_fullest_frame.ok sc_fullest_frame (fun vs H Q E h => by first | (obtain ⟨rfl, _⟩ := h; rfl; done) | (obtain ⟨_, rfl, _⟩ := h; rfl; done) | (obtain ⟨_, _, rfl, _⟩ := h; rfl; done) | (obtain ⟨_, _, _, rfl, _⟩ := h; rfl; done) | (obtain ⟨_, _, _, _, rfl, _⟩ := h; rfl; done) | (obtain ⟨_, _, _, _, _, rfl, _⟩ := h; rfl; done) | (obtain ⟨_, _, _, _, _, _, rfl, _⟩ := h; rfl; done) | (obtain ⟨_, _, _, _, _, _, _, rfl, _⟩ := h; rfl; done) | (obtain ⟨_, _, _, _, _, _, _, _, rfl, _⟩ := h; rfl; done) | (obtain ⟨_, _, _, _, _, _, _, _, _, rfl, _⟩ := h; rfl; done) | (obtain ⟨_, _, _, _, _, _, _, _, _, _, rfl, _⟩ := h; rfl; done) | (obtain ⟨_, _, _, _, _, _, _, _, _, _, _, rfl, _⟩ := h; rfl; done) | (obtain ⟨_, _, _, _, _, _, _, _, _, _, _, _, rfl, _⟩ := h; rfl; done) | (obtain ⟨_, _, _, _, _, _, _, _, _, _, _, _, _, rfl, _⟩ := h; rfl; done) | (obtain ⟨_, _, _, _, _, _, _, _, _, _, _, _, _, _, rfl, _⟩ := h; rfl; done) | (rcases h with ⟨_, rfl, _⟩ | ⟨_, rfl, _⟩ <;> rfl; done) | (rcases h with ⟨_, rfl, _⟩ | ⟨_, _, rfl, _⟩ <;> rfl; done) | (rcases h with ⟨_, rfl, _⟩ | ⟨_, _, _, rfl, _⟩ <;> rfl; done) | (rcases h with ⟨_, rfl, _⟩ | ⟨_, _, _, _, rfl, _⟩ <;> rfl; done) | (rcases h with ⟨_, rfl, _⟩ | ⟨_, _, _, _, _, rfl, _⟩ <;> rfl; done) | (rcases h with ⟨_, rfl, _⟩ | ⟨_, _, _, _, _, _, rfl, _⟩ <;> rfl; done) | (rcases h with ⟨_, _, rfl, _⟩ | ⟨_, rfl, _⟩ <;> rfl; done) | (rcases h with ⟨_, _, rfl, _⟩ | ⟨_, _, rfl, _⟩ <;> rfl; done) | (rcases h with ⟨_, _, rfl, _⟩ | ⟨_, _, _, rfl, _⟩ <;> rfl; done) | (rcases h with ⟨_, _, rfl, _⟩ | ⟨_, _, _, _, rfl, _⟩ <;> rfl; done) | (rcases h with ⟨_, _, rfl, _⟩ | ⟨_, _, _, _, _, rfl, _⟩ <;> rfl; done) | (rcases h with ⟨_, _, rfl, _⟩ | ⟨_, _, _, _, _, _, rfl, _⟩ <;> rfl; done) | (rcases h with ⟨_, _, _, rfl, _⟩ | ⟨_, rfl, _⟩ <;> rfl; done) | (rcases h with ⟨_, _, _, rfl, _⟩ | ⟨_, _, rfl, _⟩ <;> rfl; done) | (rcases h with ⟨_, _, _, rfl, _⟩ | ⟨_, _, _, rfl, _⟩ <;> rfl; done) | (rcases h with ⟨_, _, _, rfl, _⟩ | ⟨_, _, _, _, rfl, _⟩ <;> rfl; done) | (rcases h with ⟨_, _, _, rfl, _⟩ | ⟨_, _, _, _, _, rfl, _⟩ <;> rfl; done) | (rcases h with ⟨_, _, _, rfl, _⟩ | ⟨_, _, _, _, _, _, rfl, _⟩ <;> rfl; done) | (rcases h with ⟨_, _, _, _, rfl, _⟩ | ⟨_, rfl, _⟩ <;> rfl; done) | (rcases h with ⟨_, _, _, _, rfl, _⟩ | ⟨_, _, rfl, _⟩ <;> rfl; done) | (rcases h with ⟨_, _, _, _, rfl, _⟩ | ⟨_, _, _, rfl, _⟩ <;> rfl; done) | (rcases h with ⟨_, _, _, _, rfl, _⟩ | ⟨_, _, _, _, rfl, _⟩ <;> rfl; done) | (rcases h with ⟨_, _, _, _, rfl, _⟩ | ⟨_, _, _, _, _, rfl, _⟩ <;> rfl; done) | (rcases h with ⟨_, _, _, _, rfl, _⟩ | ⟨_, _, _, _, _, _, rfl, _⟩ <;> rfl; done) | (rcases h with ⟨_, _, _, _, _, rfl, _⟩ | ⟨_, rfl, _⟩ <;> rfl; done) | (rcases h with ⟨_, _, _, _, _, rfl, _⟩ | ⟨_, _, rfl, _⟩ <;> rfl; done) | (rcases h with ⟨_, _, _, _, _, rfl, _⟩ | ⟨_, _, _, rfl, _⟩ <;> rfl; done) | (rcases h with ⟨_, _, _, _, _, rfl, _⟩ | ⟨_, _, _, _, rfl, _⟩ <;> rfl; done) | (rcases h with ⟨_, _, _, _, _, rfl, _⟩ | ⟨_, _, _, _, _, rfl, _⟩ <;> rfl; done) | (rcases h with ⟨_, _, _, _, _, rfl, _⟩ | ⟨_, _, _, _, _, _, rfl, _⟩ <;> rfl; done) | (rcases h with ⟨_, _, _, _, _, _, rfl, _⟩ | ⟨_, rfl, _⟩ <;> rfl; done) | (rcases h with ⟨_, _, _, _, _, _, rfl, _⟩ | ⟨_, _, rfl, _⟩ <;> rfl; done) | (rcases h with ⟨_, _, _, _, _, _, rfl, _⟩ | ⟨_, _, _, rfl, _⟩ <;> rfl; done) | (rcases h with ⟨_, _, _, _, _, _, rfl, _⟩ | ⟨_, _, _, _, rfl, _⟩ <;> rfl; done) | (rcases h with ⟨_, _, _, _, _, _, rfl, _⟩ | ⟨_, _, _, _, _, rfl, _⟩ <;> rfl; done) | (rcases h with ⟨_, _, _, _, _, _, rfl, _⟩ | ⟨_, _, _, _, _, _, rfl, _⟩ <;> rfl; done) | (rcases h with ⟨_, rfl, _⟩ | ⟨_, _, rfl, _⟩ <;> rfl) | (rcases h with ⟨_, rfl, _⟩ | ⟨_, rfl, _⟩ <;> rfl) | (rcases h with h | h | h <;> (first | (obtain ⟨rfl, _⟩ := h; rfl; done) | (obtain ⟨_, rfl, _⟩ := h; rfl; done) | (obtain ⟨_, _, rfl, _⟩ := h; rfl; done) | (obtain ⟨_, _, _, rfl, _⟩ := h; rfl; done) | (obtain ⟨_, _, _, _, rfl, _⟩ := h; rfl; done) | (obtain ⟨_, _, _, _, _, rfl, _⟩ := h; rfl; done) | (obtain ⟨_, _, _, _, _, _, rfl, _⟩ := h; rfl; done) | (obtain ⟨_, _, _, _, _, _, _, rfl, _⟩ := h; rfl; done) | (obtain ⟨_, _, _, _, _, _, _, _, rfl, _⟩ := h; rfl; done) | (obtain ⟨_, _, _, _, _, _, _, _, _, rfl, _⟩ := h; rfl; done) | (obtain ⟨_, _, _, _, _, _, _, _, _, _, rfl, _⟩ := h; rfl; done) | (obtain ⟨_, _, _, _, _, _, _, _, _, _, _, rfl, _⟩ := h; rfl; done) | (obtain ⟨_, _, _, _, _, _, _, _, _, _, _, _, rfl, _⟩ := h; rfl; done) | (obtain ⟨_, _, _, _, _, _, _, _, _, _, _, _, _, rfl, _⟩ := h; rfl; done) | (obtain ⟨_, _, _, _, _, _, _, _, _, _, _, _, _, _, rfl, _⟩ := h; rfl; done)))) (fun cdv A outer s H vs Q E hr h => ⟨t_fullest_frame K a, ?_, rd vs H Q E h⟩)
  exact (pss_cons (ps_set (i := 3) nd rfl (by first | exact Or.inl rfl | exact Or.inr rfl) (pe_listR3 rfl rfl T.n_list rfl T.n_range (pa_cons (pv 2) (pa_cons (pe_glob (v := (.int 32)) rfl T.g_ROUND ⟨_, rfl⟩) (pa_cons (pv 1) pa_nil)))))
      (pss_cons (ps_set (i := 4) nd rfl (by first | exact Or.inl rfl | exact Or.inr rfl) (pe_callB (cr_max rfl) (by rfl) T.n_max (by decide +kernel) (pa_cons (pe_lc (own := [("frame", 5)]) (g := (gName 5)) (tt := tYes) (te := (tOp (rIxT K) (tVar 0) (tVar 5))) rfl nd (pi_list (pv 3)) (blkOk_by (N := N_fullest_frame) (sc := defScope s_fullest_frame) (by decide +kernel)) (fun _ _ _ _ _ => (pg_name (i := 5) nd rfl (by first | exact Or.inl rfl | exact Or.inr rfl))) (fun _ _ _ _ _ => pts_nil) (fun _ _ _ _ _ => (pe_ix ix_tup (pv 0) (pv 5) (fun _ _ => rfl)))) pa_nil)))
      (pss_one (ps_ret (pe_ix ix_list (pe_lc (own := [("frame", 5)]) (g := (gName 5)) (tt := (tTest (tOp rEq (tOp (rIxT K) (tVar 0) (tVar 5)) (tVar 4)))) (te := (tVar 5)) rfl nd (pi_list (pv 3)) (blkOk_by (N := N_fullest_frame) (sc := defScope s_fullest_frame) (by decide +kernel)) (fun _ _ _ _ _ => (pg_name (i := 5) nd rfl (by first | exact Or.inl rfl | exact Or.inr rfl))) (fun _ _ _ _ _ => (pts_one (pt_cmpR op_eq (pe_ix ix_tup (pv 0) (pv 5) (fun _ _ => rfl)) (pv 4) (nomark _)))) (fun _ _ _ _ _ => (pv 5))) pe_int (fun _ _ => rfl))))))
theorem ok_phase_for (T : Txt K mg a)
    (G_cost : FnOk a.p a.w K mg base (L2.CX a.p a.w) 3 a.f_cost a.d_cost P_cost (sp_cost K a))
    (G_fullest_frame : FnOk a.p a.w K mg base CX0 1 a.f_fullest_frame a.d_fullest_frame P_fullest_frame (sp_fullest_frame K a))
    (rd : RDX (sp_phase_for K a) (t_phase_for K a) N_phase_for) :
    FnOk a.p a.w K mg base (L2.CX a.p a.w) 4 a.f_phase_for a.d_phase_for P_phase_for (sp_phase_for K a) := by
  have nd := sc_phase_for.nd
  refine T.F_phase_for.okX sc_phase_for (fun vs H Q E h => by first | (obtain ⟨rfl, _⟩ := h; rfl; done) | (obtain ⟨_, rfl, _⟩ := h; rfl; done) | (obtain ⟨_, _, rfl, _⟩ := h; rfl; done) | (obtain ⟨_, _, _, rfl, _⟩ := h; rfl; done) | (obtain ⟨_, _, _, _, rfl, _⟩ := h; rfl; done) | (obtain ⟨_, _, _, _, _, rfl, _⟩ := h; rfl; done) | (obtain ⟨_, _, _, _, _, _, rfl, _⟩ := h; rfl; done) | (obtain ⟨_, _, _, _, _, _, _, rfl, _⟩ := h; rfl; done) | (obtain ⟨_, _, _, _, _, _, _, _, rfl, _⟩ := h; rfl; done) | (obtain ⟨_, _, _, _, _, _, _, _, _, rfl, _⟩ := h; rfl; done) | (obtain ⟨_, _, _, _, _, _, _, _, _, _, rfl, _⟩ := h; rfl; done) | (obtain ⟨_, _, _, _, _, _, _, _, _, _, _, rfl, _⟩ := h; rfl; done) | (obtain ⟨_, _, _, _, _, _, _, _, _, _, _, _, rfl, _⟩ := h; rfl; done) | (obtain ⟨_, _, _, _, _, _, _, _, _, _, _, _, _, rfl, _⟩ := h; rfl; done) | (obtain ⟨_, _, _, _, _, _, _, _, _, _, _, _, _, _, rfl, _⟩ := h; rfl; done) | (rcases h with ⟨_, rfl, _⟩ | ⟨_, rfl, _⟩ <;> rfl; done) | (rcases h with ⟨_, rfl, _⟩ | ⟨_, _, rfl, _⟩ <;> rfl; done) | (rcases h with ⟨_, rfl, _⟩ | ⟨_, _, _, rfl, _⟩ <;> rfl; done) | (rcases h with ⟨_, rfl, _⟩ | ⟨_, _, _, _, rfl, _⟩ <;> rfl; done) | (rcases h with ⟨_, rfl, _⟩ | ⟨_, _, _, _, _, rfl, _⟩ <;> rfl; done) | (rcases h with ⟨_, rfl, _⟩ | ⟨_, _, _, _, _, _, rfl, _⟩ <;> rfl; done) | (rcases h with ⟨_, _, rfl, _⟩ | ⟨_, rfl, _⟩ <;> rfl; done) | (rcases h with ⟨_, _, rfl, _⟩ | ⟨_, _, rfl, _⟩ <;> rfl; done) | (rcases h with ⟨_, _, rfl, _⟩ | ⟨_, _, _, rfl, _⟩ <;> rfl; done) | (rcases h with ⟨_, _, rfl, _⟩ | ⟨_, _, _, _, rfl, _⟩ <;> rfl; done) | (rcases h with ⟨_, _, rfl, _⟩ | ⟨_, _, _, _, _, rfl, _⟩ <;> rfl; done) | (rcases h with ⟨_, _, rfl, _⟩ | ⟨_, _, _, _, _, _, rfl, _⟩ <;> rfl; done) | (rcases h with ⟨_, _, _, rfl, _⟩ | ⟨_, rfl, _⟩ <;> rfl; done) | (rcases h with ⟨_, _, _, rfl, _⟩ | ⟨_, _, rfl, _⟩ <;> rfl; done) | (rcases h with ⟨_, _, _, rfl, _⟩ | ⟨_, _, _, rfl, _⟩ <;> rfl; done) | (rcases h with ⟨_, _, _, rfl, _⟩ | ⟨_, _, _, _, rfl, _⟩ <;> rfl; done) | (rcases h with ⟨_, _, _, rfl, _⟩ | ⟨_, _, _, _, _, rfl, _⟩ <;> rfl; done) | (rcases h with ⟨_, _, _, rfl, _⟩ | ⟨_, _, _, _, _, _, rfl, _⟩ <;> rfl; done) | (rcases h with ⟨_, _, _, _, rfl, _⟩ | ⟨_, rfl, _⟩ <;> rfl; done) | (rcases h with ⟨_, _, _, _, rfl, _⟩ | ⟨_, _, rfl, _⟩ <;> rfl; done) | (rcases h with ⟨_, _, _, _, rfl, _⟩ | ⟨_, _, _, rfl, _⟩ <;> rfl; done) | (rcases h with ⟨_, _, _, _, rfl, _⟩ | ⟨_, _, _, _, rfl, _⟩ <;> rfl; done) | (rcases h with ⟨_, _, _, _, rfl, _⟩ | ⟨_, _, _, _, _, rfl, _⟩ <;> rfl; done) | (rcases h with ⟨_, _, _, _, rfl, _⟩ | ⟨_, _, _, _, _, _, rfl, _⟩ <;> rfl; done) | (rcases h with ⟨_, _, _, _, _, rfl, _⟩ | ⟨_, rfl, _⟩ <;> rfl; done) | (rcases h with ⟨_, _, _, _, _, rfl, _⟩ | ⟨_, _, rfl, _⟩ <;> rfl; done) | (rcases h with ⟨_, _, _, _, _, rfl, _⟩ | ⟨_, _, _, rfl, _⟩ <;> rfl; done) | (rcases h with ⟨_, _, _, _, _, rfl, _⟩ | ⟨_, _, _, _, rfl, _⟩ <;> rfl; done) | (rcases h with ⟨_, _, _, _, _, rfl, _⟩ | ⟨_, _, _, _, _, rfl, _⟩ <;> rfl; done) | (rcases h with ⟨_, _, _, _, _, rfl, _⟩ | ⟨_, _, _, _, _, _, rfl, _⟩ <;> rfl; done) | (rcases h with ⟨_, _, _, _, _, _, rfl, _⟩ | ⟨_, rfl, _⟩ <;> rfl; done) | (rcases h with ⟨_, _, _, _, _, _, rfl, _⟩ | ⟨_, _, rfl, _⟩ <;> rfl; done) | (rcases h with ⟨_, _, _, _, _, _, rfl, _⟩ | ⟨_, _, _, rfl, _⟩ <;> rfl; done) | (rcases h with ⟨_, _, _, _, _, _, rfl, _⟩ | ⟨_, _, _, _, rfl, _⟩ <;> rfl; done) | (rcases h with ⟨_, _, _, _, _, _, rfl, _⟩ | ⟨_, _, _, _, _, rfl, _⟩ <;> rfl; done) | (rcases h with ⟨_, _, _, _, _, _, rfl, _⟩ | ⟨_, _, _, _, _, _, rfl, _⟩ <;> rfl; done) | (rcases h with ⟨_, rfl, _⟩ | ⟨_, _, rfl, _⟩ <;> rfl) | (rcases h with ⟨_, rfl, _⟩ | ⟨_, rfl, _⟩ <;> rfl) | (rcases h with h | h | h <;> (first | (obtain ⟨rfl, _⟩ := h; rfl; done) | (obtain ⟨_, rfl, _⟩ := h; rfl; done) | (obtain ⟨_, _, rfl, _⟩ := h; rfl; done) | (obtain ⟨_, _, _, rfl, _⟩ := h; rfl; done) | (obtain ⟨_, _, _, _, rfl, _⟩ := h; rfl; done) | (obtain ⟨_, _, _, _, _, rfl, _⟩ := h; rfl; done) | (obtain ⟨_, _, _, _, _, _, rfl, _⟩ := h; rfl; done) | (obtain ⟨_, _, _, _, _, _, _, rfl, _⟩ := h; rfl; done) | (obtain ⟨_, _, _, _, _, _, _, _, rfl, _⟩ := h; rfl; done) | (obtain ⟨_, _, _, _, _, _, _, _, _, rfl, _⟩ := h; rfl; done) | (obtain ⟨_, _, _, _, _, _, _, _, _, _, rfl, _⟩ := h; rfl; done) | (obtain ⟨_, _, _, _, _, _, _, _, _, _, _, rfl, _⟩ := h; rfl; done) | (obtain ⟨_, _, _, _, _, _, _, _, _, _, _, _, rfl, _⟩ := h; rfl; done) | (obtain ⟨_, _, _, _, _, _, _, _, _, _, _, _, _, rfl, _⟩ := h; rfl; done) | (obtain ⟨_, _, _, _, _, _, _, _, _, _, _, _, _, _, rfl, _⟩ := h; rfl; done)))) (fun cdv A outer s H vs Q E hr h => ⟨t_phase_for K a E, ?_, rd vs H Q E h⟩)
  exact (pss_cons (ps_set (i := 3) nd rfl (by first | exact Or.inl rfl | exact Or.inr rfl) (pe_lc (own := [("phase", 4)]) (g := (gName 4)) (tt := tYes) (te := (tCall (sp_fullest_frame K a) [] E0 (tCons (tVar 0) (tCons (tVar 2) (tCons (tVar 4) tNil))))) rfl nd (pi_range1 rfl T.n_range (pa_cons (pv 2) pa_nil)) (blkOk_by (N := N_phase_for) (sc := defScope s_phase_for) (by decide +kernel)) (fun _ _ _ _ _ => (pg_name (i := 4) nd rfl (by first | exact Or.inl rfl | exact Or.inr rfl))) (fun _ _ _ _ _ => pts_nil) (fun _ _ _ _ _ => (pe_call G_fullest_frame (hr.mono (by decide)) rfl T.g_fullest_frame T.F_fullest_frame.kp T.b_fullest_frame .nil pass0 (pa_cons (pv 0) (pa_cons (pv 2) (pa_cons (pv 4) pa_nil)))))))
      (pss_cons (ps_set (i := 5) nd rfl (by first | exact Or.inl rfl | exact Or.inr rfl) (pe_callB (cr_min rfl) (by rfl) T.n_min (by decide +kernel) (pa_cons (pe_lc (own := [("frame", 6)]) (g := (gName 6)) (tt := tYes) (te := (tOp (rIxT K) (tVar 0) (tVar 6))) rfl nd (pi_list (pv 3)) (blkOk_by (N := N_phase_for) (sc := defScope s_phase_for) (by decide +kernel)) (fun _ _ _ _ _ => (pg_name (i := 6) nd rfl (by first | exact Or.inl rfl | exact Or.inr rfl))) (fun _ _ _ _ _ => pts_nil) (fun _ _ _ _ _ => (pe_ix ix_tup (pv 0) (pv 6) (fun _ _ => rfl)))) pa_nil)))
      (pss_cons (ps_if (pt_cmpR op_gt (pe_op op_add (pv 5) (pe_call G_cost (hr.mono (by decide)) rfl T.g_cost T.F_cost.kp T.b_cost .nil (passes_call (takes_of rfl rfl rfl rfl) (fun _ _ _ _ h => h)) (pa_cons (pv 1) pa_nil))) (pe_glob (v := (.int 1350)) rfl T.g_TIMED_ROOM ⟨_, rfl⟩) (nomark _)) (pss_one (ps_raiseFr rfl T.o_NoRoom hr (takes_of rfl rfl rfl rfl) (pa_cons (pv 3) pa_nil))) pss_nil)
      (pss_one (ps_ret (pe_ix ix_list (pe_lc (own := [("phase", 4)]) (g := (gName 4)) (tt := (tTest (tOp rEq (tOp (rIxT K) (tVar 0) (tOp (rIxL K) (tVar 3) (tVar 4))) (tVar 5)))) (te := (tVar 4)) rfl nd (pi_range1 rfl T.n_range (pa_cons (pv 2) pa_nil)) (blkOk_by (N := N_phase_for) (sc := defScope s_phase_for) (by decide +kernel)) (fun _ _ _ _ _ => (pg_name (i := 4) nd rfl (by first | exact Or.inl rfl | exact Or.inr rfl))) (fun _ _ _ _ _ => (pts_one (pt_cmpR op_eq (pe_ix ix_tup (pv 0) (pe_ix ix_list (pv 3) (pv 4) (fun _ _ => rfl)) (fun _ _ => rfl)) (pv 5) (nomark _)))) (fun _ _ _ _ _ => (pv 4))) pe_int (fun _ _ => rfl)))))))
theorem ok_with_end (T : Txt K mg a)
    (G_cost : FnOk a.p a.w K mg base (L2.CX a.p a.w) 3 a.f_cost a.d_cost P_cost (sp_cost K a))
    (rd : RDX (sp_with_end K a) (t_with_end K a) N_with_end) :
    FnOk a.p a.w K mg base (L2.CX a.p a.w) 4 a.f_with_end a.d_with_end P_with_end (sp_with_end K a) := by
  have nd := sc_with_end.nd
  refine FunD.ok (CX := L2.CX a.p a.w) T.F_with_end sc_with_end (fun vs H Q E h => by first | (obtain ⟨rfl, _⟩ := h; rfl; done) | (obtain ⟨_, rfl, _⟩ := h; rfl; done) | (obtain ⟨_, _, rfl, _⟩ := h; rfl; done) | (obtain ⟨_, _, _, rfl, _⟩ := h; rfl; done) | (obtain ⟨_, _, _, _, rfl, _⟩ := h; rfl; done) | (obtain ⟨_, _, _, _, _, rfl, _⟩ := h; rfl; done) | (obtain ⟨_, _, _, _, _, _, rfl, _⟩ := h; rfl; done) | (obtain ⟨_, _, _, _, _, _, _, rfl, _⟩ := h; rfl; done) | (obtain ⟨_, _, _, _, _, _, _, _, rfl, _⟩ := h; rfl; done) | (obtain ⟨_, _, _, _, _, _, _, _, _, rfl, _⟩ := h; rfl; done) | (obtain ⟨_, _, _, _, _, _, _, _, _, _, rfl, _⟩ := h; rfl; done) | (obtain ⟨_, _, _, _, _, _, _, _, _, _, _, rfl, _⟩ := h; rfl; done) | (obtain ⟨_, _, _, _, _, _, _, _, _, _, _, _, rfl, _⟩ := h; rfl; done) | (obtain ⟨_, _, _, _, _, _, _, _, _, _, _, _, _, rfl, _⟩ := h; rfl; done) | (obtain ⟨_, _, _, _, _, _, _, _, _, _, _, _, _, _, rfl, _⟩ := h; rfl; done) | (rcases h with ⟨_, rfl, _⟩ | ⟨_, rfl, _⟩ <;> rfl; done) | (rcases h with ⟨_, rfl, _⟩ | ⟨_, _, rfl, _⟩ <;> rfl; done) | (rcases h with ⟨_, rfl, _⟩ | ⟨_, _, _, rfl, _⟩ <;> rfl; done) | (rcases h with ⟨_, rfl, _⟩ | ⟨_, _, _, _, rfl, _⟩ <;> rfl; done) | (rcases h with ⟨_, rfl, _⟩ | ⟨_, _, _, _, _, rfl, _⟩ <;> rfl; done) | (rcases h with ⟨_, rfl, _⟩ | ⟨_, _, _, _, _, _, rfl, _⟩ <;> rfl; done) | (rcases h with ⟨_, _, rfl, _⟩ | ⟨_, rfl, _⟩ <;> rfl; done) | (rcases h with ⟨_, _, rfl, _⟩ | ⟨_, _, rfl, _⟩ <;> rfl; done) | (rcases h with ⟨_, _, rfl, _⟩ | ⟨_, _, _, rfl, _⟩ <;> rfl; done) | (rcases h with ⟨_, _, rfl, _⟩ | ⟨_, _, _, _, rfl, _⟩ <;> rfl; done) | (rcases h with ⟨_, _, rfl, _⟩ | ⟨_, _, _, _, _, rfl, _⟩ <;> rfl; done) | (rcases h with ⟨_, _, rfl, _⟩ | ⟨_, _, _, _, _, _, rfl, _⟩ <;> rfl; done) | (rcases h with ⟨_, _, _, rfl, _⟩ | ⟨_, rfl, _⟩ <;> rfl; done) | (rcases h with ⟨_, _, _, rfl, _⟩ | ⟨_, _, rfl, _⟩ <;> rfl; done) | (rcases h with ⟨_, _, _, rfl, _⟩ | ⟨_, _, _, rfl, _⟩ <;> rfl; done) | (rcases h with ⟨_, _, _, rfl, _⟩ | ⟨_, _, _, _, rfl, _⟩ <;> rfl; done) | (rcases h with ⟨_, _, _, rfl, _⟩ | ⟨_, _, _, _, _, rfl, _⟩ <;> rfl; done) | (rcases h with ⟨_, _, _, rfl, _⟩ | ⟨_, _, _, _, _, _, rfl, _⟩ <;> rfl; done) | (rcases h with ⟨_, _, _, _, rfl, _⟩ | ⟨_, rfl, _⟩ <;> rfl; done) | (rcases h with ⟨_, _, _, _, rfl, _⟩ | ⟨_, _, rfl, _⟩ <;> rfl; done) | (rcases h with ⟨_, _, _, _, rfl, _⟩ | ⟨_, _, _, rfl, _⟩ <;> rfl; done) | (rcases h with ⟨_, _, _, _, rfl, _⟩ | ⟨_, _, _, _, rfl, _⟩ <;> rfl; done) | (rcases h with ⟨_, _, _, _, rfl, _⟩ | ⟨_, _, _, _, _, rfl, _⟩ <;> rfl; done) | (rcases h with ⟨_, _, _, _, rfl, _⟩ | ⟨_, _, _, _, _, _, rfl, _⟩ <;> rfl; done) | (rcases h with ⟨_, _, _, _, _, rfl, _⟩ | ⟨_, rfl, _⟩ <;> rfl; done) | (rcases h with ⟨_, _, _, _, _, rfl, _⟩ | ⟨_, _, rfl, _⟩ <;> rfl; done) | (rcases h with ⟨_, _, _, _, _, rfl, _⟩ | ⟨_, _, _, rfl, _⟩ <;> rfl; done) | (rcases h with ⟨_, _, _, _, _, rfl, _⟩ | ⟨_, _, _, _, rfl, _⟩ <;> rfl; done) | (rcases h with ⟨_, _, _, _, _, rfl, _⟩ | ⟨_, _, _, _, _, rfl, _⟩ <;> rfl; done) | (rcases h with ⟨_, _, _, _, _, rfl, _⟩ | ⟨_, _, _, _, _, _, rfl, _⟩ <;> rfl; done) | (rcases h with ⟨_, _, _, _, _, _, rfl, _⟩ | ⟨_, rfl, _⟩ <;> rfl; done) | (rcases h with ⟨_, _, _, _, _, _, rfl, _⟩ | ⟨_, _, rfl, _⟩ <;> rfl; done) | (rcases h with ⟨_, _, _, _, _, _, rfl, _⟩ | ⟨_, _, _, rfl, _⟩ <;> rfl; done) | (rcases h with ⟨_, _, _, _, _, _, rfl, _⟩ | ⟨_, _, _, _, rfl, _⟩ <;> rfl; done) | (rcases h with ⟨_, _, _, _, _, _, rfl, _⟩ | ⟨_, _, _, _, _, rfl, _⟩ <;> rfl; done) | (rcases h with ⟨_, _, _, _, _, _, rfl, _⟩ | ⟨_, _, _, _, _, _, rfl, _⟩ <;> rfl; done) | (rcases h with ⟨_, rfl, _⟩ | ⟨_, _, rfl, _⟩ <;> rfl) | (rcases h with ⟨_, rfl, _⟩ | ⟨_, rfl, _⟩ <;> rfl) | (rcases h with h | h | h <;> (first | (obtain ⟨rfl, _⟩ := h; rfl; done) | (obtain ⟨_, rfl, _⟩ := h; rfl; done) | (obtain ⟨_, _, rfl, _⟩ := h; rfl; done) | (obtain ⟨_, _, _, rfl, _⟩ := h; rfl; done) | (obtain ⟨_, _, _, _, rfl, _⟩ := h; rfl; done) | (obtain ⟨_, _, _, _, _, rfl, _⟩ := h; rfl; done) | (obtain ⟨_, _, _, _, _, _, rfl, _⟩ := h; rfl; done) | (obtain ⟨_, _, _, _, _, _, _, rfl, _⟩ := h; rfl; done) | (obtain ⟨_, _, _, _, _, _, _, _, rfl, _⟩ := h; rfl; done) | (obtain ⟨_, _, _, _, _, _, _, _, _, rfl, _⟩ := h; rfl; done) | (obtain ⟨_, _, _, _, _, _, _, _, _, _, rfl, _⟩ := h; rfl; done) | (obtain ⟨_, _, _, _, _, _, _, _, _, _, _, rfl, _⟩ := h; rfl; done) | (obtain ⟨_, _, _, _, _, _, _, _, _, _, _, _, rfl, _⟩ := h; rfl; done) | (obtain ⟨_, _, _, _, _, _, _, _, _, _, _, _, _, rfl, _⟩ := h; rfl; done) | (obtain ⟨_, _, _, _, _, _, _, _, _, _, _, _, _, _, rfl, _⟩ := h; rfl; done)))) (fun cdv A outer s H vs Q E hr h => ⟨t_with_end K a E, ?_, rd vs H Q E h⟩)
  exact (pss_cons (ps_set (i := 5) nd rfl (by first | exact Or.inl rfl | exact Or.inr rfl) (pe_callTy call_list_of (by rfl) T.n_list (by decide +kernel) (pa_cons (pv 0) pa_nil)))
      (pss_cons (ps_for (passes_of rfl) rfl (pi_range3 rfl T.n_range (pa_cons (pv 3) (pa_cons (pe_glob (v := (.int 32)) rfl T.g_ROUND ⟨_, rfl⟩) (pa_cons (pv 2) pa_nil)))) (pg_name (i := 6) nd rfl (by first | exact Or.inl rfl | exact Or.inr rfl)) (pss_one (ps_asg (pe_op op_add (pe_ix ix_list (pv 5) (pv 6) (fun _ _ => rfl)) (pe_op op_mul (pv 4) (pe_call G_cost (hr.mono (by decide)) rfl T.g_cost T.F_cost.kp T.b_cost .nil (passes_call (takes_of rfl rfl rfl rfl) (fun _ _ _ _ h => h)) (pa_cons (pv 1) pa_nil)))) (pg_sub (pv 5) (pv 6) set_list))))
      (pss_one (ps_ret (pe_callTy call_tuple_of (by rfl) T.n_tuple (by decide +kernel) (pa_cons (pv 5) pa_nil))))))
theorem ok_let_in (T : Txt K mg a)
    (G_phase_for : FnOk a.p a.w K mg base (L2.CX a.p a.w) 4 a.f_phase_for a.d_phase_for P_phase_for (sp_phase_for K a))
    (G_with_end : FnOk a.p a.w K mg base (L2.CX a.p a.w) 4 a.f_with_end a.d_with_end P_with_end (sp_with_end K a))
    (rd : RDX (sp_let_in K a) (t_let_in K a) N_let_in) :
    FnOk a.p a.w K mg base (L2.CX a.p a.w) 5 a.f_let_in a.d_let_in P_let_in (sp_let_in K a) := by
  have nd := sc_let_in.nd
  refine T.F_let_in.okX sc_let_in (fun vs H Q E h => by first | (obtain ⟨rfl, _⟩ := h; rfl; done) | (obtain ⟨_, rfl, _⟩ := h; rfl; done) | (obtain ⟨_, _, rfl, _⟩ := h; rfl; done) | (obtain ⟨_, _, _, rfl, _⟩ := h; rfl; done) | (obtain ⟨_, _, _, _, rfl, _⟩ := h; rfl; done) | (obtain ⟨_, _, _, _, _, rfl, _⟩ := h; rfl; done) | (obtain ⟨_, _, _, _, _, _, rfl, _⟩ := h; rfl; done) | (obtain ⟨_, _, _, _, _, _, _, rfl, _⟩ := h; rfl; done) | (obtain ⟨_, _, _, _, _, _, _, _, rfl, _⟩ := h; rfl; done) | (obtain ⟨_, _, _, _, _, _, _, _, _, rfl, _⟩ := h; rfl; done) | (obtain ⟨_, _, _, _, _, _, _, _, _, _, rfl, _⟩ := h; rfl; done) | (obtain ⟨_, _, _, _, _, _, _, _, _, _, _, rfl, _⟩ := h; rfl; done) | (obtain ⟨_, _, _, _, _, _, _, _, _, _, _, _, rfl, _⟩ := h; rfl; done) | (obtain ⟨_, _, _, _, _, _, _, _, _, _, _, _, _, rfl, _⟩ := h; rfl; done) | (obtain ⟨_, _, _, _, _, _, _, _, _, _, _, _, _, _, rfl, _⟩ := h; rfl; done) | (rcases h with ⟨_, rfl, _⟩ | ⟨_, rfl, _⟩ <;> rfl; done) | (rcases h with ⟨_, rfl, _⟩ | ⟨_, _, rfl, _⟩ <;> rfl; done) | (rcases h with ⟨_, rfl, _⟩ | ⟨_, _, _, rfl, _⟩ <;> rfl; done) | (rcases h with ⟨_, rfl, _⟩ | ⟨_, _, _, _, rfl, _⟩ <;> rfl; done) | (rcases h with ⟨_, rfl, _⟩ | ⟨_, _, _, _, _, rfl, _⟩ <;> rfl; done) | (rcases h with ⟨_, rfl, _⟩ | ⟨_, _, _, _, _, _, rfl, _⟩ <;> rfl; done) | (rcases h with ⟨_, _, rfl, _⟩ | ⟨_, rfl, _⟩ <;> rfl; done) | (rcases h with ⟨_, _, rfl, _⟩ | ⟨_, _, rfl, _⟩ <;> rfl; done) | (rcases h with ⟨_, _, rfl, _⟩ | ⟨_, _, _, rfl, _⟩ <;> rfl; done) | (rcases h with ⟨_, _, rfl, _⟩ | ⟨_, _, _, _, rfl, _⟩ <;> rfl; done) | (rcases h with ⟨_, _, rfl, _⟩ | ⟨_, _, _, _, _, rfl, _⟩ <;> rfl; done) | (rcases h with ⟨_, _, rfl, _⟩ | ⟨_, _, _, _, _, _, rfl, _⟩ <;> rfl; done) | (rcases h with ⟨_, _, _, rfl, _⟩ | ⟨_, rfl, _⟩ <;> rfl; done) | (rcases h with ⟨_, _, _, rfl, _⟩ | ⟨_, _, rfl, _⟩ <;> rfl; done) | (rcases h with ⟨_, _, _, rfl, _⟩ | ⟨_, _, _, rfl, _⟩ <;> rfl; done) | (rcases h with ⟨_, _, _, rfl, _⟩ | ⟨_, _, _, _, rfl, _⟩ <;> rfl; done) | (rcases h with ⟨_, _, _, rfl, _⟩ | ⟨_, _, _, _, _, rfl, _⟩ <;> rfl; done) | (rcases h with ⟨_, _, _, rfl, _⟩ | ⟨_, _, _, _, _, _, rfl, _⟩ <;> rfl; done) | (rcases h with ⟨_, _, _, _, rfl, _⟩ | ⟨_, rfl, _⟩ <;> rfl; done) | (rcases h with ⟨_, _, _, _, rfl, _⟩ | ⟨_, _, rfl, _⟩ <;> rfl; done) | (rcases h with ⟨_, _, _, _, rfl, _⟩ | ⟨_, _, _, rfl, _⟩ <;> rfl; done) | (rcases h with ⟨_, _, _, _, rfl, _⟩ | ⟨_, _, _, _, rfl, _⟩ <;> rfl; done) | (rcases h with ⟨_, _, _, _, rfl, _⟩ | ⟨_, _, _, _, _, rfl, _⟩ <;> rfl; done) | (rcases h with ⟨_, _, _, _, rfl, _⟩ | ⟨_, _, _, _, _, _, rfl, _⟩ <;> rfl; done) | (rcases h with ⟨_, _, _, _, _, rfl, _⟩ | ⟨_, rfl, _⟩ <;> rfl; done) | (rcases h with ⟨_, _, _, _, _, rfl, _⟩ | ⟨_, _, rfl, _⟩ <;> rfl; done) | (rcases h with ⟨_, _, _, _, _, rfl, _⟩ | ⟨_, _, _, rfl, _⟩ <;> rfl; done) | (rcases h with ⟨_, _, _, _, _, rfl, _⟩ | ⟨_, _, _, _, rfl, _⟩ <;> rfl; done) | (rcases h with ⟨_, _, _, _, _, rfl, _⟩ | ⟨_, _, _, _, _, rfl, _⟩ <;> rfl; done) | (rcases h with ⟨_, _, _, _, _, rfl, _⟩ | ⟨_, _, _, _, _, _, rfl, _⟩ <;> rfl; done) | (rcases h with ⟨_, _, _, _, _, _, rfl, _⟩ | ⟨_, rfl, _⟩ <;> rfl; done) | (rcases h with ⟨_, _, _, _, _, _, rfl, _⟩ | ⟨_, _, rfl, _⟩ <;> rfl; done) | (rcases h with ⟨_, _, _, _, _, _, rfl, _⟩ | ⟨_, _, _, rfl, _⟩ <;> rfl; done) | (rcases h with ⟨_, _, _, _, _, _, rfl, _⟩ | ⟨_, _, _, _, rfl, _⟩ <;> rfl; done) | (rcases h with ⟨_, _, _, _, _, _, rfl, _⟩ | ⟨_, _, _, _, _, rfl, _⟩ <;> rfl; done) | (rcases h with ⟨_, _, _, _, _, _, rfl, _⟩ | ⟨_, _, _, _, _, _, rfl, _⟩ <;> rfl; done) | (rcases h with ⟨_, rfl, _⟩ | ⟨_, _, rfl, _⟩ <;> rfl) | (rcases h with ⟨_, rfl, _⟩ | ⟨_, rfl, _⟩ <;> rfl) | (rcases h with h | h | h <;> (first | (obtain ⟨rfl, _⟩ := h; rfl; done) | (obtain ⟨_, rfl, _⟩ := h; rfl; done) | (obtain ⟨_, _, rfl, _⟩ := h; rfl; done) | (obtain ⟨_, _, _, rfl, _⟩ := h; rfl; done) | (obtain ⟨_, _, _, _, rfl, _⟩ := h; rfl; done) | (obtain ⟨_, _, _, _, _, rfl, _⟩ := h; rfl; done) | (obtain ⟨_, _, _, _, _, _, rfl, _⟩ := h; rfl; done) | (obtain ⟨_, _, _, _, _, _, _, rfl, _⟩ := h; rfl; done) | (obtain ⟨_, _, _, _, _, _, _, _, rfl, _⟩ := h; rfl; done) | (obtain ⟨_, _, _, _, _, _, _, _, _, rfl, _⟩ := h; rfl; done) | (obtain ⟨_, _, _, _, _, _, _, _, _, _, rfl, _⟩ := h; rfl; done) | (obtain ⟨_, _, _, _, _, _, _, _, _, _, _, rfl, _⟩ := h; rfl; done) | (obtain ⟨_, _, _, _, _, _, _, _, _, _, _, _, rfl, _⟩ := h; rfl; done) | (obtain ⟨_, _, _, _, _, _, _, _, _, _, _, _, _, rfl, _⟩ := h; rfl; done) | (obtain ⟨_, _, _, _, _, _, _, _, _, _, _, _, _, _, rfl, _⟩ := h; rfl; done)))) (fun cdv A outer s H vs Q E hr h => ⟨t_let_in K a E, ?_, rd vs H Q E h⟩)
  exact (pss_cons (ps_set (i := 2) nd rfl (by first | exact Or.inl rfl | exact Or.inr rfl) (pe_lst pa_nil))
      (pss_cons (ps_for (passes_of rfl) rfl (pi_tup (pv 1)) (pg_tup rfl (pgs_cons (pg_name (i := 3) nd rfl (by first | exact Or.inl rfl | exact Or.inr rfl)) (pgs_cons (pg_name (i := 4) nd rfl (by first | exact Or.inl rfl | exact Or.inr rfl)) (pgs_cons (pg_name (i := 5) nd rfl (by first | exact Or.inl rfl | exact Or.inr rfl)) (pgs_cons (pg_name (i := 6) nd rfl (by first | exact Or.inl rfl | exact Or.inr rfl)) (pgs_cons (pg_name (i := 7) nd rfl (by first | exact Or.inl rfl | exact Or.inr rfl)) pgs_nil)))))) (pss_one (ps_if (pt_cmpR op_eq (pv 5) pe_str (nomark _)) (pss_cons (ps_set (i := 8) nd rfl (by first | exact Or.inl rfl | exact Or.inr rfl) (pe_call G_phase_for (hr.mono (by decide)) rfl T.g_phase_for T.F_phase_for.kp T.b_phase_for .nil (passes_call (takes_of rfl rfl rfl rfl) (fun _ _ _ _ h => h)) (pa_cons (pv 0) (pa_cons (pv 6) (pa_cons (pv 7) pa_nil)))))
      (pss_cons (ps_set (i := 0) nd rfl (by first | exact Or.inl rfl | exact Or.inr rfl) (pe_call G_with_end (hr.mono (by decide)) rfl T.g_with_end T.F_with_end.kp T.b_with_end.choose_spec.2 T.b_with_end.choose_spec.1 (passes_call (takes_of rfl rfl rfl rfl) (fun _ _ _ _ h => h)) (pa_cons (pv 0) (pa_cons (pv 6) (pa_cons (pv 7) (pa_cons (pv 8) pa_nil))))))
      (pss_one (ps_expr (pe_bm PySem.F.plainAttrs_list PySem.F.slot_list_append PySem.F.type_list_append mt_append (pv 2) (pa_cons (pe_tup (pa_cons (pe_tup (pa_cons (pv 3) (pa_cons (pv 4) pa_nil))) (pa_cons (pv 8) pa_nil))) pa_nil)))))) pss_nil)))
      (pss_one (ps_ret (pe_tup (pa_cons (pe_callTy call_tuple_of (by rfl) T.n_tuple (by decide +kernel) (pa_cons (pv 0) pa_nil)) (pa_cons (pv 2) pa_nil)))))))
theorem ok__law_bag (T : Txt K mg a)
    (rd : RD (sp__law_bag K a) (t__law_bag K a) N__law_bag) :
    FnOk a.p a.w K mg base CX0 1 a.f__law_bag a.d__law_bag P__law_bag (sp__law_bag K a) := by
  have nd := sc__law_bag.nd
  refine T.F__law_bag.ok sc__law_bag (fun vs H Q E h => by first | (obtain ⟨rfl, _⟩ := h; rfl; done) | (obtain ⟨_, rfl, _⟩ := h; rfl; done) | (obtain ⟨_, _, rfl, _⟩ := h; rfl; done) | (obtain ⟨_, _, _, rfl, _⟩ := h; rfl; done) | (obtain ⟨_, _, _, _, rfl, _⟩ := h; rfl; done) | (obtain ⟨_, _, _, _, _, rfl, _⟩ := h; rfl; done) | (obtain ⟨_, _, _, _, _, _, rfl, _⟩ := h; rfl; done) | (obtain ⟨_, _, _, _, _, _, _, rfl, _⟩ := h; rfl; done) | (obtain ⟨_, _, _, _, _, _, _, _, rfl, _⟩ := h; rfl; done) | (obtain ⟨_, _, _, _, _, _, _, _, _, rfl, _⟩ := h; rfl; done) | (obtain ⟨_, _, _, _, _, _, _, _, _, _, rfl, _⟩ := h; rfl; done) | (obtain ⟨_, _, _, _, _, _, _, _, _, _, _, rfl, _⟩ := h; rfl; done) | (obtain ⟨_, _, _, _, _, _, _, _, _, _, _, _, rfl, _⟩ := h; rfl; done) | (obtain ⟨_, _, _, _, _, _, _, _, _, _, _, _, _, rfl, _⟩ := h; rfl; done) | (obtain ⟨_, _, _, _, _, _, _, _, _, _, _, _, _, _, rfl, _⟩ := h; rfl; done) | (rcases h with ⟨_, rfl, _⟩ | ⟨_, rfl, _⟩ <;> rfl; done) | (rcases h with ⟨_, rfl, _⟩ | ⟨_, _, rfl, _⟩ <;> rfl; done) | (rcases h with ⟨_, rfl, _⟩ | ⟨_, _, _, rfl, _⟩ <;> rfl; done) | (rcases h with ⟨_, rfl, _⟩ | ⟨_, _, _, _, rfl, _⟩ <;> rfl; done) | (rcases h with ⟨_, rfl, _⟩ | ⟨_, _, _, _, _, rfl, _⟩ <;> rfl; done) | (rcases h with ⟨_, rfl, _⟩ | ⟨_, _, _, _, _, _, rfl, _⟩ <;> rfl; done) | (rcases h with ⟨_, _, rfl, _⟩ | ⟨_, rfl, _⟩ <;> rfl; done) | (rcases h with ⟨_, _, rfl, _⟩ | ⟨_, _, rfl, _⟩ <;> rfl; done) | (rcases h with ⟨_, _, rfl, _⟩ | ⟨_, _, _, rfl, _⟩ <;> rfl; done) | (rcases h with ⟨_, _, rfl, _⟩ | ⟨_, _, _, _, rfl, _⟩ <;> rfl; done) | (rcases h with ⟨_, _, rfl, _⟩ | ⟨_, _, _, _, _, rfl, _⟩ <;> rfl; done) | (rcases h with ⟨_, _, rfl, _⟩ | ⟨_, _, _, _, _, _, rfl, _⟩ <;> rfl; done) | (rcases h with ⟨_, _, _, rfl, _⟩ | ⟨_, rfl, _⟩ <;> rfl; done) | (rcases h with ⟨_, _, _, rfl, _⟩ | ⟨_, _, rfl, _⟩ <;> rfl; done) | (rcases h with ⟨_, _, _, rfl, _⟩ | ⟨_, _, _, rfl, _⟩ <;> rfl; done) | (rcases h with ⟨_, _, _, rfl, _⟩ | ⟨_, _, _, _, rfl, _⟩ <;> rfl; done) | (rcases h with ⟨_, _, _, rfl, _⟩ | ⟨_, _, _, _, _, rfl, _⟩ <;> rfl; done) | (rcases h with ⟨_, _, _, rfl, _⟩ | ⟨_, _, _, _, _, _, rfl, _⟩ <;> rfl; done) | (rcases h with ⟨_, _, _, _, rfl, _⟩ | ⟨_, rfl, _⟩ <;> rfl; done) | (rcases h with ⟨_, _, _, _, rfl, _⟩ | ⟨_, _, rfl, _⟩ <;> rfl; done) | (rcases h with ⟨_, _, _, _, rfl, _⟩ | ⟨_, _, _, rfl, _⟩ <;> rfl; done) | (rcases h with ⟨_, _, _, _, rfl, _⟩ | ⟨_, _, _, _, rfl, _⟩ <;> rfl; done) | (rcases h with ⟨_, _, _, _, rfl, _⟩ | ⟨_, _, _, _, _, rfl, _⟩ <;> rfl; done) | (rcases h with ⟨_, _, _, _, rfl, _⟩ | ⟨_, _, _, _, _, _, rfl, _⟩ <;> rfl; done) | (rcases h with ⟨_, _, _, _, _, rfl, _⟩ | ⟨_, rfl, _⟩ <;> rfl; done) | (rcases h with ⟨_, _, _, _, _, rfl, _⟩ | ⟨_, _, rfl, _⟩ <;> rfl; done) | (rcases h with ⟨_, _, _, _, _, rfl, _⟩ | ⟨_, _, _, rfl, _⟩ <;> rfl; done) | (rcases h with ⟨_, _, _, _, _, rfl, _⟩ | ⟨_, _, _, _, rfl, _⟩ <;> rfl; done) | (rcases h with ⟨_, _, _, _, _, rfl, _⟩ | ⟨_, _, _, _, _, rfl, _⟩ <;> rfl; done) | (rcases h with ⟨_, _, _, _, _, rfl, _⟩ | ⟨_, _, _, _, _, _, rfl, _⟩ <;> rfl; done) | (rcases h with ⟨_, _, _, _, _, _, rfl, _⟩ | ⟨_, rfl, _⟩ <;> rfl; done) | (rcases h with ⟨_, _, _, _, _, _, rfl, _⟩ | ⟨_, _, rfl, _⟩ <;> rfl; done) | (rcases h with ⟨_, _, _, _, _, _, rfl, _⟩ | ⟨_, _, _, rfl, _⟩ <;> rfl; done) | (rcases h with ⟨_, _, _, _, _, _, rfl, _⟩ | ⟨_, _, _, _, rfl, _⟩ <;> rfl; done) | (rcases h with ⟨_, _, _, _, _, _, rfl, _⟩ | ⟨_, _, _, _, _, rfl, _⟩ <;> rfl; done) | (rcases h with ⟨_, _, _, _, _, _, rfl, _⟩ | ⟨_, _, _, _, _, _, rfl, _⟩ <;> rfl; done) | (rcases h with ⟨_, rfl, _⟩ | ⟨_, _, rfl, _⟩ <;> rfl) | (rcases h with ⟨_, rfl, _⟩ | ⟨_, rfl, _⟩ <;> rfl) | (rcases h with h | h | h <;> (first | (obtain ⟨rfl, _⟩ := h; rfl; done) | (obtain ⟨_, rfl, _⟩ := h; rfl; done) | (obtain ⟨_, _, rfl, _⟩ := h; rfl; done) | (obtain ⟨_, _, _, rfl, _⟩ := h; rfl; done) | (obtain ⟨_, _, _, _, rfl, _⟩ := h; rfl; done) | (obtain ⟨_, _, _, _, _, rfl, _⟩ := h; rfl; done) | (obtain ⟨_, _, _, _, _, _, rfl, _⟩ := h; rfl; done) | (obtain ⟨_, _, _, _, _, _, _, rfl, _⟩ := h; rfl; done) | (obtain ⟨_, _, _, _, _, _, _, _, rfl, _⟩ := h; rfl; done) | (obtain ⟨_, _, _, _, _, _, _, _, _, rfl, _⟩ := h; rfl; done) | (obtain ⟨_, _, _, _, _, _, _, _, _, _, rfl, _⟩ := h; rfl; done) | (obtain ⟨_, _, _, _, _, _, _, _, _, _, _, rfl, _⟩ := h; rfl; done) | (obtain ⟨_, _, _, _, _, _, _, _, _, _, _, _, rfl, _⟩ := h; rfl; done) | (obtain ⟨_, _, _, _, _, _, _, _, _, _, _, _, _, rfl, _⟩ := h; rfl; done) | (obtain ⟨_, _, _, _, _, _, _, _, _, _, _, _, _, _, rfl, _⟩ := h; rfl; done)))) (fun cdv A outer s H vs Q E hr h => ⟨t__law_bag K a, ?_, rd vs H Q E h⟩)
  exact (pss_cons (ps_set (i := 1) nd rfl (by first | exact Or.inl rfl | exact Or.inr rfl) (pe_callTy call_list_of (by rfl) T.n_list (by decide +kernel) (pa_cons (pe_slice sl_list (pv 0) po_none (po_some pe_int)) pa_nil)))
      (pss_cons (ps_set (i := 2) nd rfl (by first | exact Or.inl rfl | exact Or.inr rfl) (pe_op op_add pe_int (pe_callB call_len_seq (by rfl) T.n_len (by decide +kernel) (pa_cons (pv 1) pa_nil))))
      (pss_cons (ps_for PassesOwn.never rfl (pi_list (pv 1)) (pg_name (i := 3) nd rfl (by first | exact Or.inl rfl | exact Or.inr rfl)) (pss_one (ps_set (i := 2) nd rfl (by first | exact Or.inl rfl | exact Or.inr rfl) (pe_op op_mod (pe_op op_add (pe_op op_mul (pv 2) pe_int) (pv 3)) pe_int))))
      (pss_one (ps_ret (pe_lst (pa_cons (pv 1) (pa_cons pe_int (pa_cons pe_int (pa_cons (pv 2) pa_nil))))))))))
theorem ok__law_pull (T : Txt K mg a)
    (rd : RD (sp__law_pull K a) (t__law_pull K a) N__law_pull) :
    FnOk a.p a.w K mg base CX0 1 a.f__law_pull a.d__law_pull P__law_pull (sp__law_pull K a) := by
  have nd := sc__law_pull.nd
  refine T.F__law_pull.ok sc__law_pull (fun vs H Q E h => by first | (obtain ⟨rfl, _⟩ := h; rfl; done) | (obtain ⟨_, rfl, _⟩ := h; rfl; done) | (obtain ⟨_, _, rfl, _⟩ := h; rfl; done) | (obtain ⟨_, _, _, rfl, _⟩ := h; rfl; done) | (obtain ⟨_, _, _, _, rfl, _⟩ := h; rfl; done) | (obtain ⟨_, _, _, _, _, rfl, _⟩ := h; rfl; done) | (obtain ⟨_, _, _, _, _, _, rfl, _⟩ := h; rfl; done) | (obtain ⟨_, _, _, _, _, _, _, rfl, _⟩ := h; rfl; done) | (obtain ⟨_, _, _, _, _, _, _, _, rfl, _⟩ := h; rfl; done) | (obtain ⟨_, _, _, _, _, _, _, _, _, rfl, _⟩ := h; rfl; done) | (obtain ⟨_, _, _, _, _, _, _, _, _, _, rfl, _⟩ := h; rfl; done) | (obtain ⟨_, _, _, _, _, _, _, _, _, _, _, rfl, _⟩ := h; rfl; done) | (obtain ⟨_, _, _, _, _, _, _, _, _, _, _, _, rfl, _⟩ := h; rfl; done) | (obtain ⟨_, _, _, _, _, _, _, _, _, _, _, _, _, rfl, _⟩ := h; rfl; done) | (obtain ⟨_, _, _, _, _, _, _, _, _, _, _, _, _, _, rfl, _⟩ := h; rfl; done) | (rcases h with ⟨_, rfl, _⟩ | ⟨_, rfl, _⟩ <;> rfl; done) | (rcases h with ⟨_, rfl, _⟩ | ⟨_, _, rfl, _⟩ <;> rfl; done) | (rcases h with ⟨_, rfl, _⟩ | ⟨_, _, _, rfl, _⟩ <;> rfl; done) | (rcases h with ⟨_, rfl, _⟩ | ⟨_, _, _, _, rfl, _⟩ <;> rfl; done) | (rcases h with ⟨_, rfl, _⟩ | ⟨_, _, _, _, _, rfl, _⟩ <;> rfl; done) | (rcases h with ⟨_, rfl, _⟩ | ⟨_, _, _, _, _, _, rfl, _⟩ <;> rfl; done) | (rcases h with ⟨_, _, rfl, _⟩ | ⟨_, rfl, _⟩ <;> rfl; done) | (rcases h with ⟨_, _, rfl, _⟩ | ⟨_, _, rfl, _⟩ <;> rfl; done) | (rcases h with ⟨_, _, rfl, _⟩ | ⟨_, _, _, rfl, _⟩ <;> rfl; done) | (rcases h with ⟨_, _, rfl, _⟩ | ⟨_, _, _, _, rfl, _⟩ <;> rfl; done) | (rcases h with ⟨_, _, rfl, _⟩ | ⟨_, _, _, _, _, rfl, _⟩ <;> rfl; done) | (rcases h with ⟨_, _, rfl, _⟩ | ⟨_, _, _, _, _, _, rfl, _⟩ <;> rfl; done) | (rcases h with ⟨_, _, _, rfl, _⟩ | ⟨_, rfl, _⟩ <;> rfl; done) | (rcases h with ⟨_, _, _, rfl, _⟩ | ⟨_, _, rfl, _⟩ <;> rfl; done) | (rcases h with ⟨_, _, _, rfl, _⟩ | ⟨_, _, _, rfl, _⟩ <;> rfl; done) | (rcases h with ⟨_, _, _, rfl, _⟩ | ⟨_, _, _, _, rfl, _⟩ <;> rfl; done) | (rcases h with ⟨_, _, _, rfl, _⟩ | ⟨_, _, _, _, _, rfl, _⟩ <;> rfl; done) | (rcases h with ⟨_, _, _, rfl, _⟩ | ⟨_, _, _, _, _, _, rfl, _⟩ <;> rfl; done) | (rcases h with ⟨_, _, _, _, rfl, _⟩ | ⟨_, rfl, _⟩ <;> rfl; done) | (rcases h with ⟨_, _, _, _, rfl, _⟩ | ⟨_, _, rfl, _⟩ <;> rfl; done) | (rcases h with ⟨_, _, _, _, rfl, _⟩ | ⟨_, _, _, rfl, _⟩ <;> rfl; done) | (rcases h with ⟨_, _, _, _, rfl, _⟩ | ⟨_, _, _, _, rfl, _⟩ <;> rfl; done) | (rcases h with ⟨_, _, _, _, rfl, _⟩ | ⟨_, _, _, _, _, rfl, _⟩ <;> rfl; done) | (rcases h with ⟨_, _, _, _, rfl, _⟩ | ⟨_, _, _, _, _, _, rfl, _⟩ <;> rfl; done) | (rcases h with ⟨_, _, _, _, _, rfl, _⟩ | ⟨_, rfl, _⟩ <;> rfl; done) | (rcases h with ⟨_, _, _, _, _, rfl, _⟩ | ⟨_, _, rfl, _⟩ <;> rfl; done) | (rcases h with ⟨_, _, _, _, _, rfl, _⟩ | ⟨_, _, _, rfl, _⟩ <;> rfl; done) | (rcases h with ⟨_, _, _, _, _, rfl, _⟩ | ⟨_, _, _, _, rfl, _⟩ <;> rfl; done) | (rcases h with ⟨_, _, _, _, _, rfl, _⟩ | ⟨_, _, _, _, _, rfl, _⟩ <;> rfl; done) | (rcases h with ⟨_, _, _, _, _, rfl, _⟩ | ⟨_, _, _, _, _, _, rfl, _⟩ <;> rfl; done) | (rcases h with ⟨_, _, _, _, _, _, rfl, _⟩ | ⟨_, rfl, _⟩ <;> rfl; done) | (rcases h with ⟨_, _, _, _, _, _, rfl, _⟩ | ⟨_, _, rfl, _⟩ <;> rfl; done) | (rcases h with ⟨_, _, _, _, _, _, rfl, _⟩ | ⟨_, _, _, rfl, _⟩ <;> rfl; done) | (rcases h with ⟨_, _, _, _, _, _, rfl, _⟩ | ⟨_, _, _, _, rfl, _⟩ <;> rfl; done) | (rcases h with ⟨_, _, _, _, _, _, rfl, _⟩ | ⟨_, _, _, _, _, rfl, _⟩ <;> rfl; done) | (rcases h with ⟨_, _, _, _, _, _, rfl, _⟩ | ⟨_, _, _, _, _, _, rfl, _⟩ <;> rfl; done) | (rcases h with ⟨_, rfl, _⟩ | ⟨_, _, rfl, _⟩ <;> rfl) | (rcases h with ⟨_, rfl, _⟩ | ⟨_, rfl, _⟩ <;> rfl) | (rcases h with h | h | h <;> (first | (obtain ⟨rfl, _⟩ := h; rfl; done) | (obtain ⟨_, rfl, _⟩ := h; rfl; done) | (obtain ⟨_, _, rfl, _⟩ := h; rfl; done) | (obtain ⟨_, _, _, rfl, _⟩ := h; rfl; done) | (obtain ⟨_, _, _, _, rfl, _⟩ := h; rfl; done) | (obtain ⟨_, _, _, _, _, rfl, _⟩ := h; rfl; done) | (obtain ⟨_, _, _, _, _, _, rfl, _⟩ := h; rfl; done) | (obtain ⟨_, _, _, _, _, _, _, rfl, _⟩ := h; rfl; done) | (obtain ⟨_, _, _, _, _, _, _, _, rfl, _⟩ := h; rfl; done) | (obtain ⟨_, _, _, _, _, _, _, _, _, rfl, _⟩ := h; rfl; done) | (obtain ⟨_, _, _, _, _, _, _, _, _, _, rfl, _⟩ := h; rfl; done) | (obtain ⟨_, _, _, _, _, _, _, _, _, _, _, rfl, _⟩ := h; rfl; done) | (obtain ⟨_, _, _, _, _, _, _, _, _, _, _, _, rfl, _⟩ := h; rfl; done) | (obtain ⟨_, _, _, _, _, _, _, _, _, _, _, _, _, rfl, _⟩ := h; rfl; done) | (obtain ⟨_, _, _, _, _, _, _, _, _, _, _, _, _, _, rfl, _⟩ := h; rfl; done)))) (fun cdv A outer s H vs Q E hr h => ⟨t__law_pull K a, ?_, rd vs H Q E h⟩)
  exact (pss_cons (ps_if (pt_cmpR op_lt (pe_ix ix_list (pv 0) pe_int (fun _ _ => rfl)) pe_int (nomark _)) (pss_cons (ps_asg (pe_op op_add (pe_ix ix_list (pv 0) pe_int (fun _ _ => rfl)) pe_int) (pg_sub (pv 0) pe_int set_list))
      (pss_cons (ps_set (i := 2) nd rfl (by first | exact Or.inl rfl | exact Or.inr rfl) (pe_op op_add (pe_ix ix_list (pv 0) pe_int (fun _ _ => rfl)) (pe_op op_mul (pe_ix ix_list (pv 0) pe_int (fun _ _ => rfl)) pe_int)))
      (pss_cons (ps_if (pt_cmpR op_le (pe_ix ix_list (pv 0) pe_int (fun _ _ => rfl)) (pe_callB call_len_seq (by rfl) T.n_len (by decide +kernel) (pa_cons (pe_ix ix_list (pv 0) pe_int (fun _ _ => rfl)) pa_nil)) (nomark _)) (pss_one (ps_set (i := 2) nd rfl (by first | exact Or.inl rfl | exact Or.inr rfl) (pe_ix ix_list (pe_ix ix_list (pv 0) pe_int (fun _ _ => rfl)) (pe_op op_sub (pe_ix ix_list (pv 0) pe_int (fun _ _ => rfl)) pe_int) (fun _ _ => rfl)))) pss_nil)
      (pss_cons (ps_if (PW.pt (pw_or (pt_cmpR op_gt (pe_ix ix_list (pv 0) pe_int (fun _ _ => rfl)) (pe_callB call_len_seq (by rfl) T.n_len (by decide +kernel) (pa_cons (pe_ix ix_list (pv 0) pe_int (fun _ _ => rfl)) pa_nil)) (nomark _)) (pw_or1 (pt_cmpR op_lt (pv 2) (pe_op op_pow pe_int pe_int) (nomark _))))) (pss_cons (ps_set (i := 3) nd rfl (by first | exact Or.inl rfl | exact Or.inr rfl) (pe_op op_mod (pe_op op_add (pe_op op_add (pe_op op_mul (pv 2) pe_int) (pe_op op_mul (pe_ix ix_list (pv 0) pe_int (fun _ _ => rfl)) pe_int)) (pe_ix ix_list (pv 0) pe_int (fun _ _ => rfl))) pe_int))
      (pss_cons (ps_set (i := 4) nd rfl (by first | exact Or.inl rfl | exact Or.inr rfl) (pe_op op_mod (pe_op op_add (pe_op op_mul (pv 3) (pv 3)) (pe_ix ix_list (pv 0) pe_int (fun _ _ => rfl))) pe_int))
      (pss_one (ps_ret (pe_op op_mod (pe_op op_fdivW (pe_op op_mod (pe_op op_add (pe_op op_mul (pv 4) pe_int) (pv 3)) pe_int) pe_int) (pv 1)))))) pss_nil)
      (pss_one (ps_asg (pv 2) (pg_sub (pv 0) pe_int set_list))))))) pss_nil)
      (pss_cons (ps_set (i := 5) nd rfl (by first | exact Or.inl rfl | exact Or.inr rfl) (pe_op op_mod (pe_ix ix_list (pv 0) pe_int (fun _ _ => rfl)) (pv 1)))
      (pss_cons (ps_asg (pe_op op_fdivW (pe_ix ix_list (pv 0) pe_int (fun _ _ => rfl)) (pv 1)) (pg_sub (pv 0) pe_int set_list))
      (pss_one (ps_ret (pv 5))))))
theorem ok__law_whole (T : Txt K mg a)
    (rd : RD (sp__law_whole K a) (t__law_whole K a) N__law_whole) :
    FnOk a.p a.w K mg base CX0 1 a.f__law_whole a.d__law_whole P__law_whole (sp__law_whole K a) := by
  have nd := sc__law_whole.nd
  refine T.F__law_whole.ok sc__law_whole (fun vs H Q E h => by first | (obtain ⟨rfl, _⟩ := h; rfl; done) | (obtain ⟨_, rfl, _⟩ := h; rfl; done) | (obtain ⟨_, _, rfl, _⟩ := h; rfl; done) | (obtain ⟨_, _, _, rfl, _⟩ := h; rfl; done) | (obtain ⟨_, _, _, _, rfl, _⟩ := h; rfl; done) | (obtain ⟨_, _, _, _, _, rfl, _⟩ := h; rfl; done) | (obtain ⟨_, _, _, _, _, _, rfl, _⟩ := h; rfl; done) | (obtain ⟨_, _, _, _, _, _, _, rfl, _⟩ := h; rfl; done) | (obtain ⟨_, _, _, _, _, _, _, _, rfl, _⟩ := h; rfl; done) | (obtain ⟨_, _, _, _, _, _, _, _, _, rfl, _⟩ := h; rfl; done) | (obtain ⟨_, _, _, _, _, _, _, _, _, _, rfl, _⟩ := h; rfl; done) | (obtain ⟨_, _, _, _, _, _, _, _, _, _, _, rfl, _⟩ := h; rfl; done) | (obtain ⟨_, _, _, _, _, _, _, _, _, _, _, _, rfl, _⟩ := h; rfl; done) | (obtain ⟨_, _, _, _, _, _, _, _, _, _, _, _, _, rfl, _⟩ := h; rfl; done) | (obtain ⟨_, _, _, _, _, _, _, _, _, _, _, _, _, _, rfl, _⟩ := h; rfl; done) | (rcases h with ⟨_, rfl, _⟩ | ⟨_, rfl, _⟩ <;> rfl; done) | (rcases h with ⟨_, rfl, _⟩ | ⟨_, _, rfl, _⟩ <;> rfl; done) | (rcases h with ⟨_, rfl, _⟩ | ⟨_, _, _, rfl, _⟩ <;> rfl; done) | (rcases h with ⟨_, rfl, _⟩ | ⟨_, _, _, _, rfl, _⟩ <;> rfl; done) | (rcases h with ⟨_, rfl, _⟩ | ⟨_, _, _, _, _, rfl, _⟩ <;> rfl; done) | (rcases h with ⟨_, rfl, _⟩ | ⟨_, _, _, _, _, _, rfl, _⟩ <;> rfl; done) | (rcases h with ⟨_, _, rfl, _⟩ | ⟨_, rfl, _⟩ <;> rfl; done) | (rcases h with ⟨_, _, rfl, _⟩ | ⟨_, _, rfl, _⟩ <;> rfl; done) | (rcases h with ⟨_, _, rfl, _⟩ | ⟨_, _, _, rfl, _⟩ <;> rfl; done) | (rcases h with ⟨_, _, rfl, _⟩ | ⟨_, _, _, _, rfl, _⟩ <;> rfl; done) | (rcases h with ⟨_, _, rfl, _⟩ | ⟨_, _, _, _, _, rfl, _⟩ <;> rfl; done) | (rcases h with ⟨_, _, rfl, _⟩ | ⟨_, _, _, _, _, _, rfl, _⟩ <;> rfl; done) | (rcases h with ⟨_, _, _, rfl, _⟩ | ⟨_, rfl, _⟩ <;> rfl; done) | (rcases h with ⟨_, _, _, rfl, _⟩ | ⟨_, _, rfl, _⟩ <;> rfl; done) | (rcases h with ⟨_, _, _, rfl, _⟩ | ⟨_, _, _, rfl, _⟩ <;> rfl; done) | (rcases h with ⟨_, _, _, rfl, _⟩ | ⟨_, _, _, _, rfl, _⟩ <;> rfl; done) | (rcases h with ⟨_, _, _, rfl, _⟩ | ⟨_, _, _, _, _, rfl, _⟩ <;> rfl; done) | (rcases h with ⟨_, _, _, rfl, _⟩ | ⟨_, _, _, _, _, _, rfl, _⟩ <;> rfl; done) | (rcases h with ⟨_, _, _, _, rfl, _⟩ | ⟨_, rfl, _⟩ <;> rfl; done) | (rcases h with ⟨_, _, _, _, rfl, _⟩ | ⟨_, _, rfl, _⟩ <;> rfl; done) | (rcases h with ⟨_, _, _, _, rfl, _⟩ | ⟨_, _, _, rfl, _⟩ <;> rfl; done) | (rcases h with ⟨_, _, _, _, rfl, _⟩ | ⟨_, _, _, _, rfl, _⟩ <;> rfl; done) | (rcases h with ⟨_, _, _, _, rfl, _⟩ | ⟨_, _, _, _, _, rfl, _⟩ <;> rfl; done) | (rcases h with ⟨_, _, _, _, rfl, _⟩ | ⟨_, _, _, _, _, _, rfl, _⟩ <;> rfl; done) | (rcases h with ⟨_, _, _, _, _, rfl, _⟩ | ⟨_, rfl, _⟩ <;> rfl; done) | (rcases h with ⟨_, _, _, _, _, rfl, _⟩ | ⟨_, _, rfl, _⟩ <;> rfl; done) | (rcases h with ⟨_, _, _, _, _, rfl, _⟩ | ⟨_, _, _, rfl, _⟩ <;> rfl; done) | (rcases h with ⟨_, _, _, _, _, rfl, _⟩ | ⟨_, _, _, _, rfl, _⟩ <;> rfl; done) | (rcases h with ⟨_, _, _, _, _, rfl, _⟩ | ⟨_, _, _, _, _, rfl, _⟩ <;> rfl; done) | (rcases h with ⟨_, _, _, _, _, rfl, _⟩ | ⟨_, _, _, _, _, _, rfl, _⟩ <;> rfl; done) | (rcases h with ⟨_, _, _, _, _, _, rfl, _⟩ | ⟨_, rfl, _⟩ <;> rfl; done) | (rcases h with ⟨_, _, _, _, _, _, rfl, _⟩ | ⟨_, _, rfl, _⟩ <;> rfl; done) | (rcases h with ⟨_, _, _, _, _, _, rfl, _⟩ | ⟨_, _, _, rfl, _⟩ <;> rfl; done) | (rcases h with ⟨_, _, _, _, _, _, rfl, _⟩ | ⟨_, _, _, _, rfl, _⟩ <;> rfl; done) | (rcases h with ⟨_, _, _, _, _, _, rfl, _⟩ | ⟨_, _, _, _, _, rfl, _⟩ <;> rfl; done) | (rcases h with ⟨_, _, _, _, _, _, rfl, _⟩ | ⟨_, _, _, _, _, _, rfl, _⟩ <;> rfl; done) | (rcases h with ⟨_, rfl, _⟩ | ⟨_, _, rfl, _⟩ <;> rfl) | (rcases h with ⟨_, rfl, _⟩ | ⟨_, rfl, _⟩ <;> rfl) | (rcases h with h | h | h <;> (first | (obtain ⟨rfl, _⟩ := h; rfl; done) | (obtain ⟨_, rfl, _⟩ := h; rfl; done) | (obtain ⟨_, _, rfl, _⟩ := h; rfl; done) | (obtain ⟨_, _, _, rfl, _⟩ := h; rfl; done) | (obtain ⟨_, _, _, _, rfl, _⟩ := h; rfl; done) | (obtain ⟨_, _, _, _, _, rfl, _⟩ := h; rfl; done) | (obtain ⟨_, _, _, _, _, _, rfl, _⟩ := h; rfl; done) | (obtain ⟨_, _, _, _, _, _, _, rfl, _⟩ := h; rfl; done) | (obtain ⟨_, _, _, _, _, _, _, _, rfl, _⟩ := h; rfl; done) | (obtain ⟨_, _, _, _, _, _, _, _, _, rfl, _⟩ := h; rfl; done) | (obtain ⟨_, _, _, _, _, _, _, _, _, _, rfl, _⟩ := h; rfl; done) | (obtain ⟨_, _, _, _, _, _, _, _, _, _, _, rfl, _⟩ := h; rfl; done) | (obtain ⟨_, _, _, _, _, _, _, _, _, _, _, _, rfl, _⟩ := h; rfl; done) | (obtain ⟨_, _, _, _, _, _, _, _, _, _, _, _, _, rfl, _⟩ := h; rfl; done) | (obtain ⟨_, _, _, _, _, _, _, _, _, _, _, _, _, _, rfl, _⟩ := h; rfl; done)))) (fun cdv A outer s H vs Q E hr h => ⟨t__law_whole K a, ?_, rd vs H Q E h⟩)
  exact (pss_one (ps_ret (pe_and (pe_callB call_isi (by rfl) T.n_isinstance (by decide +kernel) (pa_cons (pv 0) (pa_cons (pe_bltn (v := .ty "int") rfl T.n_int (by decide +kernel) rfl) pa_nil))) (pe_one (pe_not (pe_callB call_isi (by rfl) T.n_isinstance (by decide +kernel) (pa_cons (pv 0) (pa_cons (pe_bltn (v := .ty "bool") rfl T.n_bool (by decide +kernel) rfl) pa_nil))))))))
theorem ok__law_same (T : Txt K mg a)
    (G__law_whole : FnOk a.p a.w K mg base CX0 1 a.f__law_whole a.d__law_whole P__law_whole (sp__law_whole K a)) {spR : Sp} {kR : Nat} (hk : 1 ≤ kR + 1)
    (GR : FnOk a.p a.w K mg base CX0 (kR + 1) a.f__law_same a.d__law_same P__law_same spR) {spN : Sp} (hN : ∀ vs H Q E, spN vs H Q E → vs.length = P__law_same.length)
    (rd : RD spN (t__law_same K a spR) N__law_same) :
    FnOk a.p a.w K mg base CX0 (kR + 2) a.f__law_same a.d__law_same P__law_same spN := by
  have nd := sc__law_same.nd
  refine T.F__law_same.ok sc__law_same hN (fun cdv A outer s H vs Q E hr h => ⟨t__law_same K a spR, ?_, rd vs H Q E h⟩)
  exact (pss_cons (ps_if (pt_cmpR op_isN (pv 1) pe_non (nomark _)) (pss_one (ps_ret (pe_cmpR op_isN (pv 0) pe_non (nomark _)))) pss_nil)
      (pss_cons (ps_if (pt_val (pe_callB call_isi (by rfl) T.n_isinstance (by decide +kernel) (pa_cons (pv 1) (pa_cons (pe_bltn (v := .ty "bool") rfl T.n_bool (by decide +kernel) rfl) pa_nil)))) (pss_one (ps_ret (pe_and (pe_callB call_isi (by rfl) T.n_isinstance (by decide +kernel) (pa_cons (pv 0) (pa_cons (pe_bltn (v := .ty "bool") rfl T.n_bool (by decide +kernel) rfl) pa_nil))) (pe_one (pe_cmpR op_eq (pv 0) (pv 1) (nomark _)))))) pss_nil)
      (pss_cons (ps_if (pt_val (pe_callB call_isi (by rfl) T.n_isinstance (by decide +kernel) (pa_cons (pv 1) (pa_cons (pe_bltn (v := .ty "int") rfl T.n_int (by decide +kernel) rfl) pa_nil)))) (pss_one (ps_ret (pe_and (pe_call G__law_whole (hr.mono (Nat.le_trans (by decide) hk)) rfl T.g__law_whole T.F__law_whole.kp T.b__law_whole .nil pass0 (pa_cons (pv 0) pa_nil)) (pe_one (pe_cmpR op_eq (pv 0) (pv 1) (nomark _)))))) pss_nil)
      (pss_cons (ps_if (pt_val (pe_callB call_isi (by rfl) T.n_isinstance (by decide +kernel) (pa_cons (pv 1) (pa_cons (pe_bltn (v := .ty "str") rfl T.n_str (by decide +kernel) rfl) pa_nil)))) (pss_one (ps_ret (pe_and (pe_callB call_isi (by rfl) T.n_isinstance (by decide +kernel) (pa_cons (pv 0) (pa_cons (pe_bltn (v := .ty "str") rfl T.n_str (by decide +kernel) rfl) pa_nil))) (pe_one (pe_cmpR op_eq (pv 0) (pv 1) (nomark _)))))) pss_nil)
      (pss_cons (ps_if (PW.pt (pw_or (pt_cmpR op_ne (pe_callB call_isi (by rfl) T.n_isinstance (by decide +kernel) (pa_cons (pv 1) (pa_cons (pe_bltn (v := .ty "list") rfl T.n_list (by decide +kernel) rfl) pa_nil))) (pe_callB call_isi (by rfl) T.n_isinstance (by decide +kernel) (pa_cons (pv 0) (pa_cons (pe_bltn (v := .ty "list") rfl T.n_list (by decide +kernel) rfl) pa_nil))) (nomark _)) (pw_or1 (pt_cmpR op_ne (pe_callB call_isi (by rfl) T.n_isinstance (by decide +kernel) (pa_cons (pv 1) (pa_cons (pe_bltn (v := .ty "tuple") rfl T.n_tuple (by decide +kernel) rfl) pa_nil))) (pe_callB call_isi (by rfl) T.n_isinstance (by decide +kernel) (pa_cons (pv 0) (pa_cons (pe_bltn (v := .ty "tuple") rfl T.n_tuple (by decide +kernel) rfl) pa_nil))) (nomark _))))) (pss_one (ps_ret pe_bl)) pss_nil)
      (pss_cons (ps_if (pt_cmpR op_ne (pe_callB call_len_seq (by rfl) T.n_len (by decide +kernel) (pa_cons (pv 0) pa_nil)) (pe_callB call_len_seq (by rfl) T.n_len (by decide +kernel) (pa_cons (pv 1) pa_nil)) (nomark _)) (pss_one (ps_ret pe_bl)) pss_nil)
      (pss_one (ps_ret (pe_callB (cr_all rfl) (by rfl) T.n_all (by decide +kernel) (pa_cons (pe_lc (own := [("_law_spot", 2)]) (g := (gName 2)) (tt := tYes) (te := (tCall spR [] E0 (tCons (tOp (rIx K) (tVar 0) (tVar 2)) (tCons (tOp (rIx K) (tVar 1) (tVar 2)) tNil)))) rfl nd (pi_range1 rfl T.n_range (pa_cons (pe_callB call_len_seq (by rfl) T.n_len (by decide +kernel) (pa_cons (pv 1) pa_nil)) pa_nil)) (blkOk_by (N := N__law_same) (sc := defScope s__law_same) (by decide +kernel)) (fun _ _ _ _ _ => (pg_name (i := 2) nd rfl (by first | exact Or.inl rfl | exact Or.inr rfl))) (fun _ _ _ _ _ => pts_nil) (fun _ _ _ _ _ => (pe_call GR hr rfl T.g__law_same T.F__law_same.kp T.b__law_same .nil pass0 (pa_cons (pe_ix ix_seq (pv 0) (pv 2) (fun _ _ => rfl)) (pa_cons (pe_ix ix_seq (pv 1) (pv 2) (fun _ _ => rfl)) pa_nil))))) pa_nil))))))))))
theorem ok__law_one (T : Txt K mg a)
    (G__law_pull : FnOk a.p a.w K mg base CX0 1 a.f__law_pull a.d__law_pull P__law_pull (sp__law_pull K a))
    (rd : RD (sp__law_one K a) (t__law_one K a) N__law_one) :
    FnOk a.p a.w K mg base CX0 2 a.f__law_one a.d__law_one P__law_one (sp__law_one K a) := by
  have nd := sc__law_one.nd
  refine T.F__law_one.ok sc__law_one (fun vs H Q E h => by first | (obtain ⟨rfl, _⟩ := h; rfl; done) | (obtain ⟨_, rfl, _⟩ := h; rfl; done) | (obtain ⟨_, _, rfl, _⟩ := h; rfl; done) | (obtain ⟨_, _, _, rfl, _⟩ := h; rfl; done) | (obtain ⟨_, _, _, _, rfl, _⟩ := h; rfl; done) | (obtain ⟨_, _, _, _, _, rfl, _⟩ := h; rfl; done) | (obtain ⟨_, _, _, _, _, _, rfl, _⟩ := h; rfl; done) | (obtain ⟨_, _, _, _, _, _, _, rfl, _⟩ := h; rfl; done) | (obtain ⟨_, _, _, _, _, _, _, _, rfl, _⟩ := h; rfl; done) | (obtain ⟨_, _, _, _, _, _, _, _, _, rfl, _⟩ := h; rfl; done) | (obtain ⟨_, _, _, _, _, _, _, _, _, _, rfl, _⟩ := h; rfl; done) | (obtain ⟨_, _, _, _, _, _, _, _, _, _, _, rfl, _⟩ := h; rfl; done) | (obtain ⟨_, _, _, _, _, _, _, _, _, _, _, _, rfl, _⟩ := h; rfl; done) | (obtain ⟨_, _, _, _, _, _, _, _, _, _, _, _, _, rfl, _⟩ := h; rfl; done) | (obtain ⟨_, _, _, _, _, _, _, _, _, _, _, _, _, _, rfl, _⟩ := h; rfl; done) | (rcases h with ⟨_, rfl, _⟩ | ⟨_, rfl, _⟩ <;> rfl; done) | (rcases h with ⟨_, rfl, _⟩ | ⟨_, _, rfl, _⟩ <;> rfl; done) | (rcases h with ⟨_, rfl, _⟩ | ⟨_, _, _, rfl, _⟩ <;> rfl; done) | (rcases h with ⟨_, rfl, _⟩ | ⟨_, _, _, _, rfl, _⟩ <;> rfl; done) | (rcases h with ⟨_, rfl, _⟩ | ⟨_, _, _, _, _, rfl, _⟩ <;> rfl; done) | (rcases h with ⟨_, rfl, _⟩ | ⟨_, _, _, _, _, _, rfl, _⟩ <;> rfl; done) | (rcases h with ⟨_, _, rfl, _⟩ | ⟨_, rfl, _⟩ <;> rfl; done) | (rcases h with ⟨_, _, rfl, _⟩ | ⟨_, _, rfl, _⟩ <;> rfl; done) | (rcases h with ⟨_, _, rfl, _⟩ | ⟨_, _, _, rfl, _⟩ <;> rfl; done) | (rcases h with ⟨_, _, rfl, _⟩ | ⟨_, _, _, _, rfl, _⟩ <;> rfl; done) | (rcases h with ⟨_, _, rfl, _⟩ | ⟨_, _, _, _, _, rfl, _⟩ <;> rfl; done) | (rcases h with ⟨_, _, rfl, _⟩ | ⟨_, _, _, _, _, _, rfl, _⟩ <;> rfl; done) | (rcases h with ⟨_, _, _, rfl, _⟩ | ⟨_, rfl, _⟩ <;> rfl; done) | (rcases h with ⟨_, _, _, rfl, _⟩ | ⟨_, _, rfl, _⟩ <;> rfl; done) | (rcases h with ⟨_, _, _, rfl, _⟩ | ⟨_, _, _, rfl, _⟩ <;> rfl; done) | (rcases h with ⟨_, _, _, rfl, _⟩ | ⟨_, _, _, _, rfl, _⟩ <;> rfl; done) | (rcases h with ⟨_, _, _, rfl, _⟩ | ⟨_, _, _, _, _, rfl, _⟩ <;> rfl; done) | (rcases h with ⟨_, _, _, rfl, _⟩ | ⟨_, _, _, _, _, _, rfl, _⟩ <;> rfl; done) | (rcases h with ⟨_, _, _, _, rfl, _⟩ | ⟨_, rfl, _⟩ <;> rfl; done) | (rcases h with ⟨_, _, _, _, rfl, _⟩ | ⟨_, _, rfl, _⟩ <;> rfl; done) | (rcases h with ⟨_, _, _, _, rfl, _⟩ | ⟨_, _, _, rfl, _⟩ <;> rfl; done) | (rcases h with ⟨_, _, _, _, rfl, _⟩ | ⟨_, _, _, _, rfl, _⟩ <;> rfl; done) | (rcases h with ⟨_, _, _, _, rfl, _⟩ | ⟨_, _, _, _, _, rfl, _⟩ <;> rfl; done) | (rcases h with ⟨_, _, _, _, rfl, _⟩ | ⟨_, _, _, _, _, _, rfl, _⟩ <;> rfl; done) | (rcases h with ⟨_, _, _, _, _, rfl, _⟩ | ⟨_, rfl, _⟩ <;> rfl; done) | (rcases h with ⟨_, _, _, _, _, rfl, _⟩ | ⟨_, _, rfl, _⟩ <;> rfl; done) | (rcases h with ⟨_, _, _, _, _, rfl, _⟩ | ⟨_, _, _, rfl, _⟩ <;> rfl; done) | (rcases h with ⟨_, _, _, _, _, rfl, _⟩ | ⟨_, _, _, _, rfl, _⟩ <;> rfl; done) | (rcases h with ⟨_, _, _, _, _, rfl, _⟩ | ⟨_, _, _, _, _, rfl, _⟩ <;> rfl; done) | (rcases h with ⟨_, _, _, _, _, rfl, _⟩ | ⟨_, _, _, _, _, _, rfl, _⟩ <;> rfl; done) | (rcases h with ⟨_, _, _, _, _, _, rfl, _⟩ | ⟨_, rfl, _⟩ <;> rfl; done) | (rcases h with ⟨_, _, _, _, _, _, rfl, _⟩ | ⟨_, _, rfl, _⟩ <;> rfl; done) | (rcases h with ⟨_, _, _, _, _, _, rfl, _⟩ | ⟨_, _, _, rfl, _⟩ <;> rfl; done) | (rcases h with ⟨_, _, _, _, _, _, rfl, _⟩ | ⟨_, _, _, _, rfl, _⟩ <;> rfl; done) | (rcases h with ⟨_, _, _, _, _, _, rfl, _⟩ | ⟨_, _, _, _, _, rfl, _⟩ <;> rfl; done) | (rcases h with ⟨_, _, _, _, _, _, rfl, _⟩ | ⟨_, _, _, _, _, _, rfl, _⟩ <;> rfl; done) | (rcases h with ⟨_, rfl, _⟩ | ⟨_, _, rfl, _⟩ <;> rfl) | (rcases h with ⟨_, rfl, _⟩ | ⟨_, rfl, _⟩ <;> rfl) | (rcases h with h | h | h <;> (first | (obtain ⟨rfl, _⟩ := h; rfl; done) | (obtain ⟨_, rfl, _⟩ := h; rfl; done) | (obtain ⟨_, _, rfl, _⟩ := h; rfl; done) | (obtain ⟨_, _, _, rfl, _⟩ := h; rfl; done) | (obtain ⟨_, _, _, _, rfl, _⟩ := h; rfl; done) | (obtain ⟨_, _, _, _, _, rfl, _⟩ := h; rfl; done) | (obtain ⟨_, _, _, _, _, _, rfl, _⟩ := h; rfl; done) | (obtain ⟨_, _, _, _, _, _, _, rfl, _⟩ := h; rfl; done) | (obtain ⟨_, _, _, _, _, _, _, _, rfl, _⟩ := h; rfl; done) | (obtain ⟨_, _, _, _, _, _, _, _, _, rfl, _⟩ := h; rfl; done) | (obtain ⟨_, _, _, _, _, _, _, _, _, _, rfl, _⟩ := h; rfl; done) | (obtain ⟨_, _, _, _, _, _, _, _, _, _, _, rfl, _⟩ := h; rfl; done) | (obtain ⟨_, _, _, _, _, _, _, _, _, _, _, _, rfl, _⟩ := h; rfl; done) | (obtain ⟨_, _, _, _, _, _, _, _, _, _, _, _, _, rfl, _⟩ := h; rfl; done) | (obtain ⟨_, _, _, _, _, _, _, _, _, _, _, _, _, _, rfl, _⟩ := h; rfl; done)))) (fun cdv A outer s H vs Q E hr h => ⟨t__law_one K a, ?_, rd vs H Q E h⟩)
  exact (pss_one (ps_ret (pe_ix ix_list (pv 1) (pe_call G__law_pull (hr.mono (by decide)) rfl T.g__law_pull T.F__law_pull.kp T.b__law_pull .nil pass0 (pa_cons (pv 0) (pa_cons (pe_callB call_len_seq (by rfl) T.n_len (by decide +kernel) (pa_cons (pv 1) pa_nil)) pa_nil))) (fun _ _ => rfl))))
theorem ok__law_end (T : Txt K mg a)
    (G__law_one : FnOk a.p a.w K mg base CX0 2 a.f__law_one a.d__law_one P__law_one (sp__law_one K a))
    (G__law_pull : FnOk a.p a.w K mg base CX0 1 a.f__law_pull a.d__law_pull P__law_pull (sp__law_pull K a))
    (rd : RD (sp__law_end K a) (t__law_end K a) N__law_end) :
    FnOk a.p a.w K mg base CX0 3 a.f__law_end a.d__law_end P__law_end (sp__law_end K a) := by
  have nd := sc__law_end.nd
  refine T.F__law_end.ok sc__law_end (fun vs H Q E h => by first | (obtain ⟨rfl, _⟩ := h; rfl; done) | (obtain ⟨_, rfl, _⟩ := h; rfl; done) | (obtain ⟨_, _, rfl, _⟩ := h; rfl; done) | (obtain ⟨_, _, _, rfl, _⟩ := h; rfl; done) | (obtain ⟨_, _, _, _, rfl, _⟩ := h; rfl; done) | (obtain ⟨_, _, _, _, _, rfl, _⟩ := h; rfl; done) | (obtain ⟨_, _, _, _, _, _, rfl, _⟩ := h; rfl; done) | (obtain ⟨_, _, _, _, _, _, _, rfl, _⟩ := h; rfl; done) | (obtain ⟨_, _, _, _, _, _, _, _, rfl, _⟩ := h; rfl; done) | (obtain ⟨_, _, _, _, _, _, _, _, _, rfl, _⟩ := h; rfl; done) | (obtain ⟨_, _, _, _, _, _, _, _, _, _, rfl, _⟩ := h; rfl; done) | (obtain ⟨_, _, _, _, _, _, _, _, _, _, _, rfl, _⟩ := h; rfl; done) | (obtain ⟨_, _, _, _, _, _, _, _, _, _, _, _, rfl, _⟩ := h; rfl; done) | (obtain ⟨_, _, _, _, _, _, _, _, _, _, _, _, _, rfl, _⟩ := h; rfl; done) | (obtain ⟨_, _, _, _, _, _, _, _, _, _, _, _, _, _, rfl, _⟩ := h; rfl; done) | (rcases h with ⟨_, rfl, _⟩ | ⟨_, rfl, _⟩ <;> rfl; done) | (rcases h with ⟨_, rfl, _⟩ | ⟨_, _, rfl, _⟩ <;> rfl; done) | (rcases h with ⟨_, rfl, _⟩ | ⟨_, _, _, rfl, _⟩ <;> rfl; done) | (rcases h with ⟨_, rfl, _⟩ | ⟨_, _, _, _, rfl, _⟩ <;> rfl; done) | (rcases h with ⟨_, rfl, _⟩ | ⟨_, _, _, _, _, rfl, _⟩ <;> rfl; done) | (rcases h with ⟨_, rfl, _⟩ | ⟨_, _, _, _, _, _, rfl, _⟩ <;> rfl; done) | (rcases h with ⟨_, _, rfl, _⟩ | ⟨_, rfl, _⟩ <;> rfl; done) | (rcases h with ⟨_, _, rfl, _⟩ | ⟨_, _, rfl, _⟩ <;> rfl; done) | (rcases h with ⟨_, _, rfl, _⟩ | ⟨_, _, _, rfl, _⟩ <;> rfl; done) | (rcases h with ⟨_, _, rfl, _⟩ | ⟨_, _, _, _, rfl, _⟩ <;> rfl; done) | (rcases h with ⟨_, _, rfl, _⟩ | ⟨_, _, _, _, _, rfl, _⟩ <;> rfl; done) | (rcases h with ⟨_, _, rfl, _⟩ | ⟨_, _, _, _, _, _, rfl, _⟩ <;> rfl; done) | (rcases h with ⟨_, _, _, rfl, _⟩ | ⟨_, rfl, _⟩ <;> rfl; done) | (rcases h with ⟨_, _, _, rfl, _⟩ | ⟨_, _, rfl, _⟩ <;> rfl; done) | (rcases h with ⟨_, _, _, rfl, _⟩ | ⟨_, _, _, rfl, _⟩ <;> rfl; done) | (rcases h with ⟨_, _, _, rfl, _⟩ | ⟨_, _, _, _, rfl, _⟩ <;> rfl; done) | (rcases h with ⟨_, _, _, rfl, _⟩ | ⟨_, _, _, _, _, rfl, _⟩ <;> rfl; done) | (rcases h with ⟨_, _, _, rfl, _⟩ | ⟨_, _, _, _, _, _, rfl, _⟩ <;> rfl; done) | (rcases h with ⟨_, _, _, _, rfl, _⟩ | ⟨_, rfl, _⟩ <;> rfl; done) | (rcases h with ⟨_, _, _, _, rfl, _⟩ | ⟨_, _, rfl, _⟩ <;> rfl; done) | (rcases h with ⟨_, _, _, _, rfl, _⟩ | ⟨_, _, _, rfl, _⟩ <;> rfl; done) | (rcases h with ⟨_, _, _, _, rfl, _⟩ | ⟨_, _, _, _, rfl, _⟩ <;> rfl; done) | (rcases h with ⟨_, _, _, _, rfl, _⟩ | ⟨_, _, _, _, _, rfl, _⟩ <;> rfl; done) | (rcases h with ⟨_, _, _, _, rfl, _⟩ | ⟨_, _, _, _, _, _, rfl, _⟩ <;> rfl; done) | (rcases h with ⟨_, _, _, _, _, rfl, _⟩ | ⟨_, rfl, _⟩ <;> rfl; done) | (rcases h with ⟨_, _, _, _, _, rfl, _⟩ | ⟨_, _, rfl, _⟩ <;> rfl; done) | (rcases h with ⟨_, _, _, _, _, rfl, _⟩ | ⟨_, _, _, rfl, _⟩ <;> rfl; done) | (rcases h with ⟨_, _, _, _, _, rfl, _⟩ | ⟨_, _, _, _, rfl, _⟩ <;> rfl; done) | (rcases h with ⟨_, _, _, _, _, rfl, _⟩ | ⟨_, _, _, _, _, rfl, _⟩ <;> rfl; done) | (rcases h with ⟨_, _, _, _, _, rfl, _⟩ | ⟨_, _, _, _, _, _, rfl, _⟩ <;> rfl; done) | (rcases h with ⟨_, _, _, _, _, _, rfl, _⟩ | ⟨_, rfl, _⟩ <;> rfl; done) | (rcases h with ⟨_, _, _, _, _, _, rfl, _⟩ | ⟨_, _, rfl, _⟩ <;> rfl; done) | (rcases h with ⟨_, _, _, _, _, _, rfl, _⟩ | ⟨_, _, _, rfl, _⟩ <;> rfl; done) | (rcases h with ⟨_, _, _, _, _, _, rfl, _⟩ | ⟨_, _, _, _, rfl, _⟩ <;> rfl; done) | (rcases h with ⟨_, _, _, _, _, _, rfl, _⟩ | ⟨_, _, _, _, _, rfl, _⟩ <;> rfl; done) | (rcases h with ⟨_, _, _, _, _, _, rfl, _⟩ | ⟨_, _, _, _, _, _, rfl, _⟩ <;> rfl; done) | (rcases h with ⟨_, rfl, _⟩ | ⟨_, _, rfl, _⟩ <;> rfl) | (rcases h with ⟨_, rfl, _⟩ | ⟨_, rfl, _⟩ <;> rfl) | (rcases h with h | h | h <;> (first | (obtain ⟨rfl, _⟩ := h; rfl; done) | (obtain ⟨_, rfl, _⟩ := h; rfl; done) | (obtain ⟨_, _, rfl, _⟩ := h; rfl; done) | (obtain ⟨_, _, _, rfl, _⟩ := h; rfl; done) | (obtain ⟨_, _, _, _, rfl, _⟩ := h; rfl; done) | (obtain ⟨_, _, _, _, _, rfl, _⟩ := h; rfl; done) | (obtain ⟨_, _, _, _, _, _, rfl, _⟩ := h; rfl; done) | (obtain ⟨_, _, _, _, _, _, _, rfl, _⟩ := h; rfl; done) | (obtain ⟨_, _, _, _, _, _, _, _, rfl, _⟩ := h; rfl; done) | (obtain ⟨_, _, _, _, _, _, _, _, _, rfl, _⟩ := h; rfl; done) | (obtain ⟨_, _, _, _, _, _, _, _, _, _, rfl, _⟩ := h; rfl; done) | (obtain ⟨_, _, _, _, _, _, _, _, _, _, _, rfl, _⟩ := h; rfl; done) | (obtain ⟨_, _, _, _, _, _, _, _, _, _, _, _, rfl, _⟩ := h; rfl; done) | (obtain ⟨_, _, _, _, _, _, _, _, _, _, _, _, _, rfl, _⟩ := h; rfl; done) | (obtain ⟨_, _, _, _, _, _, _, _, _, _, _, _, _, _, rfl, _⟩ := h; rfl; done)))) (fun cdv A outer s H vs Q E hr h => ⟨t__law_end K a, ?_, rd vs H Q E h⟩)
  exact (pss_cons (ps_set (i := 2) nd rfl (by first | exact Or.inl rfl | exact Or.inr rfl) (pe_call G__law_one (hr.mono (by decide)) rfl T.g__law_one T.F__law_one.kp T.b__law_one .nil pass0 (pa_cons (pv 0) (pa_cons (pe_lst (pa_cons pe_str (pa_cons pe_str (pa_cons pe_str pa_nil)))) pa_nil))))
      (pss_cons (ps_if (pt_cmpR op_eq (pv 2) pe_str (nomark _)) (pss_one (ps_ret (pe_tup (pa_cons (pe_op op_add (pe_op op_fdivW (pv 1) pe_int) pe_int) (pa_cons (pe_ix ix_list (pe_lst (pa_cons pe_str (pa_cons pe_str pa_nil))) (pe_op op_mod (pv 1) pe_int) (fun _ _ => rfl)) (pa_cons (pv 2) (pa_cons (pe_call G__law_one (hr.mono (by decide)) rfl T.g__law_one T.F__law_one.kp T.b__law_one .nil pass0 (pa_cons (pv 0) (pa_cons (pe_lst (pa_cons pe_int (pa_cons pe_int (pa_cons pe_int (pa_cons pe_int (pa_cons pe_int pa_nil)))))) pa_nil))) (pa_cons pe_int pa_nil)))))))) pss_nil)
      (pss_cons (ps_set (i := 3) nd rfl (by first | exact Or.inl rfl | exact Or.inr rfl) (pe_op op_add pe_int (pe_call G__law_pull (hr.mono (by decide)) rfl T.g__law_pull T.F__law_pull.kp T.b__law_pull .nil pass0 (pa_cons (pv 0) (pa_cons (pe_call G__law_one (hr.mono (by decide)) rfl T.g__law_one T.F__law_one.kp T.b__law_one .nil pass0 (pa_cons (pv 0) (pa_cons (pe_lst (pa_cons pe_int (pa_cons pe_int pa_nil))) pa_nil))) pa_nil)))))
      (pss_one (ps_ret (pe_tup (pa_cons (pe_op op_add (pe_op op_fdivW (pv 1) pe_int) pe_int) (pa_cons (pe_ix ix_list (pe_lst (pa_cons pe_str (pa_cons pe_str pa_nil))) (pe_op op_mod (pv 1) pe_int) (fun _ _ => rfl)) (pa_cons (pv 2) (pa_cons (pv 3) (pa_cons (pe_call G__law_one (hr.mono (by decide)) rfl T.g__law_one T.F__law_one.kp T.b__law_one .nil pass0 (pa_cons (pv 0) (pa_cons (pe_lst (pa_cons pe_int (pa_cons pe_int (pa_cons pe_int (pa_cons pe_int (pa_cons pe_int (pa_cons pe_int pa_nil))))))) pa_nil))) pa_nil)))))))))))
theorem ok__law_ends (T : Txt K mg a)
    (G__law_end : FnOk a.p a.w K mg base CX0 3 a.f__law_end a.d__law_end P__law_end (sp__law_end K a))
    (G__law_pull : FnOk a.p a.w K mg base CX0 1 a.f__law_pull a.d__law_pull P__law_pull (sp__law_pull K a))
    (rd : RD (sp__law_ends K a) (t__law_ends K a) N__law_ends) :
    FnOk a.p a.w K mg base CX0 4 a.f__law_ends a.d__law_ends P__law_ends (sp__law_ends K a) := by
  have nd := sc__law_ends.nd
  refine T.F__law_ends.ok sc__law_ends (fun vs H Q E h => by first | (obtain ⟨rfl, _⟩ := h; rfl; done) | (obtain ⟨_, rfl, _⟩ := h; rfl; done) | (obtain ⟨_, _, rfl, _⟩ := h; rfl; done) | (obtain ⟨_, _, _, rfl, _⟩ := h; rfl; done) | (obtain ⟨_, _, _, _, rfl, _⟩ := h; rfl; done) | (obtain ⟨_, _, _, _, _, rfl, _⟩ := h; rfl; done) | (obtain ⟨_, _, _, _, _, _, rfl, _⟩ := h; rfl; done) | (obtain ⟨_, _, _, _, _, _, _, rfl, _⟩ := h; rfl; done) | (obtain ⟨_, _, _, _, _, _, _, _, rfl, _⟩ := h; rfl; done) | (obtain ⟨_, _, _, _, _, _, _, _, _, rfl, _⟩ := h; rfl; done) | (obtain ⟨_, _, _, _, _, _, _, _, _, _, rfl, _⟩ := h; rfl; done) | (obtain ⟨_, _, _, _, _, _, _, _, _, _, _, rfl, _⟩ := h; rfl; done) | (obtain ⟨_, _, _, _, _, _, _, _, _, _, _, _, rfl, _⟩ := h; rfl; done) | (obtain ⟨_, _, _, _, _, _, _, _, _, _, _, _, _, rfl, _⟩ := h; rfl; done) | (obtain ⟨_, _, _, _, _, _, _, _, _, _, _, _, _, _, rfl, _⟩ := h; rfl; done) | (rcases h with ⟨_, rfl, _⟩ | ⟨_, rfl, _⟩ <;> rfl; done) | (rcases h with ⟨_, rfl, _⟩ | ⟨_, _, rfl, _⟩ <;> rfl; done) | (rcases h with ⟨_, rfl, _⟩ | ⟨_, _, _, rfl, _⟩ <;> rfl; done) | (rcases h with ⟨_, rfl, _⟩ | ⟨_, _, _, _, rfl, _⟩ <;> rfl; done) | (rcases h with ⟨_, rfl, _⟩ | ⟨_, _, _, _, _, rfl, _⟩ <;> rfl; done) | (rcases h with ⟨_, rfl, _⟩ | ⟨_, _, _, _, _, _, rfl, _⟩ <;> rfl; done) | (rcases h with ⟨_, _, rfl, _⟩ | ⟨_, rfl, _⟩ <;> rfl; done) | (rcases h with ⟨_, _, rfl, _⟩ | ⟨_, _, rfl, _⟩ <;> rfl; done) | (rcases h with ⟨_, _, rfl, _⟩ | ⟨_, _, _, rfl, _⟩ <;> rfl; done) | (rcases h with ⟨_, _, rfl, _⟩ | ⟨_, _, _, _, rfl, _⟩ <;> rfl; done) | (rcases h with ⟨_, _, rfl, _⟩ | ⟨_, _, _, _, _, rfl, _⟩ <;> rfl; done) | (rcases h with ⟨_, _, rfl, _⟩ | ⟨_, _, _, _, _, _, rfl, _⟩ <;> rfl; done) | (rcases h with ⟨_, _, _, rfl, _⟩ | ⟨_, rfl, _⟩ <;> rfl; done) | (rcases h with ⟨_, _, _, rfl, _⟩ | ⟨_, _, rfl, _⟩ <;> rfl; done) | (rcases h with ⟨_, _, _, rfl, _⟩ | ⟨_, _, _, rfl, _⟩ <;> rfl; done) | (rcases h with ⟨_, _, _, rfl, _⟩ | ⟨_, _, _, _, rfl, _⟩ <;> rfl; done) | (rcases h with ⟨_, _, _, rfl, _⟩ | ⟨_, _, _, _, _, rfl, _⟩ <;> rfl; done) | (rcases h with ⟨_, _, _, rfl, _⟩ | ⟨_, _, _, _, _, _, rfl, _⟩ <;> rfl; done) | (rcases h with ⟨_, _, _, _, rfl, _⟩ | ⟨_, rfl, _⟩ <;> rfl; done) | (rcases h with ⟨_, _, _, _, rfl, _⟩ | ⟨_, _, rfl, _⟩ <;> rfl; done) | (rcases h with ⟨_, _, _, _, rfl, _⟩ | ⟨_, _, _, rfl, _⟩ <;> rfl; done) | (rcases h with ⟨_, _, _, _, rfl, _⟩ | ⟨_, _, _, _, rfl, _⟩ <;> rfl; done) | (rcases h with ⟨_, _, _, _, rfl, _⟩ | ⟨_, _, _, _, _, rfl, _⟩ <;> rfl; done) | (rcases h with ⟨_, _, _, _, rfl, _⟩ | ⟨_, _, _, _, _, _, rfl, _⟩ <;> rfl; done) | (rcases h with ⟨_, _, _, _, _, rfl, _⟩ | ⟨_, rfl, _⟩ <;> rfl; done) | (rcases h with ⟨_, _, _, _, _, rfl, _⟩ | ⟨_, _, rfl, _⟩ <;> rfl; done) | (rcases h with ⟨_, _, _, _, _, rfl, _⟩ | ⟨_, _, _, rfl, _⟩ <;> rfl; done) | (rcases h with ⟨_, _, _, _, _, rfl, _⟩ | ⟨_, _, _, _, rfl, _⟩ <;> rfl; done) | (rcases h with ⟨_, _, _, _, _, rfl, _⟩ | ⟨_, _, _, _, _, rfl, _⟩ <;> rfl; done) | (rcases h with ⟨_, _, _, _, _, rfl, _⟩ | ⟨_, _, _, _, _, _, rfl, _⟩ <;> rfl; done) | (rcases h with ⟨_, _, _, _, _, _, rfl, _⟩ | ⟨_, rfl, _⟩ <;> rfl; done) | (rcases h with ⟨_, _, _, _, _, _, rfl, _⟩ | ⟨_, _, rfl, _⟩ <;> rfl; done) | (rcases h with ⟨_, _, _, _, _, _, rfl, _⟩ | ⟨_, _, _, rfl, _⟩ <;> rfl; done) | (rcases h with ⟨_, _, _, _, _, _, rfl, _⟩ | ⟨_, _, _, _, rfl, _⟩ <;> rfl; done) | (rcases h with ⟨_, _, _, _, _, _, rfl, _⟩ | ⟨_, _, _, _, _, rfl, _⟩ <;> rfl; done) | (rcases h with ⟨_, _, _, _, _, _, rfl, _⟩ | ⟨_, _, _, _, _, _, rfl, _⟩ <;> rfl; done) | (rcases h with ⟨_, rfl, _⟩ | ⟨_, _, rfl, _⟩ <;> rfl) | (rcases h with ⟨_, rfl, _⟩ | ⟨_, rfl, _⟩ <;> rfl) | (rcases h with h | h | h <;> (first | (obtain ⟨rfl, _⟩ := h; rfl; done) | (obtain ⟨_, rfl, _⟩ := h; rfl; done) | (obtain ⟨_, _, rfl, _⟩ := h; rfl; done) | (obtain ⟨_, _, _, rfl, _⟩ := h; rfl; done) | (obtain ⟨_, _, _, _, rfl, _⟩ := h; rfl; done) | (obtain ⟨_, _, _, _, _, rfl, _⟩ := h; rfl; done) | (obtain ⟨_, _, _, _, _, _, rfl, _⟩ := h; rfl; done) | (obtain ⟨_, _, _, _, _, _, _, rfl, _⟩ := h; rfl; done) | (obtain ⟨_, _, _, _, _, _, _, _, rfl, _⟩ := h; rfl; done) | (obtain ⟨_, _, _, _, _, _, _, _, _, rfl, _⟩ := h; rfl; done) | (obtain ⟨_, _, _, _, _, _, _, _, _, _, rfl, _⟩ := h; rfl; done) | (obtain ⟨_, _, _, _, _, _, _, _, _, _, _, rfl, _⟩ := h; rfl; done) | (obtain ⟨_, _, _, _, _, _, _, _, _, _, _, _, rfl, _⟩ := h; rfl; done) | (obtain ⟨_, _, _, _, _, _, _, _, _, _, _, _, _, rfl, _⟩ := h; rfl; done) | (obtain ⟨_, _, _, _, _, _, _, _, _, _, _, _, _, _, rfl, _⟩ := h; rfl; done)))) (fun cdv A outer s H vs Q E hr h => ⟨t__law_ends K a, ?_, rd vs H Q E h⟩)
  exact (pss_cons (ps_set (i := 2) nd rfl (by first | exact Or.inl rfl | exact Or.inr rfl) (pe_callB (cr_sortedSet rfl) (by rfl) T.n_sorted (by decide +kernel) (pa_cons (pe_callTy (cr_setL rfl) (by rfl) T.n_set (by decide +kernel) (pa_cons (pe_lc (own := [("_law_k", 3)]) (g := (gName 3)) (tt := tYes) (te := (tCall (sp__law_pull K a) [] E0 (tCons (tVar 0) (tCons (tC (.int 14)) tNil)))) rfl nd (pi_range1 rfl T.n_range (pa_cons (pe_call G__law_pull (hr.mono (by decide)) rfl T.g__law_pull T.F__law_pull.kp T.b__law_pull .nil pass0 (pa_cons (pv 0) (pa_cons (pe_op op_add (pv 1) pe_int) pa_nil))) pa_nil)) (blkOk_by (N := N__law_ends) (sc := defScope s__law_ends) (by decide +kernel)) (fun _ _ _ _ _ => (pg_name (i := 3) nd rfl (by first | exact Or.inl rfl | exact Or.inr rfl))) (fun _ _ _ _ _ => pts_nil) (fun _ _ _ _ _ => (pe_call G__law_pull (hr.mono (by decide)) rfl T.g__law_pull T.F__law_pull.kp T.b__law_pull .nil pass0 (pa_cons (pv 0) (pa_cons pe_int pa_nil))))) pa_nil)) pa_nil)))
      (pss_one (ps_ret (pe_callTy call_tuple_of (by rfl) T.n_tuple (by decide +kernel) (pa_cons (pe_lc (own := [("_law_spot", 4)]) (g := (gName 4)) (tt := tYes) (te := (tCall (sp__law_end K a) [] E0 (tCons (tVar 0) (tCons (tVar 4) tNil)))) rfl nd (pi_list (pv 2)) (blkOk_by (N := N__law_ends) (sc := defScope s__law_ends) (by decide +kernel)) (fun _ _ _ _ _ => (pg_name (i := 4) nd rfl (by first | exact Or.inl rfl | exact Or.inr rfl))) (fun _ _ _ _ _ => pts_nil) (fun _ _ _ _ _ => (pe_call G__law_end (hr.mono (by decide)) rfl T.g__law_end T.F__law_end.kp T.b__law_end .nil pass0 (pa_cons (pv 0) (pa_cons (pv 4) pa_nil))))) pa_nil)))))
theorem ok__law_frames (T : Txt K mg a)
    (rd : RD (sp__law_frames K a) (t__law_frames K a) N__law_frames) :
    FnOk a.p a.w K mg base CX0 1 a.f__law_frames a.d__law_frames P__law_frames (sp__law_frames K a) := by
  have nd := sc__law_frames.nd
  refine T.F__law_frames.ok sc__law_frames (fun vs H Q E h => by first | (obtain ⟨rfl, _⟩ := h; rfl; done) | (obtain ⟨_, rfl, _⟩ := h; rfl; done) | (obtain ⟨_, _, rfl, _⟩ := h; rfl; done) | (obtain ⟨_, _, _, rfl, _⟩ := h; rfl; done) | (obtain ⟨_, _, _, _, rfl, _⟩ := h; rfl; done) | (obtain ⟨_, _, _, _, _, rfl, _⟩ := h; rfl; done) | (obtain ⟨_, _, _, _, _, _, rfl, _⟩ := h; rfl; done) | (obtain ⟨_, _, _, _, _, _, _, rfl, _⟩ := h; rfl; done) | (obtain ⟨_, _, _, _, _, _, _, _, rfl, _⟩ := h; rfl; done) | (obtain ⟨_, _, _, _, _, _, _, _, _, rfl, _⟩ := h; rfl; done) | (obtain ⟨_, _, _, _, _, _, _, _, _, _, rfl, _⟩ := h; rfl; done) | (obtain ⟨_, _, _, _, _, _, _, _, _, _, _, rfl, _⟩ := h; rfl; done) | (obtain ⟨_, _, _, _, _, _, _, _, _, _, _, _, rfl, _⟩ := h; rfl; done) | (obtain ⟨_, _, _, _, _, _, _, _, _, _, _, _, _, rfl, _⟩ := h; rfl; done) | (obtain ⟨_, _, _, _, _, _, _, _, _, _, _, _, _, _, rfl, _⟩ := h; rfl; done) | (rcases h with ⟨_, rfl, _⟩ | ⟨_, rfl, _⟩ <;> rfl; done) | (rcases h with ⟨_, rfl, _⟩ | ⟨_, _, rfl, _⟩ <;> rfl; done) | (rcases h with ⟨_, rfl, _⟩ | ⟨_, _, _, rfl, _⟩ <;> rfl; done) | (rcases h with ⟨_, rfl, _⟩ | ⟨_, _, _, _, rfl, _⟩ <;> rfl; done) | (rcases h with ⟨_, rfl, _⟩ | ⟨_, _, _, _, _, rfl, _⟩ <;> rfl; done) | (rcases h with ⟨_, rfl, _⟩ | ⟨_, _, _, _, _, _, rfl, _⟩ <;> rfl; done) | (rcases h with ⟨_, _, rfl, _⟩ | ⟨_, rfl, _⟩ <;> rfl; done) | (rcases h with ⟨_, _, rfl, _⟩ | ⟨_, _, rfl, _⟩ <;> rfl; done) | (rcases h with ⟨_, _, rfl, _⟩ | ⟨_, _, _, rfl, _⟩ <;> rfl; done) | (rcases h with ⟨_, _, rfl, _⟩ | ⟨_, _, _, _, rfl, _⟩ <;> rfl; done) | (rcases h with ⟨_, _, rfl, _⟩ | ⟨_, _, _, _, _, rfl, _⟩ <;> rfl; done) | (rcases h with ⟨_, _, rfl, _⟩ | ⟨_, _, _, _, _, _, rfl, _⟩ <;> rfl; done) | (rcases h with ⟨_, _, _, rfl, _⟩ | ⟨_, rfl, _⟩ <;> rfl; done) | (rcases h with ⟨_, _, _, rfl, _⟩ | ⟨_, _, rfl, _⟩ <;> rfl; done) | (rcases h with ⟨_, _, _, rfl, _⟩ | ⟨_, _, _, rfl, _⟩ <;> rfl; done) | (rcases h with ⟨_, _, _, rfl, _⟩ | ⟨_, _, _, _, rfl, _⟩ <;> rfl; done) | (rcases h with ⟨_, _, _, rfl, _⟩ | ⟨_, _, _, _, _, rfl, _⟩ <;> rfl; done) | (rcases h with ⟨_, _, _, rfl, _⟩ | ⟨_, _, _, _, _, _, rfl, _⟩ <;> rfl; done) | (rcases h with ⟨_, _, _, _, rfl, _⟩ | ⟨_, rfl, _⟩ <;> rfl; done) | (rcases h with ⟨_, _, _, _, rfl, _⟩ | ⟨_, _, rfl, _⟩ <;> rfl; done) | (rcases h with ⟨_, _, _, _, rfl, _⟩ | ⟨_, _, _, rfl, _⟩ <;> rfl; done) | (rcases h with ⟨_, _, _, _, rfl, _⟩ | ⟨_, _, _, _, rfl, _⟩ <;> rfl; done) | (rcases h with ⟨_, _, _, _, rfl, _⟩ | ⟨_, _, _, _, _, rfl, _⟩ <;> rfl; done) | (rcases h with ⟨_, _, _, _, rfl, _⟩ | ⟨_, _, _, _, _, _, rfl, _⟩ <;> rfl; done) | (rcases h with ⟨_, _, _, _, _, rfl, _⟩ | ⟨_, rfl, _⟩ <;> rfl; done) | (rcases h with ⟨_, _, _, _, _, rfl, _⟩ | ⟨_, _, rfl, _⟩ <;> rfl; done) | (rcases h with ⟨_, _, _, _, _, rfl, _⟩ | ⟨_, _, _, rfl, _⟩ <;> rfl; done) | (rcases h with ⟨_, _, _, _, _, rfl, _⟩ | ⟨_, _, _, _, rfl, _⟩ <;> rfl; done) | (rcases h with ⟨_, _, _, _, _, rfl, _⟩ | ⟨_, _, _, _, _, rfl, _⟩ <;> rfl; done) | (rcases h with ⟨_, _, _, _, _, rfl, _⟩ | ⟨_, _, _, _, _, _, rfl, _⟩ <;> rfl; done) | (rcases h with ⟨_, _, _, _, _, _, rfl, _⟩ | ⟨_, rfl, _⟩ <;> rfl; done) | (rcases h with ⟨_, _, _, _, _, _, rfl, _⟩ | ⟨_, _, rfl, _⟩ <;> rfl; done) | (rcases h with ⟨_, _, _, _, _, _, rfl, _⟩ | ⟨_, _, _, rfl, _⟩ <;> rfl; done) | (rcases h with ⟨_, _, _, _, _, _, rfl, _⟩ | ⟨_, _, _, _, rfl, _⟩ <;> rfl; done) | (rcases h with ⟨_, _, _, _, _, _, rfl, _⟩ | ⟨_, _, _, _, _, rfl, _⟩ <;> rfl; done) | (rcases h with ⟨_, _, _, _, _, _, rfl, _⟩ | ⟨_, _, _, _, _, _, rfl, _⟩ <;> rfl; done) | (rcases h with ⟨_, rfl, _⟩ | ⟨_, _, rfl, _⟩ <;> rfl) | (rcases h with ⟨_, rfl, _⟩ | ⟨_, rfl, _⟩ <;> rfl) | (rcases h with h | h | h <;> (first | (obtain ⟨rfl, _⟩ := h; rfl; done) | (obtain ⟨_, rfl, _⟩ := h; rfl; done) | (obtain ⟨_, _, rfl, _⟩ := h; rfl; done) | (obtain ⟨_, _, _, rfl, _⟩ := h; rfl; done) | (obtain ⟨_, _, _, _, rfl, _⟩ := h; rfl; done) | (obtain ⟨_, _, _, _, _, rfl, _⟩ := h; rfl; done) | (obtain ⟨_, _, _, _, _, _, rfl, _⟩ := h; rfl; done) | (obtain ⟨_, _, _, _, _, _, _, rfl, _⟩ := h; rfl; done) | (obtain ⟨_, _, _, _, _, _, _, _, rfl, _⟩ := h; rfl; done) | (obtain ⟨_, _, _, _, _, _, _, _, _, rfl, _⟩ := h; rfl; done) | (obtain ⟨_, _, _, _, _, _, _, _, _, _, rfl, _⟩ := h; rfl; done) | (obtain ⟨_, _, _, _, _, _, _, _, _, _, _, rfl, _⟩ := h; rfl; done) | (obtain ⟨_, _, _, _, _, _, _, _, _, _, _, _, rfl, _⟩ := h; rfl; done) | (obtain ⟨_, _, _, _, _, _, _, _, _, _, _, _, _, rfl, _⟩ := h; rfl; done) | (obtain ⟨_, _, _, _, _, _, _, _, _, _, _, _, _, _, rfl, _⟩ := h; rfl; done)))) (fun cdv A outer s H vs Q E hr h => ⟨t__law_frames K a, ?_, rd vs H Q E h⟩)
  exact (pss_one (ps_ret (pe_lc (own := [("_law_at", 2)]) (g := (gName 2)) (tt := (tTest (tOp rEq (tOp rModI (tVar 2) (tVar 0)) (tVar 1)))) (te := (tVar 2)) rfl nd (pi_range1 rfl T.n_range (pa_cons pe_int pa_nil)) (blkOk_by (N := N__law_frames) (sc := defScope s__law_frames) (by decide +kernel)) (fun _ _ _ _ _ => (pg_name (i := 2) nd rfl (by first | exact Or.inl rfl | exact Or.inr rfl))) (fun _ _ _ _ _ => (pts_one (pt_cmpR op_eq (pe_op op_mod (pv 2) (pv 0)) (pv 1) (nomark _)))) (fun _ _ _ _ _ => (pv 2)))))
theorem ok__law_phase (T : Txt K mg a)
    (G__law_frames : FnOk a.p a.w K mg base CX0 1 a.f__law_frames a.d__law_frames P__law_frames (sp__law_frames K a))
    (rd : RD (sp__law_phase K a) (t__law_phase K a) N__law_phase) :
    FnOk a.p a.w K mg base CX0 2 a.f__law_phase a.d__law_phase P__law_phase (sp__law_phase K a) := by
  have nd := sc__law_phase.nd
  refine T.F__law_phase.ok sc__law_phase (fun vs H Q E h => by first | (obtain ⟨rfl, _⟩ := h; rfl; done) | (obtain ⟨_, rfl, _⟩ := h; rfl; done) | (obtain ⟨_, _, rfl, _⟩ := h; rfl; done) | (obtain ⟨_, _, _, rfl, _⟩ := h; rfl; done) | (obtain ⟨_, _, _, _, rfl, _⟩ := h; rfl; done) | (obtain ⟨_, _, _, _, _, rfl, _⟩ := h; rfl; done) | (obtain ⟨_, _, _, _, _, _, rfl, _⟩ := h; rfl; done) | (obtain ⟨_, _, _, _, _, _, _, rfl, _⟩ := h; rfl; done) | (obtain ⟨_, _, _, _, _, _, _, _, rfl, _⟩ := h; rfl; done) | (obtain ⟨_, _, _, _, _, _, _, _, _, rfl, _⟩ := h; rfl; done) | (obtain ⟨_, _, _, _, _, _, _, _, _, _, rfl, _⟩ := h; rfl; done) | (obtain ⟨_, _, _, _, _, _, _, _, _, _, _, rfl, _⟩ := h; rfl; done) | (obtain ⟨_, _, _, _, _, _, _, _, _, _, _, _, rfl, _⟩ := h; rfl; done) | (obtain ⟨_, _, _, _, _, _, _, _, _, _, _, _, _, rfl, _⟩ := h; rfl; done) | (obtain ⟨_, _, _, _, _, _, _, _, _, _, _, _, _, _, rfl, _⟩ := h; rfl; done) | (rcases h with ⟨_, rfl, _⟩ | ⟨_, rfl, _⟩ <;> rfl; done) | (rcases h with ⟨_, rfl, _⟩ | ⟨_, _, rfl, _⟩ <;> rfl; done) | (rcases h with ⟨_, rfl, _⟩ | ⟨_, _, _, rfl, _⟩ <;> rfl; done) | (rcases h with ⟨_, rfl, _⟩ | ⟨_, _, _, _, rfl, _⟩ <;> rfl; done) | (rcases h with ⟨_, rfl, _⟩ | ⟨_, _, _, _, _, rfl, _⟩ <;> rfl; done) | (rcases h with ⟨_, rfl, _⟩ | ⟨_, _, _, _, _, _, rfl, _⟩ <;> rfl; done) | (rcases h with ⟨_, _, rfl, _⟩ | ⟨_, rfl, _⟩ <;> rfl; done) | (rcases h with ⟨_, _, rfl, _⟩ | ⟨_, _, rfl, _⟩ <;> rfl; done) | (rcases h with ⟨_, _, rfl, _⟩ | ⟨_, _, _, rfl, _⟩ <;> rfl; done) | (rcases h with ⟨_, _, rfl, _⟩ | ⟨_, _, _, _, rfl, _⟩ <;> rfl; done) | (rcases h with ⟨_, _, rfl, _⟩ | ⟨_, _, _, _, _, rfl, _⟩ <;> rfl; done) | (rcases h with ⟨_, _, rfl, _⟩ | ⟨_, _, _, _, _, _, rfl, _⟩ <;> rfl; done) | (rcases h with ⟨_, _, _, rfl, _⟩ | ⟨_, rfl, _⟩ <;> rfl; done) | (rcases h with ⟨_, _, _, rfl, _⟩ | ⟨_, _, rfl, _⟩ <;> rfl; done) | (rcases h with ⟨_, _, _, rfl, _⟩ | ⟨_, _, _, rfl, _⟩ <;> rfl; done) | (rcases h with ⟨_, _, _, rfl, _⟩ | ⟨_, _, _, _, rfl, _⟩ <;> rfl; done) | (rcases h with ⟨_, _, _, rfl, _⟩ | ⟨_, _, _, _, _, rfl, _⟩ <;> rfl; done) | (rcases h with ⟨_, _, _, rfl, _⟩ | ⟨_, _, _, _, _, _, rfl, _⟩ <;> rfl; done) | (rcases h with ⟨_, _, _, _, rfl, _⟩ | ⟨_, rfl, _⟩ <;> rfl; done) | (rcases h with ⟨_, _, _, _, rfl, _⟩ | ⟨_, _, rfl, _⟩ <;> rfl; done) | (rcases h with ⟨_, _, _, _, rfl, _⟩ | ⟨_, _, _, rfl, _⟩ <;> rfl; done) | (rcases h with ⟨_, _, _, _, rfl, _⟩ | ⟨_, _, _, _, rfl, _⟩ <;> rfl; done) | (rcases h with ⟨_, _, _, _, rfl, _⟩ | ⟨_, _, _, _, _, rfl, _⟩ <;> rfl; done) | (rcases h with ⟨_, _, _, _, rfl, _⟩ | ⟨_, _, _, _, _, _, rfl, _⟩ <;> rfl; done) | (rcases h with ⟨_, _, _, _, _, rfl, _⟩ | ⟨_, rfl, _⟩ <;> rfl; done) | (rcases h with ⟨_, _, _, _, _, rfl, _⟩ | ⟨_, _, rfl, _⟩ <;> rfl; done) | (rcases h with ⟨_, _, _, _, _, rfl, _⟩ | ⟨_, _, _, rfl, _⟩ <;> rfl; done) | (rcases h with ⟨_, _, _, _, _, rfl, _⟩ | ⟨_, _, _, _, rfl, _⟩ <;> rfl; done) | (rcases h with ⟨_, _, _, _, _, rfl, _⟩ | ⟨_, _, _, _, _, rfl, _⟩ <;> rfl; done) | (rcases h with ⟨_, _, _, _, _, rfl, _⟩ | ⟨_, _, _, _, _, _, rfl, _⟩ <;> rfl; done) | (rcases h with ⟨_, _, _, _, _, _, rfl, _⟩ | ⟨_, rfl, _⟩ <;> rfl; done) | (rcases h with ⟨_, _, _, _, _, _, rfl, _⟩ | ⟨_, _, rfl, _⟩ <;> rfl; done) | (rcases h with ⟨_, _, _, _, _, _, rfl, _⟩ | ⟨_, _, _, rfl, _⟩ <;> rfl; done) | (rcases h with ⟨_, _, _, _, _, _, rfl, _⟩ | ⟨_, _, _, _, rfl, _⟩ <;> rfl; done) | (rcases h with ⟨_, _, _, _, _, _, rfl, _⟩ | ⟨_, _, _, _, _, rfl, _⟩ <;> rfl; done) | (rcases h with ⟨_, _, _, _, _, _, rfl, _⟩ | ⟨_, _, _, _, _, _, rfl, _⟩ <;> rfl; done) | (rcases h with ⟨_, rfl, _⟩ | ⟨_, _, rfl, _⟩ <;> rfl) | (rcases h with ⟨_, rfl, _⟩ | ⟨_, rfl, _⟩ <;> rfl) | (rcases h with h | h | h <;> (first | (obtain ⟨rfl, _⟩ := h; rfl; done) | (obtain ⟨_, rfl, _⟩ := h; rfl; done) | (obtain ⟨_, _, rfl, _⟩ := h; rfl; done) | (obtain ⟨_, _, _, rfl, _⟩ := h; rfl; done) | (obtain ⟨_, _, _, _, rfl, _⟩ := h; rfl; done) | (obtain ⟨_, _, _, _, _, rfl, _⟩ := h; rfl; done) | (obtain ⟨_, _, _, _, _, _, rfl, _⟩ := h; rfl; done) | (obtain ⟨_, _, _, _, _, _, _, rfl, _⟩ := h; rfl; done) | (obtain ⟨_, _, _, _, _, _, _, _, rfl, _⟩ := h; rfl; done) | (obtain ⟨_, _, _, _, _, _, _, _, _, rfl, _⟩ := h; rfl; done) | (obtain ⟨_, _, _, _, _, _, _, _, _, _, rfl, _⟩ := h; rfl; done) | (obtain ⟨_, _, _, _, _, _, _, _, _, _, _, rfl, _⟩ := h; rfl; done) | (obtain ⟨_, _, _, _, _, _, _, _, _, _, _, _, rfl, _⟩ := h; rfl; done) | (obtain ⟨_, _, _, _, _, _, _, _, _, _, _, _, _, rfl, _⟩ := h; rfl; done) | (obtain ⟨_, _, _, _, _, _, _, _, _, _, _, _, _, _, rfl, _⟩ := h; rfl; done)))) (fun cdv A outer s H vs Q E hr h => ⟨t__law_phase K a, ?_, rd vs H Q E h⟩)
  exact (pss_cons (ps_set (i := 3) nd rfl (by first | exact Or.inl rfl | exact Or.inr rfl) (pe_lc (own := [("_law_phase_here", 5)]) (g := (gName 5)) (tt := tYes) (te := (tCB (rMax K) (tCons (tLc (iList K (tCall (sp__law_frames K a) [] E0 (tCons (tVar 2) (tCons (tVar 5) tNil)))) (gName 4) tYes (tOp (rIxT K) (tVar 0) (tVar 4)) [4]) tNil))) rfl nd (pi_range1 rfl T.n_range (pa_cons (pv 2) pa_nil)) (blkOk_by (N := N__law_phase) (sc := defScope s__law_phase) (by decide +kernel)) (fun _ _ _ _ _ => (pg_name (i := 5) nd rfl (by first | exact Or.inl rfl | exact Or.inr rfl))) (fun _ _ _ _ _ => pts_nil) (fun _ _ _ _ _ => (pe_callB (cr_max rfl) (by rfl) T.n_max (by decide +kernel) (pa_cons (pe_lc (own := [("_law_at", 4)]) (g := (gName 4)) (tt := tYes) (te := (tOp (rIxT K) (tVar 0) (tVar 4))) rfl nd (pi_list (pe_call G__law_frames (hr.mono (by decide)) rfl T.g__law_frames T.F__law_frames.kp T.b__law_frames .nil pass0 (pa_cons (pv 2) (pa_cons (pv 5) pa_nil)))) (blkOk_by (by rfl)) (fun _ _ _ _ _ => (pg_name (i := 4) nd rfl (by first | exact Or.inl rfl | exact Or.inr rfl))) (fun _ _ _ _ _ => pts_nil) (fun _ _ _ _ _ => (pe_ix ix_tup (pv 0) (pv 4) (fun _ _ => rfl)))) pa_nil)))))
      (pss_cons (ps_if (pt_cmpR op_le (pe_op op_add (pe_op op_add (pe_callB (cr_min rfl) (by rfl) T.n_min (by decide +kernel) (pa_cons (pv 3) pa_nil)) (pv 1)) pe_int) pe_int (nomark _)) (pss_one (ps_ret (pe_bm PySem.F.plainAttrs_list PySem.F.slot_list_index PySem.F.type_list_index mt_index (pv 3) (pa_cons (pe_callB (cr_min rfl) (by rfl) T.n_min (by decide +kernel) (pa_cons (pv 3) pa_nil)) pa_nil)))) pss_nil)
      (pss_cons (ps_set (i := 6) nd rfl (by first | exact Or.inl rfl | exact Or.inr rfl) (pe_lst pa_nil))
      (pss_cons (ps_for PassesOwn.never rfl (pi_range1 rfl T.n_range (pa_cons (pv 2) pa_nil)) (pg_name (i := 5) nd rfl (by first | exact Or.inl rfl | exact Or.inr rfl)) (pss_one (ps_expr (pe_bm PySem.F.plainAttrs_list PySem.F.slot_list_append PySem.F.type_list_append mt_append (pv 6) (pa_cons (pe_ix ix_list (pe_lc (own := [("_law_at", 4)]) (g := (gName 4)) (tt := (tTest (tOp rEq (tOp (rIxT K) (tVar 0) (tVar 4)) (tOp (rIxL K) (tVar 3) (tVar 5))))) (te := (tVar 4)) rfl nd (pi_list (pe_call G__law_frames (hr.mono (by decide)) rfl T.g__law_frames T.F__law_frames.kp T.b__law_frames .nil pass0 (pa_cons (pv 2) (pa_cons (pv 5) pa_nil)))) (blkOk_by (N := N__law_phase) (sc := defScope s__law_phase) (by decide +kernel)) (fun _ _ _ _ _ => (pg_name (i := 4) nd rfl (by first | exact Or.inl rfl | exact Or.inr rfl))) (fun _ _ _ _ _ => (pts_one (pt_cmpR op_eq (pe_ix ix_tup (pv 0) (pv 4) (fun _ _ => rfl)) (pe_ix ix_list (pv 3) (pv 5) (fun _ _ => rfl)) (nomark _)))) (fun _ _ _ _ _ => (pv 4))) pe_int (fun _ _ => rfl)) pa_nil)))))
      (pss_one (ps_ret (pv 6)))))))
theorem ok__law_full (T : Txt K mg a)
    (G__law_frames : FnOk a.p a.w K mg base CX0 1 a.f__law_frames a.d__law_frames P__law_frames (sp__law_frames K a))
    (G__law_one : FnOk a.p a.w K mg base CX0 2 a.f__law_one a.d__law_one P__law_one (sp__law_one K a))
    (G__law_pull : FnOk a.p a.w K mg base CX0 1 a.f__law_pull a.d__law_pull P__law_pull (sp__law_pull K a))
    (rd : RD (sp__law_full K a) (t__law_full K a) N__law_full) :
    FnOk a.p a.w K mg base CX0 3 a.f__law_full a.d__law_full P__law_full (sp__law_full K a) := by
  have nd := sc__law_full.nd
  refine T.F__law_full.ok sc__law_full (fun vs H Q E h => by first | (obtain ⟨rfl, _⟩ := h; rfl; done) | (obtain ⟨_, rfl, _⟩ := h; rfl; done) | (obtain ⟨_, _, rfl, _⟩ := h; rfl; done) | (obtain ⟨_, _, _, rfl, _⟩ := h; rfl; done) | (obtain ⟨_, _, _, _, rfl, _⟩ := h; rfl; done) | (obtain ⟨_, _, _, _, _, rfl, _⟩ := h; rfl; done) | (obtain ⟨_, _, _, _, _, _, rfl, _⟩ := h; rfl; done) | (obtain ⟨_, _, _, _, _, _, _, rfl, _⟩ := h; rfl; done) | (obtain ⟨_, _, _, _, _, _, _, _, rfl, _⟩ := h; rfl; done) | (obtain ⟨_, _, _, _, _, _, _, _, _, rfl, _⟩ := h; rfl; done) | (obtain ⟨_, _, _, _, _, _, _, _, _, _, rfl, _⟩ := h; rfl; done) | (obtain ⟨_, _, _, _, _, _, _, _, _, _, _, rfl, _⟩ := h; rfl; done) | (obtain ⟨_, _, _, _, _, _, _, _, _, _, _, _, rfl, _⟩ := h; rfl; done) | (obtain ⟨_, _, _, _, _, _, _, _, _, _, _, _, _, rfl, _⟩ := h; rfl; done) | (obtain ⟨_, _, _, _, _, _, _, _, _, _, _, _, _, _, rfl, _⟩ := h; rfl; done) | (rcases h with ⟨_, rfl, _⟩ | ⟨_, rfl, _⟩ <;> rfl; done) | (rcases h with ⟨_, rfl, _⟩ | ⟨_, _, rfl, _⟩ <;> rfl; done) | (rcases h with ⟨_, rfl, _⟩ | ⟨_, _, _, rfl, _⟩ <;> rfl; done) | (rcases h with ⟨_, rfl, _⟩ | ⟨_, _, _, _, rfl, _⟩ <;> rfl; done) | (rcases h with ⟨_, rfl, _⟩ | ⟨_, _, _, _, _, rfl, _⟩ <;> rfl; done) | (rcases h with ⟨_, rfl, _⟩ | ⟨_, _, _, _, _, _, rfl, _⟩ <;> rfl; done) | (rcases h with ⟨_, _, rfl, _⟩ | ⟨_, rfl, _⟩ <;> rfl; done) | (rcases h with ⟨_, _, rfl, _⟩ | ⟨_, _, rfl, _⟩ <;> rfl; done) | (rcases h with ⟨_, _, rfl, _⟩ | ⟨_, _, _, rfl, _⟩ <;> rfl; done) | (rcases h with ⟨_, _, rfl, _⟩ | ⟨_, _, _, _, rfl, _⟩ <;> rfl; done) | (rcases h with ⟨_, _, rfl, _⟩ | ⟨_, _, _, _, _, rfl, _⟩ <;> rfl; done) | (rcases h with ⟨_, _, rfl, _⟩ | ⟨_, _, _, _, _, _, rfl, _⟩ <;> rfl; done) | (rcases h with ⟨_, _, _, rfl, _⟩ | ⟨_, rfl, _⟩ <;> rfl; done) | (rcases h with ⟨_, _, _, rfl, _⟩ | ⟨_, _, rfl, _⟩ <;> rfl; done) | (rcases h with ⟨_, _, _, rfl, _⟩ | ⟨_, _, _, rfl, _⟩ <;> rfl; done) | (rcases h with ⟨_, _, _, rfl, _⟩ | ⟨_, _, _, _, rfl, _⟩ <;> rfl; done) | (rcases h with ⟨_, _, _, rfl, _⟩ | ⟨_, _, _, _, _, rfl, _⟩ <;> rfl; done) | (rcases h with ⟨_, _, _, rfl, _⟩ | ⟨_, _, _, _, _, _, rfl, _⟩ <;> rfl; done) | (rcases h with ⟨_, _, _, _, rfl, _⟩ | ⟨_, rfl, _⟩ <;> rfl; done) | (rcases h with ⟨_, _, _, _, rfl, _⟩ | ⟨_, _, rfl, _⟩ <;> rfl; done) | (rcases h with ⟨_, _, _, _, rfl, _⟩ | ⟨_, _, _, rfl, _⟩ <;> rfl; done) | (rcases h with ⟨_, _, _, _, rfl, _⟩ | ⟨_, _, _, _, rfl, _⟩ <;> rfl; done) | (rcases h with ⟨_, _, _, _, rfl, _⟩ | ⟨_, _, _, _, _, rfl, _⟩ <;> rfl; done) | (rcases h with ⟨_, _, _, _, rfl, _⟩ | ⟨_, _, _, _, _, _, rfl, _⟩ <;> rfl; done) | (rcases h with ⟨_, _, _, _, _, rfl, _⟩ | ⟨_, rfl, _⟩ <;> rfl; done) | (rcases h with ⟨_, _, _, _, _, rfl, _⟩ | ⟨_, _, rfl, _⟩ <;> rfl; done) | (rcases h with ⟨_, _, _, _, _, rfl, _⟩ | ⟨_, _, _, rfl, _⟩ <;> rfl; done) | (rcases h with ⟨_, _, _, _, _, rfl, _⟩ | ⟨_, _, _, _, rfl, _⟩ <;> rfl; done) | (rcases h with ⟨_, _, _, _, _, rfl, _⟩ | ⟨_, _, _, _, _, rfl, _⟩ <;> rfl; done) | (rcases h with ⟨_, _, _, _, _, rfl, _⟩ | ⟨_, _, _, _, _, _, rfl, _⟩ <;> rfl; done) | (rcases h with ⟨_, _, _, _, _, _, rfl, _⟩ | ⟨_, rfl, _⟩ <;> rfl; done) | (rcases h with ⟨_, _, _, _, _, _, rfl, _⟩ | ⟨_, _, rfl, _⟩ <;> rfl; done) | (rcases h with ⟨_, _, _, _, _, _, rfl, _⟩ | ⟨_, _, _, rfl, _⟩ <;> rfl; done) | (rcases h with ⟨_, _, _, _, _, _, rfl, _⟩ | ⟨_, _, _, _, rfl, _⟩ <;> rfl; done) | (rcases h with ⟨_, _, _, _, _, _, rfl, _⟩ | ⟨_, _, _, _, _, rfl, _⟩ <;> rfl; done) | (rcases h with ⟨_, _, _, _, _, _, rfl, _⟩ | ⟨_, _, _, _, _, _, rfl, _⟩ <;> rfl; done) | (rcases h with ⟨_, rfl, _⟩ | ⟨_, _, rfl, _⟩ <;> rfl) | (rcases h with ⟨_, rfl, _⟩ | ⟨_, rfl, _⟩ <;> rfl) | (rcases h with h | h | h <;> (first | (obtain ⟨rfl, _⟩ := h; rfl; done) | (obtain ⟨_, rfl, _⟩ := h; rfl; done) | (obtain ⟨_, _, rfl, _⟩ := h; rfl; done) | (obtain ⟨_, _, _, rfl, _⟩ := h; rfl; done) | (obtain ⟨_, _, _, _, rfl, _⟩ := h; rfl; done) | (obtain ⟨_, _, _, _, _, rfl, _⟩ := h; rfl; done) | (obtain ⟨_, _, _, _, _, _, rfl, _⟩ := h; rfl; done) | (obtain ⟨_, _, _, _, _, _, _, rfl, _⟩ := h; rfl; done) | (obtain ⟨_, _, _, _, _, _, _, _, rfl, _⟩ := h; rfl; done) | (obtain ⟨_, _, _, _, _, _, _, _, _, rfl, _⟩ := h; rfl; done) | (obtain ⟨_, _, _, _, _, _, _, _, _, _, rfl, _⟩ := h; rfl; done) | (obtain ⟨_, _, _, _, _, _, _, _, _, _, _, rfl, _⟩ := h; rfl; done) | (obtain ⟨_, _, _, _, _, _, _, _, _, _, _, _, rfl, _⟩ := h; rfl; done) | (obtain ⟨_, _, _, _, _, _, _, _, _, _, _, _, _, rfl, _⟩ := h; rfl; done) | (obtain ⟨_, _, _, _, _, _, _, _, _, _, _, _, _, _, rfl, _⟩ := h; rfl; done)))) (fun cdv A outer s H vs Q E hr h => ⟨t__law_full K a, ?_, rd vs H Q E h⟩)
  exact (pss_cons (ps_set (i := 1) nd rfl (by first | exact Or.inl rfl | exact Or.inr rfl) (pe_op op_rep (pe_lst (pa_cons pe_int pa_nil)) pe_int))
      (pss_cons (ps_for PassesOwn.never rfl (pi_range1 rfl T.n_range (pa_cons (pe_call G__law_pull (hr.mono (by decide)) rfl T.g__law_pull T.F__law_pull.kp T.b__law_pull .nil pass0 (pa_cons (pv 0) (pa_cons (pe_ix ix_list (pe_lst (pa_cons pe_int (pa_cons pe_int pa_nil))) (pe_call G__law_pull (hr.mono (by decide)) rfl T.g__law_pull T.F__law_pull.kp T.b__law_pull .nil pass0 (pa_cons (pv 0) (pa_cons pe_int pa_nil))) (fun _ _ => rfl)) pa_nil))) pa_nil)) (pg_name (i := 2) nd rfl (by first | exact Or.inl rfl | exact Or.inr rfl)) (pss_cons (ps_set (i := 3) nd rfl (by first | exact Or.inl rfl | exact Or.inr rfl) (pe_call G__law_one (hr.mono (by decide)) rfl T.g__law_one T.F__law_one.kp T.b__law_one .nil pass0 (pa_cons (pv 0) (pa_cons (pe_lst (pa_cons pe_int (pa_cons pe_int (pa_cons pe_int (pa_cons pe_int (pa_cons pe_int (pa_cons pe_int pa_nil))))))) pa_nil))))
      (pss_cons (ps_set (i := 4) nd rfl (by first | exact Or.inl rfl | exact Or.inr rfl) (pe_call G__law_pull (hr.mono (by decide)) rfl T.g__law_pull T.F__law_pull.kp T.b__law_pull .nil pass0 (pa_cons (pv 0) (pa_cons (pv 3) pa_nil))))
      (pss_cons (ps_set (i := 5) nd rfl (by first | exact Or.inl rfl | exact Or.inr rfl) (pe_call G__law_pull (hr.mono (by decide)) rfl T.g__law_pull T.F__law_pull.kp T.b__law_pull .nil pass0 (pa_cons (pv 0) (pa_cons pe_int pa_nil))))
      (pss_one (ps_if (pt_val (pe_callB (cr_all rfl) (by rfl) T.n_all (by decide +kernel) (pa_cons (pe_lc (own := [("_law_at", 6)]) (g := (gName 6)) (tt := tYes) (te := (tOp rLeI (tOp rAddI (tOp rAddI (tOp (rIxL K) (tVar 1) (tVar 6)) (tVar 5)) (tC (.int 13))) (tC (.int 1350)))) rfl nd (pi_list (pe_call G__law_frames (hr.mono (by decide)) rfl T.g__law_frames T.F__law_frames.kp T.b__law_frames .nil pass0 (pa_cons (pv 3) (pa_cons (pv 4) pa_nil)))) (blkOk_by (N := N__law_full) (sc := defScope s__law_full) (by decide +kernel)) (fun _ _ _ _ _ => (pg_name (i := 6) nd rfl (by first | exact Or.inl rfl | exact Or.inr rfl))) (fun _ _ _ _ _ => pts_nil) (fun _ _ _ _ _ => (pe_cmpR op_le (pe_op op_add (pe_op op_add (pe_ix ix_list (pv 1) (pv 6) (fun _ _ => rfl)) (pv 5)) pe_int) pe_int (nomark _)))) pa_nil))) (pss_one (ps_for PassesOwn.never rfl (pi_list (pe_call G__law_frames (hr.mono (by decide)) rfl T.g__law_frames T.F__law_frames.kp T.b__law_frames .nil pass0 (pa_cons (pv 3) (pa_cons (pv 4) pa_nil)))) (pg_name (i := 6) nd rfl (by first | exact Or.inl rfl | exact Or.inr rfl)) (pss_one (ps_asg (pe_op op_add (pe_op op_add (pe_ix ix_list (pv 1) (pv 6) (fun _ _ => rfl)) (pv 5)) pe_int) (pg_sub (pv 1) (pv 6) set_list))))) pss_nil))))))
      (pss_one (ps_ret (pe_callTy call_tuple_of (by rfl) T.n_tuple (by decide +kernel) (pa_cons (pv 1) pa_nil))))))
theorem ok__law_said (T : Txt K mg a)
    (G_phase_for : FnOk a.p a.w K mg base (L2.CX a.p a.w) 4 a.f_phase_for a.d_phase_for P_phase_for (sp_phase_for K a))
    (rd : RD (sp__law_said K a) (t__law_said K a) N__law_said) :
    FnOk a.p a.w K mg base CX0 5 a.f__law_said a.d__law_said P__law_said (sp__law_said K a) := by
  have nd := sc__law_said.nd
  refine T.F__law_said.ok sc__law_said (fun vs H Q E h => by first | (obtain ⟨rfl, _⟩ := h; rfl; done) | (obtain ⟨_, rfl, _⟩ := h; rfl; done) | (obtain ⟨_, _, rfl, _⟩ := h; rfl; done) | (obtain ⟨_, _, _, rfl, _⟩ := h; rfl; done) | (obtain ⟨_, _, _, _, rfl, _⟩ := h; rfl; done) | (obtain ⟨_, _, _, _, _, rfl, _⟩ := h; rfl; done) | (obtain ⟨_, _, _, _, _, _, rfl, _⟩ := h; rfl; done) | (obtain ⟨_, _, _, _, _, _, _, rfl, _⟩ := h; rfl; done) | (obtain ⟨_, _, _, _, _, _, _, _, rfl, _⟩ := h; rfl; done) | (obtain ⟨_, _, _, _, _, _, _, _, _, rfl, _⟩ := h; rfl; done) | (obtain ⟨_, _, _, _, _, _, _, _, _, _, rfl, _⟩ := h; rfl; done) | (obtain ⟨_, _, _, _, _, _, _, _, _, _, _, rfl, _⟩ := h; rfl; done) | (obtain ⟨_, _, _, _, _, _, _, _, _, _, _, _, rfl, _⟩ := h; rfl; done) | (obtain ⟨_, _, _, _, _, _, _, _, _, _, _, _, _, rfl, _⟩ := h; rfl; done) | (obtain ⟨_, _, _, _, _, _, _, _, _, _, _, _, _, _, rfl, _⟩ := h; rfl; done) | (rcases h with ⟨_, rfl, _⟩ | ⟨_, rfl, _⟩ <;> rfl; done) | (rcases h with ⟨_, rfl, _⟩ | ⟨_, _, rfl, _⟩ <;> rfl; done) | (rcases h with ⟨_, rfl, _⟩ | ⟨_, _, _, rfl, _⟩ <;> rfl; done) | (rcases h with ⟨_, rfl, _⟩ | ⟨_, _, _, _, rfl, _⟩ <;> rfl; done) | (rcases h with ⟨_, rfl, _⟩ | ⟨_, _, _, _, _, rfl, _⟩ <;> rfl; done) | (rcases h with ⟨_, rfl, _⟩ | ⟨_, _, _, _, _, _, rfl, _⟩ <;> rfl; done) | (rcases h with ⟨_, _, rfl, _⟩ | ⟨_, rfl, _⟩ <;> rfl; done) | (rcases h with ⟨_, _, rfl, _⟩ | ⟨_, _, rfl, _⟩ <;> rfl; done) | (rcases h with ⟨_, _, rfl, _⟩ | ⟨_, _, _, rfl, _⟩ <;> rfl; done) | (rcases h with ⟨_, _, rfl, _⟩ | ⟨_, _, _, _, rfl, _⟩ <;> rfl; done) | (rcases h with ⟨_, _, rfl, _⟩ | ⟨_, _, _, _, _, rfl, _⟩ <;> rfl; done) | (rcases h with ⟨_, _, rfl, _⟩ | ⟨_, _, _, _, _, _, rfl, _⟩ <;> rfl; done) | (rcases h with ⟨_, _, _, rfl, _⟩ | ⟨_, rfl, _⟩ <;> rfl; done) | (rcases h with ⟨_, _, _, rfl, _⟩ | ⟨_, _, rfl, _⟩ <;> rfl; done) | (rcases h with ⟨_, _, _, rfl, _⟩ | ⟨_, _, _, rfl, _⟩ <;> rfl; done) | (rcases h with ⟨_, _, _, rfl, _⟩ | ⟨_, _, _, _, rfl, _⟩ <;> rfl; done) | (rcases h with ⟨_, _, _, rfl, _⟩ | ⟨_, _, _, _, _, rfl, _⟩ <;> rfl; done) | (rcases h with ⟨_, _, _, rfl, _⟩ | ⟨_, _, _, _, _, _, rfl, _⟩ <;> rfl; done) | (rcases h with ⟨_, _, _, _, rfl, _⟩ | ⟨_, rfl, _⟩ <;> rfl; done) | (rcases h with ⟨_, _, _, _, rfl, _⟩ | ⟨_, _, rfl, _⟩ <;> rfl; done) | (rcases h with ⟨_, _, _, _, rfl, _⟩ | ⟨_, _, _, rfl, _⟩ <;> rfl; done) | (rcases h with ⟨_, _, _, _, rfl, _⟩ | ⟨_, _, _, _, rfl, _⟩ <;> rfl; done) | (rcases h with ⟨_, _, _, _, rfl, _⟩ | ⟨_, _, _, _, _, rfl, _⟩ <;> rfl; done) | (rcases h with ⟨_, _, _, _, rfl, _⟩ | ⟨_, _, _, _, _, _, rfl, _⟩ <;> rfl; done) | (rcases h with ⟨_, _, _, _, _, rfl, _⟩ | ⟨_, rfl, _⟩ <;> rfl; done) | (rcases h with ⟨_, _, _, _, _, rfl, _⟩ | ⟨_, _, rfl, _⟩ <;> rfl; done) | (rcases h with ⟨_, _, _, _, _, rfl, _⟩ | ⟨_, _, _, rfl, _⟩ <;> rfl; done) | (rcases h with ⟨_, _, _, _, _, rfl, _⟩ | ⟨_, _, _, _, rfl, _⟩ <;> rfl; done) | (rcases h with ⟨_, _, _, _, _, rfl, _⟩ | ⟨_, _, _, _, _, rfl, _⟩ <;> rfl; done) | (rcases h with ⟨_, _, _, _, _, rfl, _⟩ | ⟨_, _, _, _, _, _, rfl, _⟩ <;> rfl; done) | (rcases h with ⟨_, _, _, _, _, _, rfl, _⟩ | ⟨_, rfl, _⟩ <;> rfl; done) | (rcases h with ⟨_, _, _, _, _, _, rfl, _⟩ | ⟨_, _, rfl, _⟩ <;> rfl; done) | (rcases h with ⟨_, _, _, _, _, _, rfl, _⟩ | ⟨_, _, _, rfl, _⟩ <;> rfl; done) | (rcases h with ⟨_, _, _, _, _, _, rfl, _⟩ | ⟨_, _, _, _, rfl, _⟩ <;> rfl; done) | (rcases h with ⟨_, _, _, _, _, _, rfl, _⟩ | ⟨_, _, _, _, _, rfl, _⟩ <;> rfl; done) | (rcases h with ⟨_, _, _, _, _, _, rfl, _⟩ | ⟨_, _, _, _, _, _, rfl, _⟩ <;> rfl; done) | (rcases h with ⟨_, rfl, _⟩ | ⟨_, _, rfl, _⟩ <;> rfl) | (rcases h with ⟨_, rfl, _⟩ | ⟨_, rfl, _⟩ <;> rfl) | (rcases h with h | h | h <;> (first | (obtain ⟨rfl, _⟩ := h; rfl; done) | (obtain ⟨_, rfl, _⟩ := h; rfl; done) | (obtain ⟨_, _, rfl, _⟩ := h; rfl; done) | (obtain ⟨_, _, _, rfl, _⟩ := h; rfl; done) | (obtain ⟨_, _, _, _, rfl, _⟩ := h; rfl; done) | (obtain ⟨_, _, _, _, _, rfl, _⟩ := h; rfl; done) | (obtain ⟨_, _, _, _, _, _, rfl, _⟩ := h; rfl; done) | (obtain ⟨_, _, _, _, _, _, _, rfl, _⟩ := h; rfl; done) | (obtain ⟨_, _, _, _, _, _, _, _, rfl, _⟩ := h; rfl; done) | (obtain ⟨_, _, _, _, _, _, _, _, _, rfl, _⟩ := h; rfl; done) | (obtain ⟨_, _, _, _, _, _, _, _, _, _, rfl, _⟩ := h; rfl; done) | (obtain ⟨_, _, _, _, _, _, _, _, _, _, _, rfl, _⟩ := h; rfl; done) | (obtain ⟨_, _, _, _, _, _, _, _, _, _, _, _, rfl, _⟩ := h; rfl; done) | (obtain ⟨_, _, _, _, _, _, _, _, _, _, _, _, _, rfl, _⟩ := h; rfl; done) | (obtain ⟨_, _, _, _, _, _, _, _, _, _, _, _, _, _, rfl, _⟩ := h; rfl; done)))) (fun cdv A outer s H vs Q E hr h => ⟨t__law_said K a, ?_, rd vs H Q E h⟩)
  exact (pss_cons (ps_set (i := 3) nd rfl (by first | exact Or.inl rfl | exact Or.inr rfl) pe_non)
      (pss_cons (ps_try_as (i := 4) (tb := (fun W => (tAsg (tCallS (sp_phase_for K a) (WE W) (tCons (tVar 0) (tCons (tVar 1) (tCons (tVar 2) tNil)))) (gName 3)))) (ts := (fun ae cls d => (tAsg (tIf (tB (tCB (rIsE3 K a.c_NoRoom ae cls d) (tCons (tVar 4) (tCons (tC (.ref a.c_NoRoom)) tNil)))) (tByFr a.c_NoRoom ae cls d (tVar 4)) (tC (.str ("other" : Str)))) (gName 3)))) (Wout := fun _ _ _ _ => False) rfl rfl nd rfl rfl ⟨rfl, by decide, .inl T.gC_BusError⟩ takes0 (fun W pn xe tk _ => (pss_one (ps_set (i := 3) nd rfl (by first | exact Or.inl rfl | exact Or.inr rfl) (pe_callS G_phase_for (hr.mono (by decide)) rfl T.g_phase_for T.F_phase_for.kp T.b_phase_for (fun σ => passAt tk σ) (pa_cons (pv 0) (pa_cons (pv 1) (pa_cons (pv 2) pa_nil))))))) (fun ae oe cls d pn hz hf => (pss_one (ps_set (i := 3) nd rfl (by first | exact Or.inl rfl | exact Or.inr rfl) (pe_ifExp (pt_val (pe_callB (call_isE3 T.e_NoRoom hz hf) (by rfl) T.n_isinstance (by decide +kernel) (pa_cons (pv 4) (pa_cons (pe_glob (v := .ref a.c_NoRoom) rfl T.gC_NoRoom rfl) pa_nil)))) (pe_byFr T.o_NoRoom hz hf (pv 4)) pe_str)))))
      (pss_one (ps_ret (pv 3)))))
theorem ok__law_let (T : Txt K mg a)
    (G_let_in : FnOk a.p a.w K mg base (L2.CX a.p a.w) 5 a.f_let_in a.d_let_in P_let_in (sp_let_in K a))
    (rd : RD (sp__law_let K a) (t__law_let K a) N__law_let) :
    FnOk a.p a.w K mg base CX0 6 a.f__law_let a.d__law_let P__law_let (sp__law_let K a) := by
  have nd := sc__law_let.nd
  refine T.F__law_let.ok sc__law_let (fun vs H Q E h => by first | (obtain ⟨rfl, _⟩ := h; rfl; done) | (obtain ⟨_, rfl, _⟩ := h; rfl; done) | (obtain ⟨_, _, rfl, _⟩ := h; rfl; done) | (obtain ⟨_, _, _, rfl, _⟩ := h; rfl; done) | (obtain ⟨_, _, _, _, rfl, _⟩ := h; rfl; done) | (obtain ⟨_, _, _, _, _, rfl, _⟩ := h; rfl; done) | (obtain ⟨_, _, _, _, _, _, rfl, _⟩ := h; rfl; done) | (obtain ⟨_, _, _, _, _, _, _, rfl, _⟩ := h; rfl; done) | (obtain ⟨_, _, _, _, _, _, _, _, rfl, _⟩ := h; rfl; done) | (obtain ⟨_, _, _, _, _, _, _, _, _, rfl, _⟩ := h; rfl; done) | (obtain ⟨_, _, _, _, _, _, _, _, _, _, rfl, _⟩ := h; rfl; done) | (obtain ⟨_, _, _, _, _, _, _, _, _, _, _, rfl, _⟩ := h; rfl; done) | (obtain ⟨_, _, _, _, _, _, _, _, _, _, _, _, rfl, _⟩ := h; rfl; done) | (obtain ⟨_, _, _, _, _, _, _, _, _, _, _, _, _, rfl, _⟩ := h; rfl; done) | (obtain ⟨_, _, _, _, _, _, _, _, _, _, _, _, _, _, rfl, _⟩ := h; rfl; done) | (rcases h with ⟨_, rfl, _⟩ | ⟨_, rfl, _⟩ <;> rfl; done) | (rcases h with ⟨_, rfl, _⟩ | ⟨_, _, rfl, _⟩ <;> rfl; done) | (rcases h with ⟨_, rfl, _⟩ | ⟨_, _, _, rfl, _⟩ <;> rfl; done) | (rcases h with ⟨_, rfl, _⟩ | ⟨_, _, _, _, rfl, _⟩ <;> rfl; done) | (rcases h with ⟨_, rfl, _⟩ | ⟨_, _, _, _, _, rfl, _⟩ <;> rfl; done) | (rcases h with ⟨_, rfl, _⟩ | ⟨_, _, _, _, _, _, rfl, _⟩ <;> rfl; done) | (rcases h with ⟨_, _, rfl, _⟩ | ⟨_, rfl, _⟩ <;> rfl; done) | (rcases h with ⟨_, _, rfl, _⟩ | ⟨_, _, rfl, _⟩ <;> rfl; done) | (rcases h with ⟨_, _, rfl, _⟩ | ⟨_, _, _, rfl, _⟩ <;> rfl; done) | (rcases h with ⟨_, _, rfl, _⟩ | ⟨_, _, _, _, rfl, _⟩ <;> rfl; done) | (rcases h with ⟨_, _, rfl, _⟩ | ⟨_, _, _, _, _, rfl, _⟩ <;> rfl; done) | (rcases h with ⟨_, _, rfl, _⟩ | ⟨_, _, _, _, _, _, rfl, _⟩ <;> rfl; done) | (rcases h with ⟨_, _, _, rfl, _⟩ | ⟨_, rfl, _⟩ <;> rfl; done) | (rcases h with ⟨_, _, _, rfl, _⟩ | ⟨_, _, rfl, _⟩ <;> rfl; done) | (rcases h with ⟨_, _, _, rfl, _⟩ | ⟨_, _, _, rfl, _⟩ <;> rfl; done) | (rcases h with ⟨_, _, _, rfl, _⟩ | ⟨_, _, _, _, rfl, _⟩ <;> rfl; done) | (rcases h with ⟨_, _, _, rfl, _⟩ | ⟨_, _, _, _, _, rfl, _⟩ <;> rfl; done) | (rcases h with ⟨_, _, _, rfl, _⟩ | ⟨_, _, _, _, _, _, rfl, _⟩ <;> rfl; done) | (rcases h with ⟨_, _, _, _, rfl, _⟩ | ⟨_, rfl, _⟩ <;> rfl; done) | (rcases h with ⟨_, _, _, _, rfl, _⟩ | ⟨_, _, rfl, _⟩ <;> rfl; done) | (rcases h with ⟨_, _, _, _, rfl, _⟩ | ⟨_, _, _, rfl, _⟩ <;> rfl; done) | (rcases h with ⟨_, _, _, _, rfl, _⟩ | ⟨_, _, _, _, rfl, _⟩ <;> rfl; done) | (rcases h with ⟨_, _, _, _, rfl, _⟩ | ⟨_, _, _, _, _, rfl, _⟩ <;> rfl; done) | (rcases h with ⟨_, _, _, _, rfl, _⟩ | ⟨_, _, _, _, _, _, rfl, _⟩ <;> rfl; done) | (rcases h with ⟨_, _, _, _, _, rfl, _⟩ | ⟨_, rfl, _⟩ <;> rfl; done) | (rcases h with ⟨_, _, _, _, _, rfl, _⟩ | ⟨_, _, rfl, _⟩ <;> rfl; done) | (rcases h with ⟨_, _, _, _, _, rfl, _⟩ | ⟨_, _, _, rfl, _⟩ <;> rfl; done) | (rcases h with ⟨_, _, _, _, _, rfl, _⟩ | ⟨_, _, _, _, rfl, _⟩ <;> rfl; done) | (rcases h with ⟨_, _, _, _, _, rfl, _⟩ | ⟨_, _, _, _, _, rfl, _⟩ <;> rfl; done) | (rcases h with ⟨_, _, _, _, _, rfl, _⟩ | ⟨_, _, _, _, _, _, rfl, _⟩ <;> rfl; done) | (rcases h with ⟨_, _, _, _, _, _, rfl, _⟩ | ⟨_, rfl, _⟩ <;> rfl; done) | (rcases h with ⟨_, _, _, _, _, _, rfl, _⟩ | ⟨_, _, rfl, _⟩ <;> rfl; done) | (rcases h with ⟨_, _, _, _, _, _, rfl, _⟩ | ⟨_, _, _, rfl, _⟩ <;> rfl; done) | (rcases h with ⟨_, _, _, _, _, _, rfl, _⟩ | ⟨_, _, _, _, rfl, _⟩ <;> rfl; done) | (rcases h with ⟨_, _, _, _, _, _, rfl, _⟩ | ⟨_, _, _, _, _, rfl, _⟩ <;> rfl; done) | (rcases h with ⟨_, _, _, _, _, _, rfl, _⟩ | ⟨_, _, _, _, _, _, rfl, _⟩ <;> rfl; done) | (rcases h with ⟨_, rfl, _⟩ | ⟨_, _, rfl, _⟩ <;> rfl) | (rcases h with ⟨_, rfl, _⟩ | ⟨_, rfl, _⟩ <;> rfl) | (rcases h with h | h | h <;> (first | (obtain ⟨rfl, _⟩ := h; rfl; done) | (obtain ⟨_, rfl, _⟩ := h; rfl; done) | (obtain ⟨_, _, rfl, _⟩ := h; rfl; done) | (obtain ⟨_, _, _, rfl, _⟩ := h; rfl; done) | (obtain ⟨_, _, _, _, rfl, _⟩ := h; rfl; done) | (obtain ⟨_, _, _, _, _, rfl, _⟩ := h; rfl; done) | (obtain ⟨_, _, _, _, _, _, rfl, _⟩ := h; rfl; done) | (obtain ⟨_, _, _, _, _, _, _, rfl, _⟩ := h; rfl; done) | (obtain ⟨_, _, _, _, _, _, _, _, rfl, _⟩ := h; rfl; done) | (obtain ⟨_, _, _, _, _, _, _, _, _, rfl, _⟩ := h; rfl; done) | (obtain ⟨_, _, _, _, _, _, _, _, _, _, rfl, _⟩ := h; rfl; done) | (obtain ⟨_, _, _, _, _, _, _, _, _, _, _, rfl, _⟩ := h; rfl; done) | (obtain ⟨_, _, _, _, _, _, _, _, _, _, _, _, rfl, _⟩ := h; rfl; done) | (obtain ⟨_, _, _, _, _, _, _, _, _, _, _, _, _, rfl, _⟩ := h; rfl; done) | (obtain ⟨_, _, _, _, _, _, _, _, _, _, _, _, _, _, rfl, _⟩ := h; rfl; done)))) (fun cdv A outer s H vs Q E hr h => ⟨t__law_let K a, ?_, rd vs H Q E h⟩)
  exact (pss_one (ps_try_as (i := 2) (tb := (fun W => (tRet (tCallS (sp_let_in K a) (WE W) (tCons (tVar 0) (tCons (tVar 1) tNil)))))) (ts := (fun ae cls d => (tRet (tByFr a.c_NoRoom ae cls d (tVar 2))))) (Wout := fun _ _ _ _ => False) rfl rfl nd rfl rfl ⟨rfl, by decide, .inl T.gC_NoRoom⟩ takes0 (fun W pn xe tk _ => (pss_one (ps_ret (pe_callS G_let_in (hr.mono (by decide)) rfl T.g_let_in T.F_let_in.kp T.b_let_in (fun σ => passAt tk σ) (pa_cons (pv 0) (pa_cons (pv 1) pa_nil)))))) (fun ae oe cls d pn hz hf => (pss_one (ps_ret (pe_byFr T.o_NoRoom hz hf (pv 2)))))))
theorem ok_law (T : Txt K mg a)
    (G__law_bag : FnOk a.p a.w K mg base CX0 1 a.f__law_bag a.d__law_bag P__law_bag (sp__law_bag K a))
    (G__law_ends : FnOk a.p a.w K mg base CX0 4 a.f__law_ends a.d__law_ends P__law_ends (sp__law_ends K a))
    (G__law_full : FnOk a.p a.w K mg base CX0 3 a.f__law_full a.d__law_full P__law_full (sp__law_full K a))
    (G__law_let : FnOk a.p a.w K mg base CX0 6 a.f__law_let a.d__law_let P__law_let (sp__law_let K a))
    (G__law_one : FnOk a.p a.w K mg base CX0 2 a.f__law_one a.d__law_one P__law_one (sp__law_one K a))
    (G__law_phase : FnOk a.p a.w K mg base CX0 2 a.f__law_phase a.d__law_phase P__law_phase (sp__law_phase K a))
    (G__law_pull : FnOk a.p a.w K mg base CX0 1 a.f__law_pull a.d__law_pull P__law_pull (sp__law_pull K a))
    (G__law_said : FnOk a.p a.w K mg base CX0 5 a.f__law_said a.d__law_said P__law_said (sp__law_said K a))
    (G__law_same : FnOk a.p a.w K mg base CX0 6 a.f__law_same a.d__law_same P__law_same (sp__law_same K a))
    (rd : RD (sp_law K a) (t_law K a) N_law) :
    FnOk a.p a.w K mg base CX0 7 a.f_law a.d_law P_law (sp_law K a) := by
  have nd := sc_law.nd
  refine T.F_law.ok sc_law (fun vs H Q E h => by first | (obtain ⟨rfl, _⟩ := h; rfl; done) | (obtain ⟨_, rfl, _⟩ := h; rfl; done) | (obtain ⟨_, _, rfl, _⟩ := h; rfl; done) | (obtain ⟨_, _, _, rfl, _⟩ := h; rfl; done) | (obtain ⟨_, _, _, _, rfl, _⟩ := h; rfl; done) | (obtain ⟨_, _, _, _, _, rfl, _⟩ := h; rfl; done) | (obtain ⟨_, _, _, _, _, _, rfl, _⟩ := h; rfl; done) | (obtain ⟨_, _, _, _, _, _, _, rfl, _⟩ := h; rfl; done) | (obtain ⟨_, _, _, _, _, _, _, _, rfl, _⟩ := h; rfl; done) | (obtain ⟨_, _, _, _, _, _, _, _, _, rfl, _⟩ := h; rfl; done) | (obtain ⟨_, _, _, _, _, _, _, _, _, _, rfl, _⟩ := h; rfl; done) | (obtain ⟨_, _, _, _, _, _, _, _, _, _, _, rfl, _⟩ := h; rfl; done) | (obtain ⟨_, _, _, _, _, _, _, _, _, _, _, _, rfl, _⟩ := h; rfl; done) | (obtain ⟨_, _, _, _, _, _, _, _, _, _, _, _, _, rfl, _⟩ := h; rfl; done) | (obtain ⟨_, _, _, _, _, _, _, _, _, _, _, _, _, _, rfl, _⟩ := h; rfl; done) | (rcases h with ⟨_, rfl, _⟩ | ⟨_, rfl, _⟩ <;> rfl; done) | (rcases h with ⟨_, rfl, _⟩ | ⟨_, _, rfl, _⟩ <;> rfl; done) | (rcases h with ⟨_, rfl, _⟩ | ⟨_, _, _, rfl, _⟩ <;> rfl; done) | (rcases h with ⟨_, rfl, _⟩ | ⟨_, _, _, _, rfl, _⟩ <;> rfl; done) | (rcases h with ⟨_, rfl, _⟩ | ⟨_, _, _, _, _, rfl, _⟩ <;> rfl; done) | (rcases h with ⟨_, rfl, _⟩ | ⟨_, _, _, _, _, _, rfl, _⟩ <;> rfl; done) | (rcases h with ⟨_, _, rfl, _⟩ | ⟨_, rfl, _⟩ <;> rfl; done) | (rcases h with ⟨_, _, rfl, _⟩ | ⟨_, _, rfl, _⟩ <;> rfl; done) | (rcases h with ⟨_, _, rfl, _⟩ | ⟨_, _, _, rfl, _⟩ <;> rfl; done) | (rcases h with ⟨_, _, rfl, _⟩ | ⟨_, _, _, _, rfl, _⟩ <;> rfl; done) | (rcases h with ⟨_, _, rfl, _⟩ | ⟨_, _, _, _, _, rfl, _⟩ <;> rfl; done) | (rcases h with ⟨_, _, rfl, _⟩ | ⟨_, _, _, _, _, _, rfl, _⟩ <;> rfl; done) | (rcases h with ⟨_, _, _, rfl, _⟩ | ⟨_, rfl, _⟩ <;> rfl; done) | (rcases h with ⟨_, _, _, rfl, _⟩ | ⟨_, _, rfl, _⟩ <;> rfl; done) | (rcases h with ⟨_, _, _, rfl, _⟩ | ⟨_, _, _, rfl, _⟩ <;> rfl; done) | (rcases h with ⟨_, _, _, rfl, _⟩ | ⟨_, _, _, _, rfl, _⟩ <;> rfl; done) | (rcases h with ⟨_, _, _, rfl, _⟩ | ⟨_, _, _, _, _, rfl, _⟩ <;> rfl; done) | (rcases h with ⟨_, _, _, rfl, _⟩ | ⟨_, _, _, _, _, _, rfl, _⟩ <;> rfl; done) | (rcases h with ⟨_, _, _, _, rfl, _⟩ | ⟨_, rfl, _⟩ <;> rfl; done) | (rcases h with ⟨_, _, _, _, rfl, _⟩ | ⟨_, _, rfl, _⟩ <;> rfl; done) | (rcases h with ⟨_, _, _, _, rfl, _⟩ | ⟨_, _, _, rfl, _⟩ <;> rfl; done) | (rcases h with ⟨_, _, _, _, rfl, _⟩ | ⟨_, _, _, _, rfl, _⟩ <;> rfl; done) | (rcases h with ⟨_, _, _, _, rfl, _⟩ | ⟨_, _, _, _, _, rfl, _⟩ <;> rfl; done) | (rcases h with ⟨_, _, _, _, rfl, _⟩ | ⟨_, _, _, _, _, _, rfl, _⟩ <;> rfl; done) | (rcases h with ⟨_, _, _, _, _, rfl, _⟩ | ⟨_, rfl, _⟩ <;> rfl; done) | (rcases h with ⟨_, _, _, _, _, rfl, _⟩ | ⟨_, _, rfl, _⟩ <;> rfl; done) | (rcases h with ⟨_, _, _, _, _, rfl, _⟩ | ⟨_, _, _, rfl, _⟩ <;> rfl; done) | (rcases h with ⟨_, _, _, _, _, rfl, _⟩ | ⟨_, _, _, _, rfl, _⟩ <;> rfl; done) | (rcases h with ⟨_, _, _, _, _, rfl, _⟩ | ⟨_, _, _, _, _, rfl, _⟩ <;> rfl; done) | (rcases h with ⟨_, _, _, _, _, rfl, _⟩ | ⟨_, _, _, _, _, _, rfl, _⟩ <;> rfl; done) | (rcases h with ⟨_, _, _, _, _, _, rfl, _⟩ | ⟨_, rfl, _⟩ <;> rfl; done) | (rcases h with ⟨_, _, _, _, _, _, rfl, _⟩ | ⟨_, _, rfl, _⟩ <;> rfl; done) | (rcases h with ⟨_, _, _, _, _, _, rfl, _⟩ | ⟨_, _, _, rfl, _⟩ <;> rfl; done) | (rcases h with ⟨_, _, _, _, _, _, rfl, _⟩ | ⟨_, _, _, _, rfl, _⟩ <;> rfl; done) | (rcases h with ⟨_, _, _, _, _, _, rfl, _⟩ | ⟨_, _, _, _, _, rfl, _⟩ <;> rfl; done) | (rcases h with ⟨_, _, _, _, _, _, rfl, _⟩ | ⟨_, _, _, _, _, _, rfl, _⟩ <;> rfl; done) | (rcases h with ⟨_, rfl, _⟩ | ⟨_, _, rfl, _⟩ <;> rfl) | (rcases h with ⟨_, rfl, _⟩ | ⟨_, rfl, _⟩ <;> rfl) | (rcases h with h | h | h <;> (first | (obtain ⟨rfl, _⟩ := h; rfl; done) | (obtain ⟨_, rfl, _⟩ := h; rfl; done) | (obtain ⟨_, _, rfl, _⟩ := h; rfl; done) | (obtain ⟨_, _, _, rfl, _⟩ := h; rfl; done) | (obtain ⟨_, _, _, _, rfl, _⟩ := h; rfl; done) | (obtain ⟨_, _, _, _, _, rfl, _⟩ := h; rfl; done) | (obtain ⟨_, _, _, _, _, _, rfl, _⟩ := h; rfl; done) | (obtain ⟨_, _, _, _, _, _, _, rfl, _⟩ := h; rfl; done) | (obtain ⟨_, _, _, _, _, _, _, _, rfl, _⟩ := h; rfl; done) | (obtain ⟨_, _, _, _, _, _, _, _, _, rfl, _⟩ := h; rfl; done) | (obtain ⟨_, _, _, _, _, _, _, _, _, _, rfl, _⟩ := h; rfl; done) | (obtain ⟨_, _, _, _, _, _, _, _, _, _, _, rfl, _⟩ := h; rfl; done) | (obtain ⟨_, _, _, _, _, _, _, _, _, _, _, _, rfl, _⟩ := h; rfl; done) | (obtain ⟨_, _, _, _, _, _, _, _, _, _, _, _, _, rfl, _⟩ := h; rfl; done) | (obtain ⟨_, _, _, _, _, _, _, _, _, _, _, _, _, _, rfl, _⟩ := h; rfl; done)))) (fun cdv A outer s H vs Q E hr h => ⟨t_law K a, ?_, rd vs H Q E h⟩)
  exact (pss_cons (ps_set (i := 1) nd rfl (by first | exact Or.inl rfl | exact Or.inr rfl) (pe_call G__law_bag (hr.mono (by decide)) rfl T.g__law_bag T.F__law_bag.kp T.b__law_bag .nil pass0 (pa_cons (pv 0) pa_nil)))
      (pss_cons (ps_set (i := 2) nd rfl (by first | exact Or.inl rfl | exact Or.inr rfl) (pe_call G__law_full (hr.mono (by decide)) rfl T.g__law_full T.F__law_full.kp T.b__law_full .nil pass0 (pa_cons (pv 1) pa_nil)))
      (pss_cons (ps_for PassesOwn.never rfl (pi_range1 rfl T.n_range (pa_cons pe_int pa_nil)) (pg_name (i := 3) nd rfl (by first | exact Or.inl rfl | exact Or.inr rfl)) (pss_cons (ps_set (i := 4) nd rfl (by first | exact Or.inl rfl | exact Or.inr rfl) (pe_call G__law_one (hr.mono (by decide)) rfl T.g__law_one T.F__law_one.kp T.b__law_one .nil pass0 (pa_cons (pv 1) (pa_cons (pe_lst (pa_cons pe_int (pa_cons pe_int (pa_cons pe_int (pa_cons pe_int (pa_cons pe_int (pa_cons pe_int pa_nil))))))) pa_nil))))
      (pss_cons (ps_set (i := 5) nd rfl (by first | exact Or.inl rfl | exact Or.inr rfl) (pe_op op_add pe_int (pe_call G__law_pull (hr.mono (by decide)) rfl T.g__law_pull T.F__law_pull.kp T.b__law_pull .nil pass0 (pa_cons (pv 1) (pa_cons pe_int pa_nil)))))
      (pss_one (ps_if (pt_not (pt_val (pe_call G__law_same (hr.mono (by decide)) rfl T.g__law_same T.F__law_same.kp T.b__law_same .nil pass0 (pa_cons (pe_call G__law_said (hr.mono (by decide)) rfl T.g__law_said T.F__law_said.kp T.b__law_said .nil pass0 (pa_cons (pv 2) (pa_cons (pv 5) (pa_cons (pv 4) pa_nil)))) (pa_cons (pe_call G__law_phase (hr.mono (by decide)) rfl T.g__law_phase T.F__law_phase.kp T.b__law_phase .nil pass0 (pa_cons (pv 2) (pa_cons (pv 5) (pa_cons (pv 4) pa_nil)))) pa_nil))))) (pss_one (ps_ret pe_bl)) pss_nil)))))
      (pss_cons (ps_set (i := 6) nd rfl (by first | exact Or.inl rfl | exact Or.inr rfl) (pe_call G__law_ends (hr.mono (by decide)) rfl T.g__law_ends T.F__law_ends.kp T.b__law_ends .nil pass0 (pa_cons (pv 1) (pa_cons pe_int pa_nil))))
      (pss_cons (ps_set (i := 7) nd rfl (by first | exact Or.inl rfl | exact Or.inr rfl) (pv 2))
      (pss_cons (ps_set (i := 8) nd rfl (by first | exact Or.inl rfl | exact Or.inr rfl) (pe_lst pa_nil))
      (pss_cons (ps_set (i := 9) nd rfl (by first | exact Or.inl rfl | exact Or.inr rfl) pe_non)
      (pss_cons (ps_for PassesOwn.never rfl (pi_tup (pv 6)) (pg_tup rfl (pgs_cons (pg_name (i := 10) nd rfl (by first | exact Or.inl rfl | exact Or.inr rfl)) (pgs_cons (pg_name (i := 11) nd rfl (by first | exact Or.inl rfl | exact Or.inr rfl)) (pgs_cons (pg_name (i := 12) nd rfl (by first | exact Or.inl rfl | exact Or.inr rfl)) (pgs_cons (pg_name (i := 5) nd rfl (by first | exact Or.inl rfl | exact Or.inr rfl)) (pgs_cons (pg_name (i := 4) nd rfl (by first | exact Or.inl rfl | exact Or.inr rfl)) pgs_nil)))))) (pss_one (ps_if (PW.pt (pw_and (pt_cmpR op_eq (pv 12) pe_str (nomark _)) (pw_and1 (pt_cmpR op_isN (pv 9) pe_non (nomark _))))) (pss_cons (ps_set (i := 13) nd rfl (by first | exact Or.inl rfl | exact Or.inr rfl) (pe_call G__law_phase (hr.mono (by decide)) rfl T.g__law_phase T.F__law_phase.kp T.b__law_phase .nil pass0 (pa_cons (pv 7) (pa_cons (pv 5) (pa_cons (pv 4) pa_nil)))))
      (pss_one (ps_if (pt_val (pe_callB call_isi (by rfl) T.n_isinstance (by decide +kernel) (pa_cons (pv 13) (pa_cons (pe_bltn (v := .ty "list") rfl T.n_list (by decide +kernel) rfl) pa_nil)))) (pss_one (ps_set (i := 9) nd rfl (by first | exact Or.inl rfl | exact Or.inr rfl) (pv 13))) (pss_cons (ps_set (i := 7) nd rfl (by first | exact Or.inl rfl | exact Or.inr rfl) (pe_callTy call_tuple_of (by rfl) T.n_tuple (by decide +kernel) (pa_cons (pe_lc (own := [("_law_at", 14), ("_law_one_here", 15)]) (g := (gTup K 2 (gCons (gName 14) (gCons (gName 15) gNil)))) (tt := tYes) (te := (tOp rAddI (tVar 15) (tOp rMulI (tOp rAddI (tVar 5) (tC (.int 13))) (tCB rInt1 (tCons (tOp rEq (tOp rModI (tVar 14) (tVar 4)) (tVar 13)) tNil))))) rfl nd (pi_enumT rfl T.n_enumerate (pa_cons (pv 7) pa_nil)) (blkOk_by (N := N_law) (sc := defScope s_law) (by decide +kernel)) (fun _ _ _ _ _ => (pg_tup rfl (pgs_cons (pg_name (i := 14) nd rfl (by first | exact Or.inl rfl | exact Or.inr rfl)) (pgs_cons (pg_name (i := 15) nd rfl (by first | exact Or.inl rfl | exact Or.inr rfl)) pgs_nil)))) (fun _ _ _ _ _ => pts_nil) (fun _ _ _ _ _ => (pe_op op_add (pv 15) (pe_op op_mul (pe_op op_add (pv 5) pe_int) (pe_callTy call_int1 (by rfl) T.n_int (by decide +kernel) (pa_cons (pe_cmpR op_eq (pe_op op_mod (pv 14) (pv 4)) (pv 13) (nomark _)) pa_nil)))))) pa_nil)))
      (pss_one (ps_expr (pe_bm PySem.F.plainAttrs_list PySem.F.slot_list_append PySem.F.type_list_append mt_append (pv 8) (pa_cons (pe_tup (pa_cons (pe_tup (pa_cons (pv 10) (pa_cons (pv 11) pa_nil))) (pa_cons (pv 13) pa_nil))) pa_nil)))))))) pss_nil)))
      (pss_one (ps_ret (pe_call G__law_same (hr.mono (by decide)) rfl T.g__law_same T.F__law_same.kp T.b__law_same .nil pass0 (pa_cons (pe_call G__law_let (hr.mono (by decide)) rfl T.g__law_let T.F__law_let.kp T.b__law_let .nil pass0 (pa_cons (pv 2) (pa_cons (pv 6) pa_nil))) (pa_cons (pe_ifExp (pt_cmpR op_notN (pv 9) pe_non (nomark _)) (pv 9) (pe_tup (pa_cons (pv 7) (pa_cons (pv 8) pa_nil)))) pa_nil)))))))))))))
theorem same_ok (T : Txt K mg a) : ∀ n, FnOk a.p a.w K mg base CX0 (n + 2) a.f__law_same a.d__law_same P__law_same (sp_same n K)
  | 0 => ok__law_same (kR := 0) T (ok__law_whole T rd__law_whole) (by decide) (spR := fun _ _ _ _ => False) (T.F__law_same.ok sc__law_same (fun _ _ _ _ h => h.elim) (fun _ _ _ _ _ _ _ _ _ h => h.elim)) (fun vs H Q E h => by obtain ⟨_, _, _, rfl, _⟩ := h; rfl) (rd__law_same 0 _ fun k h => nomatch h)
  | n + 1 => ok__law_same (kR := n + 1) T (ok__law_whole T rd__law_whole) (by omega) (same_ok T n) (fun vs H Q E h => by obtain ⟨_, _, _, rfl, _⟩ := h; rfl) (rd__law_same (n + 1) _ fun k h => by cases h; rfl)
theorem law_ok (T : Txt K mg a) : FnOk a.p a.w K mg base CX0 7 a.f_law a.d_law P_law (sp_law K a) := by
  have o_is_number := ok_is_number (base := base) T  rd_is_number
  have o_need_number := ok_need_number (base := base) T o_is_number rd_need_number
  have o_cost := ok_cost (base := base) T o_need_number rd_cost
  have o_fullest_frame := ok_fullest_frame (base := base) T  rd_fullest_frame
  have o_phase_for := ok_phase_for (base := base) T o_cost o_fullest_frame rd_phase_for
  have o_with_end := ok_with_end (base := base) T o_cost rd_with_end
  have o_let_in := ok_let_in (base := base) T o_phase_for o_with_end rd_let_in
  have o__law_bag := ok__law_bag (base := base) T  rd__law_bag
  have o__law_pull := ok__law_pull (base := base) T  rd__law_pull
  have o__law_whole := ok__law_whole (base := base) T  rd__law_whole
  have o__law_one := ok__law_one (base := base) T o__law_pull rd__law_one
  have o__law_end := ok__law_end (base := base) T o__law_one o__law_pull rd__law_end
  have o__law_ends := ok__law_ends (base := base) T o__law_end o__law_pull rd__law_ends
  have o__law_frames := ok__law_frames (base := base) T  rd__law_frames
  have o__law_phase := ok__law_phase (base := base) T o__law_frames rd__law_phase
  have o__law_full := ok__law_full (base := base) T o__law_frames o__law_one o__law_pull rd__law_full
  have o__law_said := ok__law_said (base := base) T o_phase_for (rd__law_said T)
  have o__law_let := ok__law_let (base := base) T o_let_in (rd__law_let T)
  exact ok_law (base := base) T o__law_bag o__law_ends o__law_full o__law_let o__law_one o__law_phase o__law_pull o__law_said (same_ok T 4) rd_law
end
theorem all_mk {l : PySem.W.OpenLaw} {w : World} {K : PySem.W.Frag} {h : Heap} {mg : Str → Option Value} {fa : Addr} (X : K.In h) (G : h.Ns mainGlobals mg) (hfa : mg "law" = some (.ref fa))
    {f0 : Addr} {od0 an0 : Option Addr} {sl0 : Array (Option Value)} {oc0 kV0 dc0 pm0 cd0 ct0 : Value}
    (a0 : PySem.W.nsIn K mainGlobals "is_number" = some (some (.ref f0)))
    (l0 : K.lookup f0 = some ⟨oc0, od0, .func (PySem.W.fnOf "is_number" "is_number" (defArgs s_is_number) (defBody s_is_number) (defScope s_is_number) .none kV0 dc0 pm0 an0 cd0 ct0), sl0⟩)
    (c0 : PySem.W.codeIn K cd0 "is_number" = true)
    (k0 : PySem.W.keepIn K (.ref f0) = true)
    {f1 : Addr} {od1 an1 : Option Addr} {sl1 : Array (Option Value)} {oc1 kV1 dc1 pm1 cd1 ct1 : Value}
    (a1 : PySem.W.nsIn K mainGlobals "need_number" = some (some (.ref f1)))
    (l1 : K.lookup f1 = some ⟨oc1, od1, .func (PySem.W.fnOf "need_number" "need_number" (defArgs s_need_number) (defBody s_need_number) (defScope s_need_number) .none kV1 dc1 pm1 an1 cd1 ct1), sl1⟩)
    (c1 : PySem.W.codeIn K cd1 "need_number" = true)
    (k1 : PySem.W.keepIn K (.ref f1) = true)
    {f2 : Addr} {od2 an2 : Option Addr} {sl2 : Array (Option Value)} {oc2 kV2 dc2 pm2 cd2 ct2 : Value}
    (a2 : PySem.W.nsIn K mainGlobals "cost" = some (some (.ref f2)))
    (l2 : K.lookup f2 = some ⟨oc2, od2, .func (PySem.W.fnOf "cost" "cost" (defArgs s_cost) (defBody s_cost) (defScope s_cost) .none kV2 dc2 pm2 an2 cd2 ct2), sl2⟩)
    (c2 : PySem.W.codeIn K cd2 "cost" = true)
    (k2 : PySem.W.keepIn K (.ref f2) = true)
    {f3 : Addr} {od3 an3 : Option Addr} {sl3 : Array (Option Value)} {oc3 kV3 dc3 pm3 cd3 ct3 : Value}
    (a3 : PySem.W.nsIn K mainGlobals "fullest_frame" = some (some (.ref f3)))
    (l3 : K.lookup f3 = some ⟨oc3, od3, .func (PySem.W.fnOf "fullest_frame" "fullest_frame" (defArgs s_fullest_frame) (defBody s_fullest_frame) (defScope s_fullest_frame) .none kV3 dc3 pm3 an3 cd3 ct3), sl3⟩)
    (c3 : PySem.W.codeIn K cd3 "fullest_frame" = true)
    (k3 : PySem.W.keepIn K (.ref f3) = true)
    {f4 : Addr} {od4 an4 : Option Addr} {sl4 : Array (Option Value)} {oc4 kV4 dc4 pm4 cd4 ct4 : Value}
    (a4 : PySem.W.nsIn K mainGlobals "phase_for" = some (some (.ref f4)))
    (l4 : K.lookup f4 = some ⟨oc4, od4, .func (PySem.W.fnOf "phase_for" "phase_for" (defArgs s_phase_for) (defBody s_phase_for) (defScope s_phase_for) .none kV4 dc4 pm4 an4 cd4 ct4), sl4⟩)
    (c4 : PySem.W.codeIn K cd4 "phase_for" = true)
    (k4 : PySem.W.keepIn K (.ref f4) = true)
    {f5 : Addr} {od5 an5 : Option Addr} {sl5 : Array (Option Value)} {oc5 kV5 dc5 pm5 cd5 ct5 : Value}
    (a5 : PySem.W.nsIn K mainGlobals "with_end" = some (some (.ref f5)))
    {dT5 : Addr} {oD5 : Obj}
    (l5 : K.lookup f5 = some ⟨oc5, od5, .func (PySem.W.fnOf "with_end" "with_end" (defArgs s_with_end) (defBody s_with_end) (defScope s_with_end) (.ref dT5) kV5 dc5 pm5 an5 cd5 ct5), sl5⟩)
    (lD5 : K.lookup dT5 = some oD5)
    (vD5 : TupObj oD5 [.int 1])
    (c5 : PySem.W.codeIn K cd5 "with_end" = true)
    (k5 : PySem.W.keepIn K (.ref f5) = true)
    {f6 : Addr} {od6 an6 : Option Addr} {sl6 : Array (Option Value)} {oc6 kV6 dc6 pm6 cd6 ct6 : Value}
    (a6 : PySem.W.nsIn K mainGlobals "let_in" = some (some (.ref f6)))
    (l6 : K.lookup f6 = some ⟨oc6, od6, .func (PySem.W.fnOf "let_in" "let_in" (defArgs s_let_in) (defBody s_let_in) (defScope s_let_in) .none kV6 dc6 pm6 an6 cd6 ct6), sl6⟩)
    (c6 : PySem.W.codeIn K cd6 "let_in" = true)
    (k6 : PySem.W.keepIn K (.ref f6) = true)
    {f7 : Addr} {od7 an7 : Option Addr} {sl7 : Array (Option Value)} {oc7 kV7 dc7 pm7 cd7 ct7 : Value}
    (a7 : PySem.W.nsIn K mainGlobals "_law_bag" = some (some (.ref f7)))
    (l7 : K.lookup f7 = some ⟨oc7, od7, .func (PySem.W.fnOf "_law_bag" "_law_bag" (defArgs s__law_bag) (defBody s__law_bag) (defScope s__law_bag) .none kV7 dc7 pm7 an7 cd7 ct7), sl7⟩)
    (c7 : PySem.W.codeIn K cd7 "_law_bag" = true)
    (k7 : PySem.W.keepIn K (.ref f7) = true)
    {f8 : Addr} {od8 an8 : Option Addr} {sl8 : Array (Option Value)} {oc8 kV8 dc8 pm8 cd8 ct8 : Value}
    (a8 : PySem.W.nsIn K mainGlobals "_law_pull" = some (some (.ref f8)))
    (l8 : K.lookup f8 = some ⟨oc8, od8, .func (PySem.W.fnOf "_law_pull" "_law_pull" (defArgs s__law_pull) (defBody s__law_pull) (defScope s__law_pull) .none kV8 dc8 pm8 an8 cd8 ct8), sl8⟩)
    (c8 : PySem.W.codeIn K cd8 "_law_pull" = true)
    (k8 : PySem.W.keepIn K (.ref f8) = true)
    {f9 : Addr} {od9 an9 : Option Addr} {sl9 : Array (Option Value)} {oc9 kV9 dc9 pm9 cd9 ct9 : Value}
    (a9 : PySem.W.nsIn K mainGlobals "_law_whole" = some (some (.ref f9)))
    (l9 : K.lookup f9 = some ⟨oc9, od9, .func (PySem.W.fnOf "_law_whole" "_law_whole" (defArgs s__law_whole) (defBody s__law_whole) (defScope s__law_whole) .none kV9 dc9 pm9 an9 cd9 ct9), sl9⟩)
    (c9 : PySem.W.codeIn K cd9 "_law_whole" = true)
    (k9 : PySem.W.keepIn K (.ref f9) = true)
    {f10 : Addr} {od10 an10 : Option Addr} {sl10 : Array (Option Value)} {oc10 kV10 dc10 pm10 cd10 ct10 : Value}
    (a10 : PySem.W.nsIn K mainGlobals "_law_same" = some (some (.ref f10)))
    (l10 : K.lookup f10 = some ⟨oc10, od10, .func (PySem.W.fnOf "_law_same" "_law_same" (defArgs s__law_same) (defBody s__law_same) (defScope s__law_same) .none kV10 dc10 pm10 an10 cd10 ct10), sl10⟩)
    (c10 : PySem.W.codeIn K cd10 "_law_same" = true)
    (k10 : PySem.W.keepIn K (.ref f10) = true)
    {f11 : Addr} {od11 an11 : Option Addr} {sl11 : Array (Option Value)} {oc11 kV11 dc11 pm11 cd11 ct11 : Value}
    (a11 : PySem.W.nsIn K mainGlobals "_law_one" = some (some (.ref f11)))
    (l11 : K.lookup f11 = some ⟨oc11, od11, .func (PySem.W.fnOf "_law_one" "_law_one" (defArgs s__law_one) (defBody s__law_one) (defScope s__law_one) .none kV11 dc11 pm11 an11 cd11 ct11), sl11⟩)
    (c11 : PySem.W.codeIn K cd11 "_law_one" = true)
    (k11 : PySem.W.keepIn K (.ref f11) = true)
    {f12 : Addr} {od12 an12 : Option Addr} {sl12 : Array (Option Value)} {oc12 kV12 dc12 pm12 cd12 ct12 : Value}
    (a12 : PySem.W.nsIn K mainGlobals "_law_end" = some (some (.ref f12)))
    (l12 : K.lookup f12 = some ⟨oc12, od12, .func (PySem.W.fnOf "_law_end" "_law_end" (defArgs s__law_end) (defBody s__law_end) (defScope s__law_end) .none kV12 dc12 pm12 an12 cd12 ct12), sl12⟩)
    (c12 : PySem.W.codeIn K cd12 "_law_end" = true)
    (k12 : PySem.W.keepIn K (.ref f12) = true)
    {f13 : Addr} {od13 an13 : Option Addr} {sl13 : Array (Option Value)} {oc13 kV13 dc13 pm13 cd13 ct13 : Value}
    (a13 : PySem.W.nsIn K mainGlobals "_law_ends" = some (some (.ref f13)))
    (l13 : K.lookup f13 = some ⟨oc13, od13, .func (PySem.W.fnOf "_law_ends" "_law_ends" (defArgs s__law_ends) (defBody s__law_ends) (defScope s__law_ends) .none kV13 dc13 pm13 an13 cd13 ct13), sl13⟩)
    (c13 : PySem.W.codeIn K cd13 "_law_ends" = true)
    (k13 : PySem.W.keepIn K (.ref f13) = true)
    {f14 : Addr} {od14 an14 : Option Addr} {sl14 : Array (Option Value)} {oc14 kV14 dc14 pm14 cd14 ct14 : Value}
    (a14 : PySem.W.nsIn K mainGlobals "_law_frames" = some (some (.ref f14)))
    (l14 : K.lookup f14 = some ⟨oc14, od14, .func (PySem.W.fnOf "_law_frames" "_law_frames" (defArgs s__law_frames) (defBody s__law_frames) (defScope s__law_frames) .none kV14 dc14 pm14 an14 cd14 ct14), sl14⟩)
    (c14 : PySem.W.codeIn K cd14 "_law_frames" = true)
    (k14 : PySem.W.keepIn K (.ref f14) = true)
    {f15 : Addr} {od15 an15 : Option Addr} {sl15 : Array (Option Value)} {oc15 kV15 dc15 pm15 cd15 ct15 : Value}
    (a15 : PySem.W.nsIn K mainGlobals "_law_phase" = some (some (.ref f15)))
    (l15 : K.lookup f15 = some ⟨oc15, od15, .func (PySem.W.fnOf "_law_phase" "_law_phase" (defArgs s__law_phase) (defBody s__law_phase) (defScope s__law_phase) .none kV15 dc15 pm15 an15 cd15 ct15), sl15⟩)
    (c15 : PySem.W.codeIn K cd15 "_law_phase" = true)
    (k15 : PySem.W.keepIn K (.ref f15) = true)
    {f16 : Addr} {od16 an16 : Option Addr} {sl16 : Array (Option Value)} {oc16 kV16 dc16 pm16 cd16 ct16 : Value}
    (a16 : PySem.W.nsIn K mainGlobals "_law_full" = some (some (.ref f16)))
    (l16 : K.lookup f16 = some ⟨oc16, od16, .func (PySem.W.fnOf "_law_full" "_law_full" (defArgs s__law_full) (defBody s__law_full) (defScope s__law_full) .none kV16 dc16 pm16 an16 cd16 ct16), sl16⟩)
    (c16 : PySem.W.codeIn K cd16 "_law_full" = true)
    (k16 : PySem.W.keepIn K (.ref f16) = true)
    {f17 : Addr} {od17 an17 : Option Addr} {sl17 : Array (Option Value)} {oc17 kV17 dc17 pm17 cd17 ct17 : Value}
    (a17 : PySem.W.nsIn K mainGlobals "_law_said" = some (some (.ref f17)))
    (l17 : K.lookup f17 = some ⟨oc17, od17, .func (PySem.W.fnOf "_law_said" "_law_said" (defArgs s__law_said) (defBody s__law_said) (defScope s__law_said) .none kV17 dc17 pm17 an17 cd17 ct17), sl17⟩)
    (c17 : PySem.W.codeIn K cd17 "_law_said" = true)
    (k17 : PySem.W.keepIn K (.ref f17) = true)
    {f18 : Addr} {od18 an18 : Option Addr} {sl18 : Array (Option Value)} {oc18 kV18 dc18 pm18 cd18 ct18 : Value}
    (a18 : PySem.W.nsIn K mainGlobals "_law_let" = some (some (.ref f18)))
    (l18 : K.lookup f18 = some ⟨oc18, od18, .func (PySem.W.fnOf "_law_let" "_law_let" (defArgs s__law_let) (defBody s__law_let) (defScope s__law_let) .none kV18 dc18 pm18 an18 cd18 ct18), sl18⟩)
    (c18 : PySem.W.codeIn K cd18 "_law_let" = true)
    (k18 : PySem.W.keepIn K (.ref f18) = true)
    {f19 : Addr} {od19 an19 : Option Addr} {sl19 : Array (Option Value)} {oc19 kV19 dc19 pm19 cd19 ct19 : Value}
    (a19 : PySem.W.nsIn K mainGlobals "law" = some (some (.ref f19)))
    (l19 : K.lookup f19 = some ⟨oc19, od19, .func (PySem.W.fnOf "law" "law" (defArgs s_law) (defBody s_law) (defScope s_law) .none kV19 dc19 pm19 an19 cd19 ct19), sl19⟩)
    (c19 : PySem.W.codeIn K cd19 "law" = true)
    (k19 : PySem.W.keepIn K (.ref f19) = true)
    {C_BusError : Addr}
    (aC_BusError : PySem.W.nsIn K mainGlobals "BusError" = some (some (.ref C_BusError)))
    {C_BadNumber : Addr}
    (aC_BadNumber : PySem.W.nsIn K mainGlobals "BadNumber" = some (some (.ref C_BadNumber)))
    {C_NoRoom : Addr}
    (aC_NoRoom : PySem.W.nsIn K mainGlobals "NoRoom" = some (some (.ref C_NoRoom)))
    (xC_BadNumber : PySem.W.excIn K C_BadNumber [.type "ValueError", .type "Exception", .type "BaseException", .type "object"] "ValueError.__new__" = true)
    (kC_BadNumber : PySem.W.keepIn K (.ref C_BadNumber) = true)
    (bC_BadNumber : PySem.W.subIn K (.ref C_BadNumber) (.type "BaseException") = some true)
    (tC_BadNumber : PySem.W.typeIn K (.ref C_BadNumber) = some (.type "type"))
    {nm_NoRoom q_NoRoom : Str} {N_NoRoom : Addr} {bs_NoRoom bm_NoRoom : List Value} {sn_NoRoom : List Str} {sb_NoRoom : List Value} {ab_NoRoom : Bool} {co_NoRoom : Option Bool} {dd_NoRoom : Option Addr} {m0_NoRoom m1_NoRoom m2_NoRoom m3_NoRoom m5_NoRoom : Option Value}
    (xL_NoRoom : K.lookup C_NoRoom = some (excClassObj nm_NoRoom q_NoRoom C_NoRoom N_NoRoom bs_NoRoom bm_NoRoom true sn_NoRoom sb_NoRoom ab_NoRoom co_NoRoom dd_NoRoom m0_NoRoom m1_NoRoom m2_NoRoom m3_NoRoom m5_NoRoom "ValueError.__new__"))
    (rv_NoRoom : HandSPX.refsVE bm_NoRoom = true)
    (sa_NoRoom : PySem.W.findIn K (.ref C_NoRoom) "__setattr__" = some (some (.builtin "object.__setattr__")))
    (ga_NoRoom : PySem.W.findIn K (.ref C_NoRoom) "__getattribute__" = some (some (.builtin "BaseException.__getattribute__")))
    (gg_NoRoom : PySem.W.findIn K (.ref C_NoRoom) "__getattr__" = some none)
    (na_NoRoom : PySem.W.findIn K (.ref C_NoRoom) "frames" = some none)
    (kp_NoRoom : PySem.W.keepIn K (.ref C_NoRoom) = true)
    (ex_NoRoom : PySem.W.subIn K (.ref C_NoRoom) (.type "BaseException") = some true)
    (ve_NoRoom : PySem.W.subIn K (.ref C_NoRoom) (.type "ValueError") = some true)
    (mr_NoRoom : PySem.W.mroIn K C_NoRoom (.ref C_NoRoom) = some true)
    (ty_NoRoom : PySem.W.typeIn K (.ref C_NoRoom) = some (.type "type"))
    (hq_NoRoom : PySem.W.hasDictIn K C_NoRoom = true)
    (su_NoRoom : PySem.W.ks_superIn K C_NoRoom C_NoRoom "__init__" = some (some (.builtin "ValueError.__init__")))
    (nt_NoRoom : PySem.W.nsIn K PySem.cStatics "thirdparty.any" = some none)
    (nl_NoRoom : PySem.W.nsIn K mainGlobals "list" = some none)
    (nz_NoRoom : PySem.W.nsIn K mainGlobals "super" = some none)
    (tp_NoRoom : (l.prog.main.scope.names.lookup ("super" : Str)).isSome = false)
    {fi_NoRoom cc_NoRoom cd_NoRoom : Addr} {oc_NoRoom dc_NoRoom pm_NoRoom ct_NoRoom : Value} {od_NoRoom an_NoRoom : Option Addr} {sl_NoRoom : Array (Option Value)}
    (ii_NoRoom : PySem.W.findIn K (.ref C_NoRoom) "__init__" = some (some (.ref fi_NoRoom)))
    (ti_NoRoom : PySem.W.typeIn K (.ref fi_NoRoom) = some (.type "function"))
    (li_NoRoom : K.lookup fi_NoRoom = some ⟨oc_NoRoom, od_NoRoom, .func (PySem.W.ksFn "__init__" "NoRoom.__init__" (OwnF.iA ⟨8, 17, 8, 21⟩ ⟨8, 23, 8, 29⟩) (OwnF.iB ("no phase has room" : Str) ⟨9, 8, 9, 13⟩ ⟨9, 8, 9, 15⟩ ⟨9, 8, 9, 24⟩ ⟨9, 25, 9, 44⟩ ⟨9, 8, 9, 45⟩ ⟨9, 8, 9, 45⟩ ⟨10, 8, 10, 12⟩ ⟨10, 8, 10, 19⟩ ⟨10, 27, 10, 33⟩ ⟨10, 8, 10, 34⟩ ⟨10, 22, 10, 26⟩ ⟨10, 22, 10, 34⟩) OwnF.iS .none .none dc_NoRoom pm_NoRoom an_NoRoom (.ref cd_NoRoom) ct_NoRoom cc_NoRoom), sl_NoRoom⟩)
    (co_NoRoom : PySem.W.codeIn K (.ref cd_NoRoom) "NoRoom.__init__" = true)
    {cl_NoRoom : Value} {cv_NoRoom : Option Addr} {cs_NoRoom : Array (Option Value)} {fl_NoRoom : Value} {fv_NoRoom : Option Addr} {fs_NoRoom : Array (Option Value)} {vs_NoRoom : Array Value} {fn_NoRoom : Str} {tf_NoRoom : Tok}
    (lc_NoRoom : K.lookup cc_NoRoom = some ⟨cl_NoRoom, cv_NoRoom, .cell (some (.ref C_NoRoom)), cs_NoRoom⟩)
    (ld_NoRoom : K.lookup cd_NoRoom = some ⟨fl_NoRoom, fv_NoRoom, .fields vs_NoRoom, fs_NoRoom⟩)
    (lf_NoRoom : vs_NoRoom[2]? = some (.str fn_NoRoom tf_NoRoom))
    (fe_NoRoom : ((l.prog.main.file : Str) == fn_NoRoom) = true)
    (eb_NoRoom : PySem.W.subIn K (.ref C_NoRoom) (.type "BaseException") = some true)
    (eh_NoRoom : PySem.W.hasDictIn K C_NoRoom = true)
    (et_NoRoom : PySem.W.typeIn K (.ref C_NoRoom) = some (.type "type"))
    (es_NoRoom_NoRoom : PySem.W.subIn K (.ref C_NoRoom) (.ref C_NoRoom) = some true)
    (eb_BusError : PySem.W.subIn K (.ref C_BusError) (.type "BaseException") = some true)
    (eh_BusError : PySem.W.hasDictIn K C_BusError = true)
    (et_BusError : PySem.W.typeIn K (.ref C_BusError) = some (.type "type"))
    (es_NoRoom_BusError : PySem.W.subIn K (.ref C_NoRoom) (.ref C_BusError) = some true)
    (hg_NoRoom : PySem.W.findIn K (.ref C_NoRoom) "__getattribute__" = some (some (.builtin "BaseException.__getattribute__")))
    (hk_NoRoom : PySem.W.findIn K (.ref C_NoRoom) "__getattr__" = some none)
    (hs_NoRoom : PySem.W.subIn K (.ref C_NoRoom) (.type "BaseException") = some true)
    (hd_NoRoom : PySem.W.hasDictIn K C_NoRoom = true)
    (ha_NoRoom : PySem.W.findIn K (.ref C_NoRoom) "__class__" = some (some (.builtin "object.__class__")))
    (hn_NoRoom : PySem.W.specialIn K (.builtin "object.__class__") "__get__" = some (some (.builtin "getset_descriptor.__get__")))
    (ht_NoRoom : PySem.W.takesIn K (.builtin "object.__class__") = some true)
    (hm_NoRoom : PySem.W.mroIn K C_NoRoom (.type "object") = some true)
    {tk_TIMED_ROOM : Tok}
    (aK_TIMED_ROOM : PySem.W.nsIn K mainGlobals "TIMED_ROOM" = some (some (.int 1350 tk_TIMED_ROOM)))
    {tk_TURN_ROOM : Tok}
    (aK_TURN_ROOM : PySem.W.nsIn K mainGlobals "TURN_ROOM" = some (some (.int 13 tk_TURN_ROOM)))
    {tk_ROUND : Tok}
    (aK_ROUND : PySem.W.nsIn K mainGlobals "ROUND" = some (some (.int 32 tk_ROUND)))
    (z_all : PySem.W.nsIn K mainGlobals "all" = some none)
    (z_bool : PySem.W.nsIn K mainGlobals "bool" = some none)
    (z_enumerate : PySem.W.nsIn K mainGlobals "enumerate" = some none)
    (z_int : PySem.W.nsIn K mainGlobals "int" = some none)
    (z_isinstance : PySem.W.nsIn K mainGlobals "isinstance" = some none)
    (z_len : PySem.W.nsIn K mainGlobals "len" = some none)
    (z_list : PySem.W.nsIn K mainGlobals "list" = some none)
    (z_max : PySem.W.nsIn K mainGlobals "max" = some none)
    (z_min : PySem.W.nsIn K mainGlobals "min" = some none)
    (z_range : PySem.W.nsIn K mainGlobals "range" = some none)
    (z_set : PySem.W.nsIn K mainGlobals "set" = some none)
    (z_sorted : PySem.W.nsIn K mainGlobals "sorted" = some none)
    (z_str : PySem.W.nsIn K mainGlobals "str" = some none)
    (z_tuple : PySem.W.nsIn K mainGlobals "tuple" = some none)
    : ∃ fd : FuncData, (∀ (s : Shared) (v : Value), BindsTo s fd ⟨[v], []⟩ [("_law_script", v)]) ∧ ∀ base : Heap, K.In base → base.Ns mainGlobals mg → FnOk l.prog w K mg base CX0 7 fa fd ["_law_script"] (spLaw K) := by
  have e := hfa.symm.trans (PySem.W.mg_of X G a19)
  cases e
  have F0 := fun_mk (st := s_is_number) l0 c0 k0
  have b0 := F0.binds (ps := ["value", "low", "high"]) fun _ _ _ _ _ _ us hl => match us, hl with | [_, _, _], _ => rfl
  have F1 := fun_mk (st := s_need_number) l1 c1 k1
  have b1 := F1.binds (ps := ["number", "low", "high"]) fun _ _ _ _ _ _ us hl => match us, hl with | [_, _, _], _ => rfl
  have F2 := fun_mk (st := s_cost) l2 c2 k2
  have b2 := F2.binds (ps := ["size"]) fun _ _ _ _ _ _ us hl => match us, hl with | [_], _ => rfl
  have F3 := fun_mk (st := s_fullest_frame) l3 c3 k3
  have b3 := F3.binds (ps := ["table", "every", "phase"]) fun _ _ _ _ _ _ us hl => match us, hl with | [_, _, _], _ => rfl
  have F4 := fun_mk (st := s_phase_for) l4 c4 k4
  have b4 := F4.binds (ps := ["table", "size", "every"]) fun _ _ _ _ _ _ us hl => match us, hl with | [_, _, _], _ => rfl
  have F5 := funD_mk (st := s_with_end) (dvs := [.int 1]) l5 c5 k5 (by simp) lD5 vD5
  have b5 := FunD.binds1 (ps := ["table", "size", "every", "phase", "sign"]) F5 4 0 (by simp) rfl fun _ _ _ _ _ _ _ us its h1 h2 => match us, its, h1, h2 with | [_, _, _, _], [_], _, _ => ⟨_, rfl, rfl⟩
  have kb5 := (FunD.kbindsD (ps := ["table", "size", "every", "phase", "sign"]) F5 4 ["sign"] (fun us _ ws => us ++ ws) (by simp) (fun r1 _ r3 => r1.append r3) fun _ _ _ _ _ _ _ us its ws h1 h2 h3 => match us, its, ws, h1, h2, h3 with | [_, _, _, _], [_], [_], _, _, _ => ⟨_, rfl, rfl⟩).choose_spec
  have F6 := fun_mk (st := s_let_in) l6 c6 k6
  have b6 := F6.binds (ps := ["table", "ends"]) fun _ _ _ _ _ _ us hl => match us, hl with | [_, _], _ => rfl
  have F7 := fun_mk (st := s__law_bag) l7 c7 k7
  have b7 := F7.binds (ps := ["_law_script"]) fun _ _ _ _ _ _ us hl => match us, hl with | [_], _ => rfl
  have F8 := fun_mk (st := s__law_pull) l8 c8 k8
  have b8 := F8.binds (ps := ["_law_bag_here", "_law_upto"]) fun _ _ _ _ _ _ us hl => match us, hl with | [_, _], _ => rfl
  have F9 := fun_mk (st := s__law_whole) l9 c9 k9
  have b9 := F9.binds (ps := ["_law_found"]) fun _ _ _ _ _ _ us hl => match us, hl with | [_], _ => rfl
  have F10 := fun_mk (st := s__law_same) l10 c10 k10
  have b10 := F10.binds (ps := ["_law_found", "_law_due"]) fun _ _ _ _ _ _ us hl => match us, hl with | [_, _], _ => rfl
  have F11 := fun_mk (st := s__law_one) l11 c11 k11
  have b11 := F11.binds (ps := ["_law_bag_here", "_law_row"]) fun _ _ _ _ _ _ us hl => match us, hl with | [_, _], _ => rfl
  have F12 := fun_mk (st := s__law_end) l12 c12 k12
  have b12 := F12.binds (ps := ["_law_bag_here", "_law_spot"]) fun _ _ _ _ _ _ us hl => match us, hl with | [_, _], _ => rfl
  have F13 := fun_mk (st := s__law_ends) l13 c13 k13
  have b13 := F13.binds (ps := ["_law_bag_here", "_law_most"]) fun _ _ _ _ _ _ us hl => match us, hl with | [_, _], _ => rfl
  have F14 := fun_mk (st := s__law_frames) l14 c14 k14
  have b14 := F14.binds (ps := ["_law_every", "_law_phase_here"]) fun _ _ _ _ _ _ us hl => match us, hl with | [_, _], _ => rfl
  have F15 := fun_mk (st := s__law_phase) l15 c15 k15
  have b15 := F15.binds (ps := ["_law_table", "_law_piece_size", "_law_every"]) fun _ _ _ _ _ _ us hl => match us, hl with | [_, _, _], _ => rfl
  have F16 := fun_mk (st := s__law_full) l16 c16 k16
  have b16 := F16.binds (ps := ["_law_bag_here"]) fun _ _ _ _ _ _ us hl => match us, hl with | [_], _ => rfl
  have F17 := fun_mk (st := s__law_said) l17 c17 k17
  have b17 := F17.binds (ps := ["_law_table", "_law_piece_size", "_law_every"]) fun _ _ _ _ _ _ us hl => match us, hl with | [_, _, _], _ => rfl
  have F18 := fun_mk (st := s__law_let) l18 c18 k18
  have b18 := F18.binds (ps := ["_law_table", "_law_ends_here"]) fun _ _ _ _ _ _ us hl => match us, hl with | [_, _], _ => rfl
  have F19 := fun_mk (st := s_law) l19 c19 k19
  have b19 := F19.binds (ps := ["_law_script"]) fun _ _ _ _ _ _ us hl => match us, hl with | [_], _ => rfl
  let a : Ad := { w := w, p := l.prog, f_is_number := f0, d_is_number := (PySem.W.fnOf "is_number" "is_number" (defArgs s_is_number) (defBody s_is_number) (defScope s_is_number) .none kV0 dc0 pm0 an0 cd0 ct0), f_need_number := f1, d_need_number := (PySem.W.fnOf "need_number" "need_number" (defArgs s_need_number) (defBody s_need_number) (defScope s_need_number) .none kV1 dc1 pm1 an1 cd1 ct1), f_cost := f2, d_cost := (PySem.W.fnOf "cost" "cost" (defArgs s_cost) (defBody s_cost) (defScope s_cost) .none kV2 dc2 pm2 an2 cd2 ct2), f_fullest_frame := f3, d_fullest_frame := (PySem.W.fnOf "fullest_frame" "fullest_frame" (defArgs s_fullest_frame) (defBody s_fullest_frame) (defScope s_fullest_frame) .none kV3 dc3 pm3 an3 cd3 ct3), f_phase_for := f4, d_phase_for := (PySem.W.fnOf "phase_for" "phase_for" (defArgs s_phase_for) (defBody s_phase_for) (defScope s_phase_for) .none kV4 dc4 pm4 an4 cd4 ct4), f_with_end := f5, d_with_end := (PySem.W.fnOf "with_end" "with_end" (defArgs s_with_end) (defBody s_with_end) (defScope s_with_end) (.ref dT5) kV5 dc5 pm5 an5 cd5 ct5), f_let_in := f6, d_let_in := (PySem.W.fnOf "let_in" "let_in" (defArgs s_let_in) (defBody s_let_in) (defScope s_let_in) .none kV6 dc6 pm6 an6 cd6 ct6), f__law_bag := f7, d__law_bag := (PySem.W.fnOf "_law_bag" "_law_bag" (defArgs s__law_bag) (defBody s__law_bag) (defScope s__law_bag) .none kV7 dc7 pm7 an7 cd7 ct7), f__law_pull := f8, d__law_pull := (PySem.W.fnOf "_law_pull" "_law_pull" (defArgs s__law_pull) (defBody s__law_pull) (defScope s__law_pull) .none kV8 dc8 pm8 an8 cd8 ct8), f__law_whole := f9, d__law_whole := (PySem.W.fnOf "_law_whole" "_law_whole" (defArgs s__law_whole) (defBody s__law_whole) (defScope s__law_whole) .none kV9 dc9 pm9 an9 cd9 ct9), f__law_same := f10, d__law_same := (PySem.W.fnOf "_law_same" "_law_same" (defArgs s__law_same) (defBody s__law_same) (defScope s__law_same) .none kV10 dc10 pm10 an10 cd10 ct10), f__law_one := f11, d__law_one := (PySem.W.fnOf "_law_one" "_law_one" (defArgs s__law_one) (defBody s__law_one) (defScope s__law_one) .none kV11 dc11 pm11 an11 cd11 ct11), f__law_end := f12, d__law_end := (PySem.W.fnOf "_law_end" "_law_end" (defArgs s__law_end) (defBody s__law_end) (defScope s__law_end) .none kV12 dc12 pm12 an12 cd12 ct12), f__law_ends := f13, d__law_ends := (PySem.W.fnOf "_law_ends" "_law_ends" (defArgs s__law_ends) (defBody s__law_ends) (defScope s__law_ends) .none kV13 dc13 pm13 an13 cd13 ct13), f__law_frames := f14, d__law_frames := (PySem.W.fnOf "_law_frames" "_law_frames" (defArgs s__law_frames) (defBody s__law_frames) (defScope s__law_frames) .none kV14 dc14 pm14 an14 cd14 ct14), f__law_phase := f15, d__law_phase := (PySem.W.fnOf "_law_phase" "_law_phase" (defArgs s__law_phase) (defBody s__law_phase) (defScope s__law_phase) .none kV15 dc15 pm15 an15 cd15 ct15), f__law_full := f16, d__law_full := (PySem.W.fnOf "_law_full" "_law_full" (defArgs s__law_full) (defBody s__law_full) (defScope s__law_full) .none kV16 dc16 pm16 an16 cd16 ct16), f__law_said := f17, d__law_said := (PySem.W.fnOf "_law_said" "_law_said" (defArgs s__law_said) (defBody s__law_said) (defScope s__law_said) .none kV17 dc17 pm17 an17 cd17 ct17), f__law_let := f18, d__law_let := (PySem.W.fnOf "_law_let" "_law_let" (defArgs s__law_let) (defBody s__law_let) (defScope s__law_let) .none kV18 dc18 pm18 an18 cd18 ct18), f_law := fa, d_law := (PySem.W.fnOf "law" "law" (defArgs s_law) (defBody s_law) (defScope s_law) .none kV19 dc19 pm19 an19 cd19 ct19), c_BusError := C_BusError, c_BadNumber := C_BadNumber, c_NoRoom := C_NoRoom, k_TIMED_ROOM := tk_TIMED_ROOM, k_TURN_ROOM := tk_TURN_ROOM, k_ROUND := tk_ROUND }
  have T : Txt K mg a := { F_is_number := F0, g_is_number := PySem.W.mg_of X G a0, b_is_number := b0, F_need_number := F1, g_need_number := PySem.W.mg_of X G a1, b_need_number := b1, F_cost := F2, g_cost := PySem.W.mg_of X G a2, b_cost := b2, F_fullest_frame := F3, g_fullest_frame := PySem.W.mg_of X G a3, b_fullest_frame := b3, F_phase_for := F4, g_phase_for := PySem.W.mg_of X G a4, b_phase_for := b4, kb_with_end := kb5, F_with_end := F5, g_with_end := PySem.W.mg_of X G a5, b_with_end := b5, F_let_in := F6, g_let_in := PySem.W.mg_of X G a6, b_let_in := b6, F__law_bag := F7, g__law_bag := PySem.W.mg_of X G a7, b__law_bag := b7, F__law_pull := F8, g__law_pull := PySem.W.mg_of X G a8, b__law_pull := b8, F__law_whole := F9, g__law_whole := PySem.W.mg_of X G a9, b__law_whole := b9, F__law_same := F10, g__law_same := PySem.W.mg_of X G a10, b__law_same := b10, F__law_one := F11, g__law_one := PySem.W.mg_of X G a11, b__law_one := b11, F__law_end := F12, g__law_end := PySem.W.mg_of X G a12, b__law_end := b12, F__law_ends := F13, g__law_ends := PySem.W.mg_of X G a13, b__law_ends := b13, F__law_frames := F14, g__law_frames := PySem.W.mg_of X G a14, b__law_frames := b14, F__law_phase := F15, g__law_phase := PySem.W.mg_of X G a15, b__law_phase := b15, F__law_full := F16, g__law_full := PySem.W.mg_of X G a16, b__law_full := b16, F__law_said := F17, g__law_said := PySem.W.mg_of X G a17, b__law_said := b17, F__law_let := F18, g__law_let := PySem.W.mg_of X G a18, b__law_let := b18, F_law := F19, g_law := PySem.W.mg_of X G a19, b_law := b19, gC_BusError := PySem.W.mg_of X G aC_BusError, gC_BadNumber := PySem.W.mg_of X G aC_BadNumber, gC_NoRoom := PySem.W.mg_of X G aC_NoRoom, xC_BadNumber := xC_BadNumber, kC_BadNumber := kC_BadNumber, bC_BadNumber := bC_BadNumber, tC_BadNumber := tC_BadNumber, o_NoRoom := { gC := PySem.W.mg_of X G aC_NoRoom, cls := ⟨_, _, _, _, _, _, _, _, _, _, _, _, _, _, _, xL_NoRoom, rv_NoRoom⟩, sa := sa_NoRoom, ga := ga_NoRoom, gg := gg_NoRoom, noN := na_NoRoom, kC := kp_NoRoom, exC := ex_NoRoom, veC := ve_NoRoom, mrC := mr_NoRoom, tyC := ty_NoRoom, hdC := hq_NoRoom, sup := su_NoRoom, noT := nt_NoRoom, noL := nl_NoRoom, noS := nz_NoRoom, top := tp_NoRoom, fn := ⟨fi_NoRoom, cc_NoRoom, cd_NoRoom, ii_NoRoom, ti_NoRoom, ⟨_, _, _, lc_NoRoom⟩, ⟨_, _, _, _, _, _, ld_NoRoom, lf_NoRoom, fe_NoRoom⟩, ⟨_, _, _, _, _, _, _, _, _, _, _, _, _, _, _, _, _, _, _, _, _, _,  li_NoRoom, co_NoRoom, by decide, rfl⟩⟩ }, m_NoRoom_NoRoom := PySem.W.exm_ref eb_NoRoom eh_NoRoom et_NoRoom es_NoRoom_NoRoom, m_NoRoom_BusError := PySem.W.exm_ref eb_BusError eh_BusError et_BusError es_NoRoom_BusError, e_NoRoom := ⟨hg_NoRoom, hk_NoRoom, hs_NoRoom, hd_NoRoom, ha_NoRoom, hn_NoRoom, ht_NoRoom, hm_NoRoom⟩, kit_NoRoom_NoRoom := kit_self, g_TIMED_ROOM := PySem.W.mg_of X G aK_TIMED_ROOM, g_TURN_ROOM := PySem.W.mg_of X G aK_TURN_ROOM, g_ROUND := PySem.W.mg_of X G aK_ROUND, n_all := PySem.W.mg_none_of X G z_all, n_bool := PySem.W.mg_none_of X G z_bool, n_enumerate := PySem.W.mg_none_of X G z_enumerate, n_int := PySem.W.mg_none_of X G z_int, n_isinstance := PySem.W.mg_none_of X G z_isinstance, n_len := PySem.W.mg_none_of X G z_len, n_list := PySem.W.mg_none_of X G z_list, n_max := PySem.W.mg_none_of X G z_max, n_min := PySem.W.mg_none_of X G z_min, n_range := PySem.W.mg_none_of X G z_range, n_set := PySem.W.mg_none_of X G z_set, n_sorted := PySem.W.mg_none_of X G z_sorted, n_str := PySem.W.mg_none_of X G z_str, n_tuple := PySem.W.mg_none_of X G z_tuple }
  exact ⟨_, fun s v => .of_eq rfl, fun base _ _ => law_ok T⟩
end My
open PySem PySem.W PyProof.Rows
set_option maxRecDepth 100000 in
set_option maxHeartbeats 0 in
theorem PySem.Challenge.cw_plugtree_k20_who_is_let_in_holds : PySem.Challenge.rw_plugtree_k20_who_is_let_in.Holds := by
  w_on; o_law; k_head; (case hw => w_witness2)
  k_fill
  refine L2.walk_of (l := PySem.Challenge.rw_plugtree_k20_who_is_let_in) (n := 63) (k := 7) (x := "_law_script") (CX := fun _ => L2.CX0) (sp := fun w => My.spLaw _) rfl (by decide) rfl ⟨rfl, by decide, by decide⟩ (fun w h Y => PySem.W.kIn_of Y) ?F (fun _ _ a ns hl _ hS => ⟨a, ns, rfl, hS, hl, fun _ => rfl⟩) (fun _ _ _ _ _ h => h)
  case F =>
    intro w mg fa h KX G hmg
    refine' My.all_mk KX G hmg ?a0 ?l0 ?c0 ?k0 ?a1 ?l1 ?c1 ?k1 ?a2 ?l2 ?c2 ?k2 ?a3 ?l3 ?c3 ?k3 ?a4 ?l4 ?c4 ?k4 ?a5 ?l5 ?lD5 ?vD5 ?c5 ?k5 ?a6 ?l6 ?c6 ?k6 ?a7 ?l7 ?c7 ?k7 ?a8 ?l8 ?c8 ?k8 ?a9 ?l9 ?c9 ?k9 ?a10 ?l10 ?c10 ?k10 ?a11 ?l11 ?c11 ?k11 ?a12 ?l12 ?c12 ?k12 ?a13 ?l13 ?c13 ?k13 ?a14 ?l14 ?c14 ?k14 ?a15 ?l15 ?c15 ?k15 ?a16 ?l16 ?c16 ?k16 ?a17 ?l17 ?c17 ?k17 ?a18 ?l18 ?c18 ?k18 ?a19 ?l19 ?c19 ?k19 ?aC_BusError ?aC_BadNumber ?aC_NoRoom ?xC_BadNumber ?kC_BadNumber ?bC_BadNumber ?tC_BadNumber ?xL_NoRoom ?rv_NoRoom ?sa_NoRoom ?ga_NoRoom ?gg_NoRoom ?na_NoRoom ?kp_NoRoom ?ex_NoRoom ?ve_NoRoom ?mr_NoRoom ?ty_NoRoom ?hq_NoRoom ?su_NoRoom ?nt_NoRoom ?nl_NoRoom ?nz_NoRoom ?tp_NoRoom ?ii_NoRoom ?ti_NoRoom ?li_NoRoom ?co_NoRoom ?lc_NoRoom ?ld_NoRoom ?lf_NoRoom ?fe_NoRoom ?eb_NoRoom ?eh_NoRoom ?et_NoRoom ?es_NoRoom_NoRoom ?eb_BusError ?eh_BusError ?et_BusError ?es_NoRoom_BusError ?hg_NoRoom ?hk_NoRoom ?hs_NoRoom ?hd_NoRoom ?ha_NoRoom ?hn_NoRoom ?ht_NoRoom ?hm_NoRoom ?aK_TIMED_ROOM ?aK_TURN_ROOM ?aK_ROUND ?z_all ?z_bool ?z_enumerate ?z_int ?z_isinstance ?z_len ?z_list ?z_max ?z_min ?z_range ?z_set ?z_sorted ?z_str ?z_tuple
    (case a0 => k_is)
    (case l0 => k_is)
    (case c0 => k_is)
    (case k0 => k_is)
    (case a1 => k_is)
    (case l1 => k_is)
    (case c1 => k_is)
    (case k1 => k_is)
    (case a2 => k_is)
    (case l2 => k_is)
    (case c2 => k_is)
    (case k2 => k_is)
    (case a3 => k_is)
    (case l3 => k_is)
    (case c3 => k_is)
    (case k3 => k_is)
    (case a4 => k_is)
    (case l4 => k_is)
    (case c4 => k_is)
    (case k4 => k_is)
    (case a5 => k_is)
    (case l5 => k_is)
    (case lD5 => k_is)
    (case vD5 => exact ⟨rfl, _, _, rfl, by decide, .cons ⟨_, rfl⟩ (.nil)⟩)
    (case c5 => k_is)
    (case k5 => k_is)
    (case a6 => k_is)
    (case l6 => k_is)
    (case c6 => k_is)
    (case k6 => k_is)
    (case a7 => k_is)
    (case l7 => k_is)
    (case c7 => k_is)
    (case k7 => k_is)
    (case a8 => k_is)
    (case l8 => k_is)
    (case c8 => k_is)
    (case k8 => k_is)
    (case a9 => k_is)
    (case l9 => k_is)
    (case c9 => k_is)
    (case k9 => k_is)
    (case a10 => k_is)
    (case l10 => k_is)
    (case c10 => k_is)
    (case k10 => k_is)
    (case a11 => k_is)
    (case l11 => k_is)
    (case c11 => k_is)
    (case k11 => k_is)
    (case a12 => k_is)
    (case l12 => k_is)
    (case c12 => k_is)
    (case k12 => k_is)
    (case a13 => k_is)
    (case l13 => k_is)
    (case c13 => k_is)
    (case k13 => k_is)
    (case a14 => k_is)
    (case l14 => k_is)
    (case c14 => k_is)
    (case k14 => k_is)
    (case a15 => k_is)
    (case l15 => k_is)
    (case c15 => k_is)
    (case k15 => k_is)
    (case a16 => k_is)
    (case l16 => k_is)
    (case c16 => k_is)
    (case k16 => k_is)
    (case a17 => k_is)
    (case l17 => k_is)
    (case c17 => k_is)
    (case k17 => k_is)
    (case a18 => k_is)
    (case l18 => k_is)
    (case c18 => k_is)
    (case k18 => k_is)
    (case a19 => k_is)
    (case l19 => k_is)
    (case c19 => k_is)
    (case k19 => k_is)
    (case aC_BusError => k_is)
    (case aC_BadNumber => k_is)
    (case aC_NoRoom => k_is)
    (case xC_BadNumber => k_exc)
    (case kC_BadNumber => k_is)
    (case bC_BadNumber => k_is)
    (case tC_BadNumber => k_is)
    (case xL_NoRoom => k_is)
    (case rv_NoRoom => first | rfl | decide +kernel)
    (case sa_NoRoom => k_is)
    (case ga_NoRoom => k_is)
    (case gg_NoRoom => k_is)
    (case na_NoRoom => k_is)
    (case kp_NoRoom => k_is)
    (case ex_NoRoom => k_is)
    (case ve_NoRoom => k_is)
    (case mr_NoRoom => k_is)
    (case ty_NoRoom => k_is)
    (case hq_NoRoom => k_is)
    (case su_NoRoom => first | ks_is | k_is)
    (case nt_NoRoom => k_is)
    (case nl_NoRoom => k_is)
    (case nz_NoRoom => k_is)
    (case tp_NoRoom => first | rfl | decide +kernel)
    (case ii_NoRoom => k_is)
    (case ti_NoRoom => k_is)
    (case li_NoRoom => k_is)
    (case co_NoRoom => k_is)
    (case lc_NoRoom => k_is)
    (case ld_NoRoom => k_is)
    (case lf_NoRoom => first | rfl | decide +kernel)
    (case fe_NoRoom => first | rfl | decide +kernel)
    (case eb_NoRoom => k_is)
    (case eh_NoRoom => k_is)
    (case et_NoRoom => k_is)
    (case es_NoRoom_NoRoom => k_is)
    (case eb_BusError => k_is)
    (case eh_BusError => k_is)
    (case et_BusError => k_is)
    (case es_NoRoom_BusError => k_is)
    (case hg_NoRoom => k_is)
    (case hk_NoRoom => k_is)
    (case hs_NoRoom => k_is)
    (case hd_NoRoom => k_is)
    (case ha_NoRoom => k_is)
    (case hn_NoRoom => k_is)
    (case ht_NoRoom => k_is)
    (case hm_NoRoom => k_is)
    (case aK_TIMED_ROOM => k_is)
    (case aK_TURN_ROOM => k_is)
    (case aK_ROUND => k_is)
    (case z_all => k_is)
    (case z_bool => k_is)
    (case z_enumerate => k_is)
    (case z_int => k_is)
    (case z_isinstance => k_is)
    (case z_len => k_is)
    (case z_list => k_is)
    (case z_max => k_is)
    (case z_min => k_is)
    (case z_range => k_is)
    (case z_set => k_is)
    (case z_sorted => k_is)
    (case z_str => k_is)
    (case z_tuple => k_is)
